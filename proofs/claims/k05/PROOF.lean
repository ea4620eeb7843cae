import PyProof.Rows.All
import Wide.All
import OpenK.AllK
import Wide.FinOn
import PySem.Challenge.RW_twopartings_k05_coming_lists_of_few
import HandS.ForMost
import HandS.Wide
import HandS.WideBits
import PyProof.ReprRoads
import HandS.EndBits
import PyProof.ZipIter
import PyProof.CallType
import PyProof.Walk
import PyProof.WalkLemmas
import PyProof.RangeIter
import PyProof.RulesTry
import PyProof.TupleOfSeq
import KE.SortData
import KE.DataCmp
import HandS.DictComp
import HandS.Conv
import PyProof.Rows.BitMore
import PyProof.ReprLen
import KE.KMinBuiltin
import KE.GoesEnumKw
import KE.KRevSl
import HandS.IsInst
set_option Elab.async false
set_option linter.all false
set_option maxRecDepth 100000
set_option maxHeartbeats 4000000
namespace RepA
open PySem PySem.Spec PyProof.Rows L2

/-! ### data without a dict -/
mutual
theorem dp_nodict {K : PySem.W.Frag} {H : Hp} : ∀ (d : PyData) (v : V), Dp K H v d → d.hasDict = false
  | .none, _, _ => by simp only [PyData.hasDict]
  | .bool _, _, _ => by simp only [PyData.hasDict]
  | .int _, _, _ => by simp only [PyData.hasDict]
  | .str _, _, _ => by simp only [PyData.hasDict]
  | .list ds, _, h => by
    cases h with
    | lst hs ha =>
      simp only [PyData.hasDict]
      exact dpAll_nodict ds _ ha
  | .tuple ds, _, h => by
    cases h with
    | tup hs ha =>
      simp only [PyData.hasDict]
      exact dpAll_nodict ds _ ha
  | .dict _, _, h => by cases h
theorem dpAll_nodict {K : PySem.W.Frag} {H : Hp} : ∀ (ds : List PyData) (vs : List V), DpAll K H vs ds → PyData.hasDictAll ds = false
  | [], _, _ => by simp only [PyData.hasDictAll]
  | d :: ds, _, h => by
    cases h with
    | cons h1 h2 => simp only [PyData.hasDictAll, dp_nodict d _ h1, dpAll_nodict ds _ h2, Bool.or_self]
end

/-! ### an item: data, or an empty dict -/
def Dd (K : PySem.W.Frag) (H : Hp) (v : V) (d : PyData) : Prop := Dp K H v d ∨ ∃ a, v = .ref a ∧ H a = some (.dK []) ∧ d = .dict []
inductive DdAll (K : PySem.W.Frag) (H : Hp) : List V → List PyData → Prop
  | nil : DdAll K H [] []
  | cons {v : V} {vs : List V} {d : PyData} {ds : List PyData} : Dd K H v d → DdAll K H vs ds → DdAll K H (v :: vs) (d :: ds)
theorem DdAll.of_dp {K : PySem.W.Frag} {H : Hp} : ∀ {vs : List V} {ds : List PyData}, DpAll K H vs ds → DdAll K H vs ds
  | _, _, .nil => .nil
  | _, _, .cons h r => .cons (.inl h) (.of_dp r)

section
variable {X : Cx} {pins : List (Addr × Obj)} {σ : L2.St} {H : Hp} {s : Shared}
theorem dd_reads (I : Inv X pins σ H s) {v : V} {u : Value} {d : PyData} (h : Dd X.K H v d) (r : RelV v u) : ∃ as, Reads s.heap u d as ∧ (d.hasDict = true → sysModules ∉ as) := by
  rcases h with h | ⟨a, rfl, ha, rfl⟩
  · obtain ⟨as, q⟩ := Dp.reads I d v u h r
    exact ⟨as, q, fun e => by rw [dp_nodict d v h] at e; cases e⟩
  · obtain rfl : u = Value.ref a := r
    obtain ⟨_, hn, vs, rel, dd⟩ := dk_of I.hok ha
    obtain ⟨o, es, ep, e1, e2, e3, e4⟩ := dd
    cases rel
    have hes : es.toList = [] := by
      have q := e4.2.1
      generalize es.toList = l at q
      cases q
      rfl
    refine ⟨[a], ?_, fun _ hm => ?_⟩
    · refine Reads.dict (as := []) (bs := []) e1 e2.1 e3 ?_ ?_
      · rw [hes]
        exact ReadsAll.nil
      · rw [hes]
        exact ReadsAll.nil
    · rcases List.mem_cons.mp hm with q | q
      · rw [q] at hn
        rw [beq_self_eq_true] at hn
        cases hn
      · cases q

/-- all items, each by itself -/
theorem dd_all (I : Inv X pins σ H s) : ∀ {vs : List V} {ds : List PyData} {us : List Value}, DdAll X.K H vs ds → Vals vs us → PyData.showableAll ds = true → (∀ t ∈ PyData.shownAll ds, t.length ≤ sizeLine) →
    (∃ as, ReadsAll s.heap us ds as) ∧ ∃ bs, ReadAtMost s.heap (PyData.depthAll ds) bs ∧ ReprAllK X.prog X.w bs s.heap (PyData.depthAll ds) us (PyData.shownAll ds)
  | _, _, _, .nil, .nil, _, _ => ⟨⟨_, .nil⟩, [], (fun _ h => nomatch h), by simp only [PyData.shownAll]; exact .nil⟩
  | _, _, _, .cons (d := d) (ds := ds) h hr, .cons r rr, hs, hz => by
    obtain ⟨s1, s2⟩ : d.showable = true ∧ PyData.showableAll ds = true := by simpa [PyData.showableAll] using hs
    obtain ⟨a1, q1, n1⟩ := dd_reads I h r
    obtain ⟨b1, m1, k1⟩ := ReprK.of_reads (prog := X.prog) (w := X.w) q1 s1 n1 (hz _ (by simp only [PyData.shownAll]; exact List.mem_cons_self ..))
    obtain ⟨⟨a2, q2⟩, b2, m2, k2⟩ := dd_all I hr rr s2 fun t ht => hz t (by simp only [PyData.shownAll]; exact List.mem_cons_of_mem _ ht)
    have l1 : d.depth ≤ PyData.depthAll (d :: ds) := by simp only [PyData.depthAll]; omega
    have l2 : PyData.depthAll ds ≤ PyData.depthAll (d :: ds) := by simp only [PyData.depthAll]; omega
    refine ⟨⟨_, .cons q1 q2⟩, b1 ++ b2, fun b hb => ?_, ?_⟩
    · rcases List.mem_append.mp hb with hb | hb
      · obtain ⟨d', as', r', z⟩ := m1 b hb
        exact ⟨d', as', r', Nat.le_trans z l1⟩
      · obtain ⟨d', as', r', z⟩ := m2 b hb
        exact ⟨d', as', r', Nat.le_trans z l2⟩
    · simp only [PyData.shownAll]
      exact .cons ((k1.more fun b hb => List.mem_append.mpr (.inl hb)).level_le l1) (k2.more_le (fun b hb => List.mem_append.mpr (.inr hb)) l2)

/-- repr of a list of data and empty dicts, where no guard stands -/
theorem call_reprL (hg : X.A.guards = some []) (hu : X.A.units + 64 < cLine) : CallR X (.builtin "repr") (fun xs H Q => ∃ a ys ds, xs = [V.ref a] ∧ SqL X.K H a ys ∧ DdAll X.K H ys ds ∧ PyData.showableAll ds = true ∧ PyData.depthAll ds ≤ 40 ∧
    (listText (PyData.shownAll ds)).length ≤ sizeLine ∧ Q (.str (PyData.list ds).shown) H) := by
  intro pins s σ H xs us Q I r h
  obtain ⟨a, ys, ds, rfl, hs, hd, hw, hdp, hz, q⟩ := h
  obtain ⟨u, rfl, ru⟩ := vals1 r
  obtain rfl : u = Value.ref a := ru
  obtain ⟨its, rv, ⟨o, n, ho, hc, hne, hda⟩, hsz⟩ := I.list hs
  obtain ⟨⟨as, hR⟩, bs, hb, hk⟩ := dd_all I hd rv hw fun t ht => Nat.le_trans (listText_mem_le ht) hz
  have rd : Reads s.heap (.ref a) (.list ds) (a :: as) := .list ho hc hda hR
  have hna : a ∉ bs := not_mem_of_deeper rd (by simp only [PyData.depth]; omega) hb
  have fin : ∀ (t tk : Nat) (h' : Heap), (∀ b o, s.heap.get? b = some o → h'.get? b = some o) → EP X pins σ Q (.str (listText (PyData.shownAll ds)) t) { s with heap := h', toks := tk } := fun t tk h' k =>
    ⟨.str _, H, I.kept k, ⟨t, rfl⟩, by simpa only [PyData.shown] using q⟩
  refine call_repr_slot (by omega) ⟨o, ho, hc⟩ F.slot_list_repr.toG ?_
  obtain ⟨l⟩ : ∃ l, l = its := ⟨_, rfl⟩
  cases its with
  | nil =>
    cases hR
    exact call_list_repr_empty ⟨o, ho, hc⟩ ho hda ⟨_, _, rfl, by simpa only [PyData.shownAll, listText_nil] using fin s.toks (s.toks + 1) s.heap fun _ _ e => e⟩
  | cons x l =>
    refine call_list_reprK (h₀ := s.heap) ho hc hda hna (by simpa using hk.length_eq) (fun i y e => hk.item i y (by simpa using e)) hg (fun b _ => Clear.nil b) (by show X.A.units + 1 + (PyData.depthAll ds + 1) < cLine; omega) (fun _ _ e => e) (fun h' t tk k => ⟨_, _, rfl, fin t tk h' k⟩) hz
end
end RepA

namespace RepA
open PySem PySem.Spec PyProof.Rows L2

/-! ### the promise of a def that is called where no guard stands -/
structure FnG (Pg : Program) (wd : World) (Kf : PySem.W.Frag) (gl : Str → Option Value) (bs : Heap) (cx : CXT) (lv : Nat) (fa : Addr) (dat : FuncData) (names : List Str) (prom : Sp) : Prop where
  cnt : ∀ xs G Qv Ex, prom xs G Qv Ex → xs.length = names.length
  go : ∀ (Ar : Around) (fr : List Env) (sh : Shared) (G : Hp) (ar : Args) (us : List Value) (xs : List V) (Qv : VK) (Ex : XK), Room lv Ar → Ar.guards = some [] →
    Env0 Pg wd Kf gl bs Ar fr sh G → BindsTo sh dat ar (names.zip us) → Vals xs us → prom xs G Qv Ex →
    codeAny (model Pg wd) Ar (.call (.ref fa) ar) (CR cx fr Pg wd G sh Qv Ex) sh

theorem FnG.of {Pg : Program} {wd : World} {Kf : PySem.W.Frag} {gl : Str → Option Value} {bs : Heap} {cx : CXT} {lv : Nat} {fa : Addr} {dat : FuncData} {names : List Str} {prom : Sp}
    (f : FnOk Pg wd Kf gl bs cx lv fa dat names prom) : FnG Pg wd Kf gl bs cx lv fa dat names prom :=
  ⟨f.len, fun Ar fr sh G ar us xs Qv Ex r _ e b v p => f.run Ar fr sh G ar us xs Qv Ex r e b v p⟩

/-- a def of the text by its body, where no guard stands -/
theorem okG {Pg : Program} {wd : World} {Kf : PySem.W.Frag} {gl : Str → Option Value} {bs : Heap} {nm qn : Str} {st : Stmt} {fa : Addr} {dat : FuncData} {slots names : List Str} {lv : Nat} {prom : Sp}
    (F : Fun Kf nm qn st fa dat) (S : FnScope slots names (defScope st)) (cnt : ∀ xs G Qv Ex, prom xs G Qv Ex → xs.length = names.length)
    (body : ∀ (cd : Value) (Ar : Around) (fr : List Env) (sh : Shared) (G : Hp) (xs : List V) (Qv : VK) (Ex : XK), Room lv (Ar.deeper (envOfC qn (defScope st) sh.heap.objs.size fa cd)) → Ar.guards = some [] → prom xs G Qv Ex →
      ∃ t, PSs (cxOf CX0 Pg wd Kf gl bs slots qn (defScope st) fa cd Ar fr sh G Ex).nox (defBody st) t ∧ t { nx := fun _ G' => Qv .non G', rt := Qv } (start slots xs) G) :
    FnG Pg wd Kf gl bs CX0 (lv + 1) fa dat names prom := by
  obtain ⟨oc, od, kV, doc, pm, an, cd, ct, osl, rfl, look, code⟩ := F.ex
  refine ⟨cnt, fun Ar fr sh G ar us xs Qv Ex room noG env bind vals hp => ?_⟩
  have sz := cnt _ _ _ _ hp
  have inK : Kf.In sh.heap := env.mod.kin.keeps fun b o q => (env.bs b o q).1
  have noL : sh.heap.NoLimit := env.mod.nolimit.keeps fun b o q => (env.bs b o q).1
  have kinds : ∀ y ∈ names.zip us, (defScope st).names.lookup y.1 = some .local ∨ ((defScope st).names.lookup y.1 = some .cell ∧ ((cellsFrom (sh.heap.objs.size + 1) (defScope st).names []).lookup y.1).isSome = true) := by
    rintro ⟨n, v⟩ hy
    rcases S.par n (List.of_mem_zip hy).1 with z | z
    · exact .inl z
    · exact .inr ⟨z, PySem.W.cellsFrom_some _ _ _ (.inl z)⟩
  refine codeAny_call_function room.depth (inK _ _ look) rfl S.co S.gen rfl (PySem.W.codeRec_of inK code) (bind _ _ _ _ ?_)
  refine wpAny_newFunctionEnv_cells S.kind kinds fun en hen sh1 inC => ?_
  subst hen
  refine ⟨noL.keeps inC.toInCall.keep, codeAny_func ?_⟩
  obtain ⟨t, walk, read⟩ := body cd Ar fr sh G xs Qv Ex (room.deeper _) noG hp
  have I0 := inv_start (CX := CX0) (P := Pg) (w := wd) (K := Kf) (mg := gl) (base := bs) (E := Ex) S room.hd env sz vals inC
  refine wpAny_mono (walk.nox.run [] sh1 _ G _ I0 read) (fun fl sh2 out => ?_) fun _ _ x => x
  cases fl with
  | ret u =>
    obtain ⟨v, σ2, G2, J, rel, q⟩ := out
    exact ⟨v, G2, J.os, J.bare, J.base, J.hok, rel, q⟩
  | next =>
    obtain ⟨σ2, G2, J, q⟩ := out
    exact ⟨V.non, G2, J.os, J.bare, J.base, J.hok, (rfl : RelV V.non Value.none), q⟩
  | brk => exact out.elim fun _ z => z.elim fun _ z => z.2.elim
  | cont => exact out.elim fun _ z => z.elim fun _ z => z.2.elim

section
variable {X : Cx} {x : Str} {p pos : Pos} {e : Expr} {es : List Expr} {t : TA} {CX : CXT} {k : Nat} {f : Addr} {fd : FuncData} {ps : List Str} {sp : Sp} {ds : List Value} {dvs : List V} {E : XK}
/-- f(e, ..), f such a def -/
theorem pe_callG (F : FnG X.prog X.w X.K X.mg X.base CX k f fd ps sp) (room : Room k X.A) (noG : X.A.guards = some []) (hg : Gl X x) (hm : X.mg x = some (.ref f)) (kp : PySem.W.keepIn X.K (.ref f) = true) (bd : Binds X.K fd ps ds) (dv : Vals dvs ds) (ps' : Passes CX X E)
    (args : PA X (e :: es) t) (hdb : (x == ("__debug__" : Str)) = false := by decide) (h1 : starEach (e :: es) X.env = (false, eval e X.env) :: starEach es X.env := by rfl) (h2 : (backTo pos (starEach es X.env)).any (·.1) = false := by rfl) :
    PE X (.Call (.Name x p) (e :: es) [] pos) (tCall sp dvs E t) := by
  refine ⟨fun pins s σ H Q I rd => ?_⟩
  refine wpAny_Call_Name_kw (ld_glob I hg hm ?_ hdb)
  refine PySem.W.callWith_K (h₀ := X.base) I.ok.mod.kin kp (thn (args.run pos pins s σ H _ I rd) fun us s1 ⟨vs, H1, I1, rv, q⟩ => ⟨I1.kIn, ?_⟩) h1 h2
  have rv2 : Vals (vs ++ dvs) (us ++ ds) := rv.append dv
  have sz : (us ++ ds).length = ps.length := rv2.length.symm.trans (F.cnt _ _ _ _ q)
  refine wpAny_call (codeAny_mono (F.go X.A X.stack s1 H1 ⟨us, []⟩ _ _ Q E room noG I1.env0 (bd s1 us I1.kIn sz) rv2 q) fun r s2 out => ?_)
  match r, out with
  | .error er, out => exact ps' pins σ H1 s1 er s2 I1 out
  | .ok (.ret u), out => exact I1.after out
  | .ok .next, out => exact out.elim
  | .ok .brk, out => exact out.elim
  | .ok .cont, out => exact out.elim
end
end RepA

namespace RepA
open PySem PySem.Spec PyProof.Rows L2

/-- the law's call from the caller, over an abstract heap that holds at most the script -/
theorem from_caller {Pg : Program} {wd : World} {Kf : PySem.W.Frag} {gl mb : Str → Option Value} {cx : CXT} {lv : Nat} {fa a : Addr} {dat : FuncData} {x : Str} {prom : Sp} {sh : Shared} {ob : Obj} {n0 : Nat} {vals : Array Value}
    (inK : Kf.In sh.heap) (nG : sh.heap.Ns mainGlobals gl) (nB : sh.heap.Ns builtinsNs mb) (isB : ∀ y : Str, y ≠ "__name__" → mb y = bootBuiltins y) (noL : sh.heap.NoLimit) (noGen : sh.gens = #[]) (at_a : sh.heap.get? a = some ob) (list_a : ob.data = .seq vals n0)
    (room : Room lv callerA) (F : ∀ bs : Heap, Kf.In bs → bs.Ns mainGlobals gl → FnG Pg wd Kf gl bs cx lv fa dat [x] prom) (bd : ∀ (s : Shared) (u : Value), BindsTo s dat ⟨[u], []⟩ [(x, u)])
    (noX : ∀ G e s', cx [] G sh (fun _ _ _ => False) e s' → False) (G : Hp) (only : Only G) (keeps : HOk Pg wd G sh.heap) (justA : ∀ b, G b ≠ none → b = a) (notK : G a ≠ none → Kf.lookup a = none)
    (hp : prom [.ref a] G (fun v _ => v = .bl true) fun _ _ _ => False) :
    codeAny (model Pg wd) callerA (.call (.ref fa) ⟨[.ref a], []⟩) (fun r s' => r = .ok (.ret (.bool true)) ∧ OldK sh.heap s'.heap ∧ s'.os = sh.os ∧ AllBare s'.gens) sh := by
  have free : ∀ {b : Addr}, b ≠ a → G b = none := fun {b} ne => Classical.byContradiction fun z => ne (justA b z)
  have hides : ∀ {b : Addr} {o : Obj}, sh.heap.get? b = some o → G b = none → (hidT sh.heap G).get? b = some o := fun q z => hidT_get q z
  have ns : ∀ {b : Addr} {m : Str → Option Value}, sh.heap.Ns b m → (hidT sh.heap G).Ns b m := fun {b m} h => by
    obtain ⟨o, es, ep, q, dd, rest⟩ := h
    refine ⟨o, es, ep, hides q (free fun z => ?_), dd, rest⟩
    rw [z, at_a] at q
    cases q
    rw [list_a] at dd
    cases dd
  have inK' : Kf.In (hidT sh.heap G) := fun b o q => hides (inK b o q) (by
    rcases Option.eq_none_or_eq_some (G b) with z | ⟨u, z⟩
    · exact z
    · have ne : G b ≠ none := by rw [z]; exact fun c => nomatch c
      have ba := justA b ne
      rw [ba] at q ne
      rw [notK ne] at q
      cases q)
  have md : Mod Kf gl (hidT sh.heap G) := ⟨inK', ns nG, ⟨mb, ns nB, isB⟩, let ⟨mc, z1, z2⟩ := noL; ⟨mc, ns z1, z2⟩⟩
  have env : Env0 Pg wd Kf gl (hidT sh.heap G) callerA [] sh G := ⟨rfl, md, fun _ _ q => of_hidT q, Nat.le_of_eq (hidT_size _ _), trivial, (fun b hb => nomatch hb), keeps, .of_eq noGen⟩
  refine codeAny_mono ((F _ inK' (ns nG)).go callerA [] sh G ⟨[.ref a], []⟩ [.ref a] [.ref a] _ _ room rfl env (bd sh (.ref a)) (.cons rfl .nil) hp) fun r s' out => ?_
  match r, out with
  | .error er, out => exact (noX G er s' out).elim
  | .ok .next, out => exact out.elim
  | .ok .brk, out => exact out.elim
  | .ok .cont, out => exact out.elim
  | .ok (.ret u), out =>
    obtain ⟨v, G', hos, hbare, un, keeps', rel, ev⟩ := out
    have ev' : v = .bl true := ev
    subst ev'
    obtain rfl : u = Value.bool true := rel
    refine ⟨rfl, OldK.of_keep fun b o q => ?_, hos, hbare⟩
    rcases only b with z | ⟨o2, ys, z⟩
    · exact un.keep b o q z (fun c => nomatch c) (fun c => nomatch c)
    · obtain ⟨w1, _⟩ := keeps b _ z
      obtain ⟨w2, _⟩ := keeps' b _ (un.frzs b o2 _ z)
      rw [q] at w1
      cases w1
      exact w2

theorem law_callG {Pg : Program} {wd : World} {Kf : PySem.W.Frag} {gl mb : Str → Option Value} {cx : CXT} {lv : Nat} {fa a : Addr} {dat : FuncData} {x : Str} {prom : Sp} {sh : Shared} {vals : List Value} {ns : List Int}
    (inK : Kf.In sh.heap) (nG : sh.heap.Ns mainGlobals gl) (nB : sh.heap.Ns builtinsNs mb) (isB : ∀ y : Str, y ≠ "__name__" → mb y = bootBuiltins y) (noL : sh.heap.NoLimit) (noGen : sh.gens = #[])
    (at_a : sh.heap.get? a = some { cls := .type "list", data := .seq vals.toArray }) (inz : IntsAre vals ns) (short : ns.length ≤ sizeLine) (room : Room lv callerA)
    (F : ∀ bs : Heap, Kf.In bs → bs.Ns mainGlobals gl → FnG Pg wd Kf gl bs cx lv fa dat [x] prom) (bd : ∀ (s : Shared) (u : Value), BindsTo s dat ⟨[u], []⟩ [(x, u)])
    (hp : ∀ G : Hp, Only G → SqL Kf G a (ns.map V.int) → prom [.ref a] G (fun v _ => v = .bl true) fun _ _ _ => False) (noX : ∀ G e s', cx [] G sh (fun _ _ _ => False) e s' → False) :
    codeAny (model Pg wd) callerA (.call (.ref fa) ⟨[.ref a], []⟩) (fun r s' => r = .ok (.ret (.bool true)) ∧ OldK sh.heap s'.heap ∧ s'.os = sh.os ∧ AllBare s'.gens) sh := by
  have rv := vals_ints inz
  rcases Option.eq_none_or_eq_some (Kf.lookup a) with nk | ⟨o, isK⟩
  · let G : Hp := fun b => if b = a then some (.frz { cls := .type "list", data := .seq vals.toArray } (.lst (ns.map V.int))) else none
    have ga : G a = some (.frz { cls := .type "list", data := .seq vals.toArray } (.lst (ns.map V.int))) := if_pos rfl
    have gb : ∀ {b : Addr}, b ≠ a → G b = none := fun ne => if_neg ne
    have justA : ∀ b, G b ≠ none → b = a := fun b z => Classical.byContradiction fun ne => z (gb ne)
    have only : Only G := fun b => by
      by_cases ne : b = a
      · subst ne
        exact .inr ⟨_, _, ga⟩
      · exact .inl (gb ne)
    refine from_caller inK nG nB isB noL noGen at_a rfl room F bd noX G only (fun b u z => ?_) justA (fun _ => nk) (hp G only (.inl (.inr ⟨_, ga⟩)))
    have ba := justA b (by rw [z]; exact fun c => nomatch c)
    subst ba
    rw [ga] at z
    cases z
    exact ⟨at_a, by rw [List.length_map]; exact short, vals, _, rv, at_a⟩
  · have e := inK a o isK
    rw [at_a] at e
    cases e
    exact from_caller inK nG nB isB noL noGen at_a rfl room F bd noX (fun _ => none) (fun _ => .inl rfl) (fun b u z => nomatch z) (fun b z => absurd rfl z) (fun z => absurd rfl z)
      (hp _ (fun _ => .inl rfl) (.inr ⟨_, vals.toArray, _, isK, rfl, rfl, rfl, by rw [List.size_toArray, inz.length]; exact short, by simpa using rv⟩))

/-- the end of a law row, for a law that asks where no guard stands; the script's bits told -/
theorem walk_ofG {l : PySem.W.OpenLaw} {n lv : Nat} {q : Program} {loose : List Str} {XP : (Str → Option Value) → Heap → Prop} {YP : World → Heap → Prop} {d : DefRec} {K : Params → PySem.W.Frag} {cx : World → CXT} {prom : World → Sp} {x : Str}
    (most : l.most = some n) (short : n ≤ sizeLine) (noD : d.params.defaults = []) (room : Room lv callerA) (hY : ∀ (w : World) (h : Heap), YP w h → (K w.params).In h)
    (F : ∀ (w : World) (gl : Str → Option Value) (fa : Addr) (h : Heap), (K w.params).In h → h.Ns mainGlobals gl → gl d.name = some (.ref fa) →
      ∃ dat : FuncData, (∀ (s : Shared) (u : Value), BindsTo s dat ⟨[u], []⟩ [(x, u)]) ∧ ∀ bs : Heap, (K w.params).In bs → bs.Ns mainGlobals gl → FnG l.prog w (K w.params) gl bs (cx w) lv fa dat [x] (prom w))
    (hp : ∀ (w : World) (G : Hp) (a : Addr) (ns : List Int), ns.length ≤ n → (∀ z ∈ ns, Builtin.Int.intBits z ≤ 1048576) → Only G → SqL (K w.params) G a (ns.map V.int) → prom w [.ref a] G (fun v _ => v = .bl true) fun _ _ _ => False)
    (noX : ∀ (w : World) (G : Hp) (s : Shared) (e : Value) (s' : Shared), cx w [] G s (fun _ _ _ => False) e s' → False) :
    PySem.W.WalkO q loose XP YP l.row.toRowW d [] (fun f vs => PySem.call f vs) := by
  refine Att.attach_callB most noD fun w _ sh gl mb fa _ _ _ _ a vals ns gr y _ _ _ named at_a inz few bits noGen => ?_
  obtain ⟨dat, bd, FG⟩ := F w gl fa _ (hY w _ y) gr.T.g named
  exact law_callG (hY w _ y) gr.T.g gr.T.b gr.T.builtins gr.T.nolimit noGen at_a inz (Nat.le_trans few short) room FG bd (fun G o s => hp w G a ns few bits o s) fun G e s' => noX w G sh e s'
end RepA

/-! itertools.combinations(list, 2), made and drawn. -/
namespace Comb
open PySem PySem.Spec
open Sem (wp)
abbrev cName : String := "itertools.combinations"
theorem cMro : mroOf (.type "itertools.combinations") = pure [.type "itertools.combinations", .type "object"] := by rw [mroOf_type]; kernel_rfl
theorem cNew : typeLookup (.type "itertools.combinations") "__new__" = pure (some (.builtin "itertools.combinations.__new__")) := by rw [typeLookup_type, builtinLookup_eq_fast]; kernel_rfl
theorem cInit : Slot "itertools.combinations" "__init__" "object.__init__" :=
  .of (owner := "object") (n := "__init__") (by rw [typeLookup_type, builtinLookup_eq_fast]; kernel_rfl) (by decide +kernel) (by decide +kernel) (by decide +kernel) (by first | exact .inl (by decide +kernel) | exact .inr (by decide +kernel)) (by rw [isSubtype_type]; kernel_rfl)
theorem cSub : isSubtype (.type "itertools.combinations") (.type "itertools.combinations") = pure true := by rw [isSubtype_type]; kernel_rfl
theorem cCalled : TypeCalled "itertools.combinations" "itertools.combinations.__new__" "object.__init__" :=
  ⟨by decide +kernel, by decide +kernel, ⟨_, _, cMro⟩, madeBy_type cMro cNew (by decide +kernel), by decide +kernel, cSub, cInit⟩
theorem cType2 (a b : Value) : checkTypeCall "itertools.combinations" ⟨[a, b], []⟩ = pure () := by kernel_rfl
theorem cNew2 (a b : Value) : checkBuiltinCall "itertools.combinations.__new__" ⟨[.type "itertools.combinations", a, b], []⟩ = pure () := by kernel_rfl
theorem cEntryNew : entryFor table "itertools.combinations.__new__" = some Builtin.«itertools.combinations.__new__» := entryFor_of_tree (by kernel_rfl)
theorem cEntryNext : entryFor table "itertools.combinations.__next__" = some Builtin.«itertools.combinations.__next__» := entryFor_of_tree (by kernel_rfl)
theorem cEntryIter : entryFor table "itertools.combinations.__iter__" = some Builtin.«dict_keyiterator.__iter__» :=
  entryFor_alias (id' := "dict_keyiterator.__iter__") (by kernel_rfl) (by first | rfl | decide +kernel | (unfold String.splitOn; simp +decide [String.splitOnAux])) (by decide +kernel) (by kernel_rfl)
theorem cIter : Slot "itertools.combinations" "__iter__" "itertools.combinations.__iter__" :=
  .of (owner := "itertools.combinations") (n := "__iter__") (by rw [typeLookup_type, builtinLookup_eq_fast]; kernel_rfl) (by decide +kernel) (by decide +kernel) (by decide +kernel) (by first | exact .inl (by decide +kernel) | exact .inr (by decide +kernel)) cSub
theorem cNext : Slot "itertools.combinations" "__next__" "itertools.combinations.__next__" :=
  .of (owner := "itertools.combinations") (n := "__next__") (by rw [typeLookup_type, builtinLookup_eq_fast]; kernel_rfl) (by decide +kernel) (by decide +kernel) (by decide +kernel) (by first | exact .inl (by decide +kernel) | exact .inr (by decide +kernel)) cSub
theorem cOwner : Manifest.owners.lookup (String.ofList "snoitanibmoc.slootreti".toList.reverse) = some Manifest.sig_itertools_combinations := by kernel_rfl
theorem cArgsIter (a : Value) : argsOk "itertools.combinations.__iter__" ⟨[a], []⟩ := by
  unfold argsOk
  rw [signature?_of (id := "itertools.combinations.__iter__") (n := ['_', '_', 'r', 'e', 't', 'i', '_', '_']) (o := "snoitanibmoc.slootreti".toList) (by kernel_rfl) cOwner]
  kernel_rfl
theorem cArgsNext (a : Value) : argsOk "itertools.combinations.__next__" ⟨[a], []⟩ := by
  unfold argsOk
  rw [signature?_of (id := "itertools.combinations.__next__") (n := ['_', '_', 't', 'x', 'e', 'n', '_', '_']) (o := "snoitanibmoc.slootreti".toList) (by kernel_rfl) cOwner]
  kernel_rfl
theorem cNoDict : typeHasDict (.type "itertools.combinations") = false := by decide +kernel

/-- such an object: its pool, its state, what it handed out last, its places -/
def recC (pool : Addr) (st : Int) (last : Value) (i j : Int) : Obj := { cls := .type "itertools.combinations", dict := none, data := .fields #[.ref pool, rawInt st, last, rawInt i, rawInt j], slots := #[] }
abbrev IsC (h : Heap) (it pool : Addr) (st : Int) (last : Value) (i j : Int) : Prop := h.get? it = some (recC pool st last i j)
def tupO (xs : Array Value) : Obj := { cls := .type "tuple", data := .seq xs }

end Comb

namespace Comb
open PySem PySem.Spec
open Sem (wp)
theorem joinName : "itertools." ++ "combinations" = "itertools.combinations" := by decide
theorem new_meets (l : Addr) (o : Obj) (items : Array Value) (n : Nat) (t : Tok) (hc : o.cls = .type "list") (hd : o.data = .seq items n) (hsz : items.size ≤ sizeLine) :
    Meets (Builtin.«itertools.combinations.__new__» ⟨[.type "itertools.combinations", .ref l, .int 2 t], []⟩)
      (fun _ R s => s.heap.get? l = some o ∧ ∀ h' : Heap, (∀ b u, s.heap.get? b = some u → h'.get? b = some u) → R (.ok (.ret (.ref (h'.objs.size + 1)))) { s with heap := (h'.push (tupO items)).push (recC h'.objs.size (if 2 > items.size then 2 else 0) .none 0 1) }) :=
  .of_wp fun prog w A R s h => by
    obtain ⟨hp, g, dd, tk, os⟩ := s
    obtain ⟨at_l, h⟩ := h
    have hsub := cSub
    have hdic := cNoDict
    have hT : Shared.TypeIs ⟨hp, g, dd, tk, os⟩ (.ref l) "list" := ⟨o, at_l, hc⟩
    unfold Builtin.«itertools.combinations.__new__»
    repeat (first
      | (with_reducible refine wpAny_collect_seq (hsz := hsz) l (.inl rfl) at_l hc hd fun h' keep => ?_)
      | wp_step
      | (rw [joinName]))
    refine ⟨_, rfl, ?_⟩
    have e1 : items.toList.toArray = items := by simp
    have e2 : (h'.push (tupO items)).objs.size = h'.objs.size + 1 := Heap.size_push ..
    have e3 : items.toList.length = items.size := by simp
    rw [e1, e3]
    have q := h h' keep
    rw [← e2] at q
    exact q

end Comb

namespace Comb
open PySem PySem.Spec
open Sem (wp)
section
variable {prog : Program} {w : World} {A : Around} {E : Value → Shared → Prop} {s : Shared}
/-- combinations(l, 2): the heap grows by what is kept, then by the pool and the record -/
theorem call_comb {l : Addr} {o : Obj} {items : Array Value} {n : Nat} {t : Tok} {Q : Value → Shared → Prop} (at_l : s.heap.get? l = some o) (hc : o.cls = .type "list") (hd : o.data = .seq items n) (hsz : items.size ≤ sizeLine)
    (h : ∀ h1 : Heap, (∀ b u, s.heap.get? b = some u → h1.get? b = some u) → Q (.ref (h1.objs.size + 1)) { s with heap := (h1.push (tupO items)).push (recC h1.objs.size (if 2 > items.size then 2 else 0) .none 0 1) }) :
    wpAny (model prog w) A (call (.type "itertools.combinations") [.ref l, .int 2 t]) Q E s := by
  refine callType_new cCalled (by decide +kernel) (cType2 _ _) (cNew2 _ _) (fun obj => F.args_object_init_3 obj _ _) cEntryNew (new_meets l o items n t hc hd hsz) ?_
  refine ⟨at_l, fun h1 keep => ⟨⟨recC h1.objs.size (if 2 > items.size then 2 else 0) .none 0 1, ?_, rfl⟩, h h1 keep⟩⟩
  have sz : (h1.push (tupO items)).objs.size = h1.objs.size + 1 := Heap.size_push ..
  show Heap.get? _ (h1.objs.size + 1) = some (recC h1.objs.size (if 2 > items.size then 2 else 0) .none 0 1)
  rw [← sz]
  exact Heap.get?_push_size _ rfl
theorem iter_comb {it pool : Addr} {st i j : Int} {last : Value} {Q : Value → Shared → Prop} (hit : IsC s.heap it pool st last i j) (h : Q (.ref it) s) : wpAny (model prog w) A (pyIter (.ref it)) Q E s := by
  have hT : s.TypeIs (.ref it) "itertools.combinations" := ⟨_, hit, rfl⟩
  refine wpAny_pyIter_slot hT cIter (wpAny_call_entry cIter hT cEntryIter ?_ (cArgsIter _))
  show wpAny _ _ (ret (.ref it)) _ _ s
  exact wpAny_pure ⟨_, rfl, "itertools.combinations", _, hT, cNext.lookup, h⟩

theorem apart {h : Heap} {it pool : Addr} {st i j : Int} {last : Value} {items : Array Value} (hit : IsC h it pool st last i j) (hp : h.get? pool = some (tupO items)) : it ≠ pool := fun e => by
  rw [e] at hit
  have z : Value.type "tuple" = Value.type "itertools.combinations" := congrArg Obj.cls (Option.some.inj (hp.symm.trans hit))
  exact absurd (Value.type.inj z) (by decide)
/-- what is handed out is laid, then held by the record -/
theorem handed {h U : Heap} {it pool : Addr} {last : Value} {i j : Int} {xs : Array Value} (hU : IsC U it pool 1 last i j) (keep : ∀ b, b ≠ it → U.get? b = h.get? b) (sz : U.objs.size = h.objs.size) :
    (∀ b, b ≠ it → ∀ u, h.get? b = some u → ((U.push (tupO xs)).update it (Obj.mapFields fun x => x.setIfInBounds 2 (.ref U.objs.size))).get? b = some u) ∧
    ((U.push (tupO xs)).update it (Obj.mapFields fun x => x.setIfInBounds 2 (.ref U.objs.size))).get? h.objs.size = some (tupO xs) ∧
    IsC ((U.push (tupO xs)).update it (Obj.mapFields fun x => x.setIfInBounds 2 (.ref U.objs.size))) it pool 1 (.ref h.objs.size) i j := by
  have lt : it < U.objs.size := Heap.lt_size hU
  refine ⟨fun b ne u q => ?_, ?_, ?_⟩
  · exact (Heap.get?_update_other _ _ ne.symm).trans (Heap.get?_push_of_some _ ((keep b ne).trans q))
  · rw [← sz]
    exact (Heap.get?_update_other _ _ (Nat.ne_of_lt lt)).trans (Heap.get?_push_size _ rfl)
  · rw [← sz]
    exact Heap.get?_update_self _ (Heap.get?_push_of_some _ hU) rfl
theorem next_first {it pool : Addr} {last : Value} {items : Array Value} {n : Nat} {Q : Option Value → Shared → Prop} (hit : IsC s.heap it pool 0 last 0 1) (hp : s.heap.get? pool = some (tupO items)) (h2 : 2 ≤ items.size)
    (hQ : ∀ h', (∀ b, b ≠ it → ∀ u, s.heap.get? b = some u → h'.get? b = some u) → h'.get? s.heap.objs.size = some (tupO #[items.getD 0 .none, items.getD 1 .none]) → IsC h' it pool 1 (.ref s.heap.objs.size) 0 1 → Q (some (.ref s.heap.objs.size)) { s with heap := h' }) :
    wpAny (model prog w) A (pyNext (.ref it)) Q E s := by
  have hT : s.TypeIs (.ref it) "itertools.combinations" := ⟨_, hit, rfl⟩
  unfold pyNext
  refine wpAny_bind (wpAny_attempt (wpAny_callSpecial?_slot (name := Str.ofString "__next__") hT cNext (wpAny_call_entry cNext hT cEntryNext ?_ (cArgsNext _))))
  unfold Builtin.«itertools.combinations.__next__»
  have nip := apart hit hp
  have hp1 : (s.heap.update it (Obj.mapFields fun x => x.setIfInBounds 1 (rawInt 1))).get? pool = some (tupO items) := (Heap.get?_update_other _ _ nip).trans hp
  have hit1 : IsC (s.heap.update it (Obj.mapFields fun x => x.setIfInBounds 1 (rawInt 1))) it pool 1 last 0 1 := Heap.get?_update_self _ hit rfl
  repeat wp_step
  obtain ⟨q1, q2, q3⟩ := handed (xs := #[items.getD 0 .none, items.getD 1 .none]) hit1 (h := s.heap) (fun b ne => Heap.get?_update_other _ _ ne.symm) (Heap.size_update ..)
  refine ⟨_, rfl, wpAny_pure ?_⟩
  have z := hQ _ q1 q2 q3
  rw [show (s.heap.update it (Obj.mapFields fun x => x.setIfInBounds 1 (rawInt 1))).objs.size = s.heap.objs.size from Heap.size_update ..] at z ⊢
  exact z
end
end Comb

namespace Comb
open PySem PySem.Spec
open Sem (wp)
section
variable {prog : Program} {w : World} {A : Around} {E : Value → Shared → Prop} {s : Shared}
theorem next_more {it pool : Addr} {last : Value} {items : Array Value} {i j i' j' : Nat} {Q : Option Value → Shared → Prop} (hit : IsC s.heap it pool 1 last i j) (hp : s.heap.get? pool = some (tupO items))
    (hn : (match (List.range 2).reverse.find? fun k => [i, j].getD k 0 != k + items.size - 2 with | none => none | some k => some ([i, j].take k ++ (List.range (2 - k)).map ([i, j].getD k 0 + 1 + ·))) = some [i', j'])
    (hQ : ∀ h', (∀ b, b ≠ it → ∀ u, s.heap.get? b = some u → h'.get? b = some u) → h'.get? s.heap.objs.size = some (tupO #[items.getD i' .none, items.getD j' .none]) → IsC h' it pool 1 (.ref s.heap.objs.size) i' j' → Q (some (.ref s.heap.objs.size)) { s with heap := h' }) :
    wpAny (model prog w) A (pyNext (.ref it)) Q E s := by
  have hT : s.TypeIs (.ref it) "itertools.combinations" := ⟨_, hit, rfl⟩
  unfold pyNext
  refine wpAny_bind (wpAny_attempt (wpAny_callSpecial?_slot (name := Str.ofString "__next__") hT cNext (wpAny_call_entry cNext hT cEntryNext ?_ (cArgsNext _))))
  unfold Builtin.«itertools.combinations.__next__»
  repeat wp_step
  split
  · rename_i next hnx
    obtain rfl : next = [i', j'] := Option.some.inj (hnx.symm.trans hn)
    have nip := apart hit hp
    have hp1 : (s.heap.update it (Obj.mapFields fun x => x.extract 0 3 ++ (List.map (fun (n : Nat) => rawInt n) [i', j']).toArray)).get? pool = some (tupO items) := (Heap.get?_update_other _ _ nip).trans hp
    have hit1 : IsC (s.heap.update it (Obj.mapFields fun x => x.extract 0 3 ++ (List.map (fun (n : Nat) => rawInt n) [i', j']).toArray)) it pool 1 last i' j' := Heap.get?_update_self _ hit rfl
    repeat wp_step
    obtain ⟨q1, q2, q3⟩ := handed (xs := #[items.getD i' .none, items.getD j' .none]) hit1 (h := s.heap) (fun b ne => Heap.get?_update_other _ _ ne.symm) (Heap.size_update ..)
    refine ⟨_, rfl, wpAny_pure ?_⟩
    have z := hQ _ q1 q2 q3
    rw [show (s.heap.update it (Obj.mapFields fun x => x.extract 0 3 ++ (List.map (fun (n : Nat) => rawInt n) [i', j']).toArray)).objs.size = s.heap.objs.size from Heap.size_update ..] at z ⊢
    exact z
  · rename_i hnx
    cases hnx.symm.trans hn
theorem next_end {it pool : Addr} {last : Value} {items : Array Value} {i j : Nat} {Q : Option Value → Shared → Prop} (hh : A.handled = none) (hit : IsC s.heap it pool 1 last i j) (hp : s.heap.get? pool = some (tupO items))
    (hn : (match (List.range 2).reverse.find? fun k => [i, j].getD k 0 != k + items.size - 2 with | none => none | some k => some ([i, j].take k ++ (List.range (2 - k)).map ([i, j].getD k 0 + 1 + ·))) = none)
    (hQ : ∀ h', Heap.ExtBut it s.heap h' → Q none { s with heap := h' }) : wpAny (model prog w) A (pyNext (.ref it)) Q E s := by
  have hT : s.TypeIs (.ref it) "itertools.combinations" := ⟨_, hit, rfl⟩
  unfold pyNext
  refine wpAny_bind (wpAny_attempt (wpAny_callSpecial?_slot (name := Str.ofString "__next__") hT cNext (wpAny_call_entry cNext hT cEntryNext ?_ (cArgsNext _))))
  unfold Builtin.«itertools.combinations.__next__»
  repeat wp_step
  split
  · rename_i next hnx
    cases hn.symm.trans hnx
  · repeat wp_step
    simp only [raiseNew]; refine wpAny_bind (wpAny_handled ?_); rw [show A.in1.handled = none from hh]
    refine wpAny_bind (wpAny_pure (wpAny_throw ?_)); refine wpAny_bind (wpAny_isInstance (T := "StopIteration") (b := true) ⟨_, Heap.get?_push_size _ rfl, rfl⟩ isSubtype_stop ?_)
    exact wpAny_pure (hQ _ (fun b u ne q => Heap.get?_push_of_some _ (Heap.get?_push_of_some _ ((Heap.get?_update_other _ _ (Ne.symm ne)).trans q))))
theorem next_none {it pool : Addr} {last : Value} {items : Array Value} {i j : Nat} {Q : Option Value → Shared → Prop} (hh : A.handled = none) (hit : IsC s.heap it pool 2 last i j) (hp : s.heap.get? pool = some (tupO items))
    (hQ : ∀ h', Heap.ExtBut it s.heap h' → Q none { s with heap := h' }) : wpAny (model prog w) A (pyNext (.ref it)) Q E s := by
  have hT : s.TypeIs (.ref it) "itertools.combinations" := ⟨_, hit, rfl⟩
  unfold pyNext
  refine wpAny_bind (wpAny_attempt (wpAny_callSpecial?_slot (name := Str.ofString "__next__") hT cNext (wpAny_call_entry cNext hT cEntryNext ?_ (cArgsNext _))))
  unfold Builtin.«itertools.combinations.__next__»
  repeat wp_step
  simp only [raiseNew]; refine wpAny_bind (wpAny_handled ?_); rw [show A.in1.handled = none from hh]
  refine wpAny_bind (wpAny_pure (wpAny_throw ?_)); refine wpAny_bind (wpAny_isInstance (T := "StopIteration") (b := true) ⟨_, Heap.get?_push_size _ rfl, rfl⟩ isSubtype_stop ?_)
  exact wpAny_pure (hQ _ (((Heap.ExtBut.refl it s.heap).push _).push _))
end
end Comb

namespace Comb
open PySem PySem.Spec PyProof.Rows L2
/-! ### the pairs of places, in their sequence -/
def rows : Nat → Nat → List (Nat × Nat)
  | 0, _ => []
  | k + 1, i => (List.range (k + 1)).map (fun d => (i, i + 1 + d)) ++ rows k (i + 1)
def prs (n : Nat) : List (Nat × Nat) := rows (n - 1) 0
def nx (n i j : Nat) : Option (Nat × Nat) := if j + 1 < n then some (i, j + 1) else if i + 2 < n then some (i + 1, i + 2) else none
theorem rows_zero (k i : Nat) : (rows (k + 1) i)[0]? = some (i, i + 1) := by
  unfold rows
  rw [List.getElem?_append_left (by rw [List.length_map, List.length_range]; omega), List.getElem?_map, List.getElem?_range (Nat.succ_pos k)]
  rfl
theorem rows_step : ∀ (k i t a b : Nat), (rows k i)[t]? = some (a, b) → a < b ∧ b < i + 1 + k ∧ (rows k i)[t + 1]? = nx (i + 1 + k) a b
  | 0, _, _, _, _, h => by
    unfold rows at h
    rw [List.getElem?_nil] at h
    cases h
  | k + 1, i, t, a, b, h => by
    unfold rows at h ⊢
    have len : ((List.range (k + 1)).map (fun d => (i, i + 1 + d))).length = k + 1 := by rw [List.length_map, List.length_range]
    rcases Nat.lt_or_ge t (k + 1) with lt | ge
    · rw [List.getElem?_append_left (by omega), List.getElem?_map, List.getElem?_range lt] at h
      have h' : (i, i + 1 + t) = (a, b) := Option.some.inj h
      obtain ⟨rfl, rfl⟩ := Prod.mk.inj h'
      refine ⟨by omega, by omega, ?_⟩
      rcases Nat.lt_or_ge (t + 1) (k + 1) with l2 | g2
      · rw [List.getElem?_append_left (by omega), List.getElem?_map, List.getElem?_range l2]
        unfold nx
        rw [if_pos (by omega)]
        rfl
      · have et : t = k := by omega
        subst et
        rw [List.getElem?_append_right (by omega), len, Nat.sub_self]
        unfold nx
        rw [if_neg (by omega)]
        cases t with
        | zero =>
          rw [if_neg (by omega)]
          rfl
        | succ m =>
          rw [if_pos (by omega)]
          exact rows_zero m (i + 1)
    · rw [List.getElem?_append_right (by omega), len] at h
      obtain ⟨h1, h2, h3⟩ := rows_step k (i + 1) (t - (k + 1)) a b h
      refine ⟨h1, by omega, ?_⟩
      rw [List.getElem?_append_right (by omega), len, show t + 1 - (k + 1) = t - (k + 1) + 1 by omega, h3]
      congr 1
      omega
theorem prs_step {n t a b : Nat} (h : (prs n)[t]? = some (a, b)) : a < b ∧ b < n ∧ (prs n)[t + 1]? = nx n a b := by
  obtain ⟨h1, h2, h3⟩ := rows_step (n - 1) 0 t a b h
  have hn : 0 + 1 + (n - 1) = n := by omega
  rw [hn] at h2 h3
  exact ⟨h1, h2, h3⟩
theorem rows_mem : ∀ (k i a b : Nat), (a, b) ∈ rows k i ↔ i ≤ a ∧ a < b ∧ b < i + 1 + k
  | 0, i, a, b => by
    unfold rows
    constructor
    · intro h
      cases h
    · rintro ⟨h1, h2, h3⟩
      omega
  | k + 1, i, a, b => by
    unfold rows
    rw [List.mem_append, rows_mem k (i + 1) a b, List.mem_map]
    constructor
    · rintro (⟨d, hd, e⟩ | h)
      · have := List.mem_range.mp hd
        obtain ⟨rfl, rfl⟩ := Prod.mk.inj e
        omega
      · omega
    · rintro ⟨h1, h2, h3⟩
      rcases Nat.eq_or_lt_of_le h1 with e | l
      · exact .inl ⟨b - (i + 1), List.mem_range.mpr (by omega), by rw [← e]; congr 1; omega⟩
      · exact .inr ⟨l, h2, by omega⟩
theorem prs_mem {n a b : Nat} : (a, b) ∈ prs n ↔ a < b ∧ b < n := by
  unfold prs
  rw [rows_mem]
  omega
theorem rows_len : ∀ k i, (rows k i).length ≤ k * k
  | 0, i => Nat.zero_le _
  | k + 1, i => by
    unfold rows
    rw [List.length_append, List.length_map, List.length_range]
    have := rows_len k (i + 1)
    have e : (k + 1) * (k + 1) = k * k + k + (k + 1) := by rw [Nat.succ_mul, Nat.mul_succ]
    omega
theorem prs_none {n : Nat} (h : n < 2) : prs n = [] := by
  unfold prs
  rw [show n - 1 = 0 by omega]
  rfl
theorem prs_zero {n : Nat} (h : 2 ≤ n) : (prs n)[0]? = some (0, 1) := by
  unfold prs
  obtain ⟨m, rfl⟩ : ∃ m, n = m + 2 := ⟨n - 2, by omega⟩
  exact rows_zero m 0
/-- the model's own step is this one -/
theorem nx_some {n i j a b : Nat} (hi : i < j) (hj : j < n) (h : nx n i j = some (a, b)) :
    (match (List.range 2).reverse.find? fun k => [i, j].getD k 0 != k + n - 2 with | none => none | some k => some ([i, j].take k ++ (List.range (2 - k)).map ([i, j].getD k 0 + 1 + ·))) = some [a, b] := by
  have e : (List.range 2).reverse = [1, 0] := rfl
  rw [e]
  unfold nx at h
  by_cases h1 : j + 1 < n
  · rw [if_pos h1] at h
    cases h
    have z : ([i, j].getD 1 0 != 1 + n - 2) = true := by
      show (j != 1 + n - 2) = true
      rw [bne_iff_ne]
      omega
    rw [List.find?_cons_of_pos (p := fun k => [i, j].getD k 0 != k + n - 2) (a := 1) z]
    rfl
  · rw [if_neg h1] at h
    have z : ¬ ([i, j].getD 1 0 != 1 + n - 2) = true := by
      show ¬ (j != 1 + n - 2) = true
      rw [bne_iff_ne]
      omega
    by_cases h2 : i + 2 < n
    · rw [if_pos h2] at h
      cases h
      have z2 : ([i, j].getD 0 0 != 0 + n - 2) = true := by
        show (i != 0 + n - 2) = true
        rw [bne_iff_ne]
        omega
      rw [List.find?_cons_of_neg (p := fun k => [i, j].getD k 0 != k + n - 2) (a := 1) z, List.find?_cons_of_pos (p := fun k => [i, j].getD k 0 != k + n - 2) (a := 0) z2]
      rfl
    · rw [if_neg h2] at h
      cases h
theorem nx_none {n i j : Nat} (hi : i < j) (hj : j < n) (h : nx n i j = none) :
    (match (List.range 2).reverse.find? fun k => [i, j].getD k 0 != k + n - 2 with | none => none | some k => some ([i, j].take k ++ (List.range (2 - k)).map ([i, j].getD k 0 + 1 + ·))) = none := by
  have e : (List.range 2).reverse = [1, 0] := rfl
  rw [e]
  unfold nx at h
  by_cases h1 : j + 1 < n
  · rw [if_pos h1] at h
    cases h
  · rw [if_neg h1] at h
    by_cases h2 : i + 2 < n
    · rw [if_pos h2] at h
      cases h
    · have z : ¬ ([i, j].getD 1 0 != 1 + n - 2) = true := by
        show ¬ (j != 1 + n - 2) = true
        rw [bne_iff_ne]
        omega
      have z2 : ¬ ([i, j].getD 0 0 != 0 + n - 2) = true := by
        show ¬ (i != 0 + n - 2) = true
        rw [bne_iff_ne]
        omega
      rw [List.find?_cons_of_neg (p := fun k => [i, j].getD k 0 != k + n - 2) (a := 1) z, List.find?_cons_of_neg (p := fun k => [i, j].getD k 0 != k + n - 2) (a := 0) z2]
      rfl
end Comb

namespace Comb
open PySem PySem.Spec PyProof.Rows L2
/-- the pairs of these values, as new tuples -/
def Itcb (xs : List V) : It :=
  ⟨fun t _ => t < (prs xs.length).length,
    fun t H v H' => ∃ T i j x y, v = .ref T ∧ H T = none ∧ H' = upd H T (.tup [x, y]) ∧ (prs xs.length)[t]? = some (i, j) ∧ xs[i]? = some x ∧ xs[j]? = some y,
    fun t _ => (prs xs.length).length ≤ t⟩
def Stt (it pool : Addr) (items : Array Value) (t : Nat) (h : Heap) : Prop :=
  h.get? pool = some (tupO items) ∧ ((t = 0 ∧ IsC h it pool (if 2 > items.size then 2 else 0) .none 0 1) ∨ ∃ (u i j : Nat) (last : Value), t = u + 1 ∧ (prs items.size)[u]? = some (i, j) ∧ IsC h it pool 1 last i j)
theorem turn_comb {P : Program} {w : World} {K : PySem.W.Frag} {tg : Expr} {xs : List V} {its : List Value} (rv : Vals xs its) (it pool : Addr) (lt : pool < it) : Turn P w K tg (Itcb xs) [it, pool] it (Stt it pool its.toArray) where
  mem := by simp
  obj := fun t h st b hb => by
    obtain ⟨hp, st⟩ := st
    have e : b = it ∨ b = pool := by simpa using hb
    rcases e with e | e
    · rw [e]
      rcases st with ⟨_, c⟩ | ⟨_, _, _, _, _, _, c⟩ <;> exact ⟨_, c, fun v q => nomatch q⟩
    · rw [e]
      exact ⟨_, hp, fun v q => nomatch q⟩
  keep := fun t h h' st k => by
    obtain ⟨hp, st⟩ := st
    refine ⟨k pool (by simp) _ hp, ?_⟩
    rcases st with ⟨e, c⟩ | ⟨u, i, j, last, e, hu, c⟩
    · exact .inl ⟨e, k it (by simp) _ c⟩
    · exact .inr ⟨u, i, j, last, e, hu, k it (by simp) _ c⟩
  item := by
    intro X hP hw hK hc t pins s σ H E I hf st hg
    subst hP hw hK
    obtain ⟨hp, st⟩ := st
    have len := rv.length
    have sz : its.toArray.size = xs.length := by rw [List.size_toArray, len]
    -- what comes of the pair (i, j)
    have out : ∀ (i j : Nat) (h' : Heap), (prs xs.length)[t]? = some (i, j) → (∀ b, b ≠ it → ∀ u, s.heap.get? b = some u → h'.get? b = some u) → h'.get? s.heap.objs.size = some (tupO #[its.toArray.getD i .none, its.toArray.getD j .none]) →
        IsC h' it pool 1 (.ref s.heap.objs.size) i j → ∃ u, some (Value.ref s.heap.objs.size) = some u ∧
        wpAny (model X.prog X.w) X.A (letOwnedTupleGo tg (.ref it) u) (fun _ s2 => ∃ x H', Inv X pins σ H' s2 ∧ RelV x u ∧ (Itcb xs).yld t H x H' ∧ Stt it pool its.toArray (t + 1) s2.heap ∧ ∀ b ∈ [it, pool], H' b = none) E { s with heap := h' } := by
      intro i j h' ht keep new rec
      obtain ⟨l1, l2, _⟩ := prs_step ht
      have hx : xs[i]? = some xs[i] := List.getElem?_eq_getElem (by omega)
      have hy : xs[j]? = some xs[j] := List.getElem?_eq_getElem (by omega)
      obtain ⟨u1, hu1, r1⟩ := rv.get hx
      obtain ⟨u2, hu2, r2⟩ := rv.get hy
      have g1 : its.toArray.getD i .none = u1 := by
        rw [Array.getD_eq_getD_getElem?, List.getElem?_toArray, hu1]
        rfl
      have g2 : its.toArray.getD j .none = u2 := by
        rw [Array.getD_eq_getD_getElem?, List.getElem?_toArray, hu2]
        rfl
      rw [g1, g2] at new
      have obj : ObjOk X.prog X.w (upd H s.heap.objs.size (.tup [xs[i], xs[j]])) h' s.heap.objs.size (.tup [xs[i], xs[j]]) :=
        ⟨by show 2 ≤ sizeLine; decide, [u1, u2], .cons r1 (.cons r2 .nil), ⟨_, new, rfl, _, rfl⟩⟩
      have I1 : Inv X pins σ (upd H s.heap.objs.size (.tup [xs[i], xs[j]])) { s with heap := h' } :=
        I.turnedNew (t' := s.toks) (ch := [it, pool]) (fun c o hb q => keep c (fun z => hb (by simp [z])) o q) hf (Nat.le_refl _) obj
      refine ⟨_, rfl, go_of (s := { s with heap := h' }) rec rfl rfl (by decide) ⟨.ref s.heap.objs.size, _, I1, rfl, ⟨_, i, j, _, _, rfl, I.hok.fresh (Nat.le_refl _), rfl, ht, hx, hy⟩, ⟨keep pool (Nat.ne_of_lt lt) _ hp, .inr ⟨t, i, j, _, rfl, by rw [sz]; exact ht, rec⟩⟩, fun c hcm => ?_⟩⟩
      have small : c < s.heap.objs.size := by
        have e : c = it ∨ c = pool := by simpa using hcm
        have hit : it < s.heap.objs.size := by
          rcases st with ⟨_, c⟩ | ⟨_, _, _, _, _, _, c⟩ <;> exact Heap.lt_size c
        rcases e with e | e
        · rw [e]; exact hit
        · rw [e]; exact Nat.lt_trans lt hit
      rw [upd_ne (Nat.ne_of_lt small)]
      exact (hf c hcm).1
    have hg' : t < (prs xs.length).length := hg
    obtain ⟨⟨i, j⟩, hij⟩ : ∃ q, (prs xs.length)[t]? = some q := ⟨_, List.getElem?_eq_getElem hg'⟩
    rcases st with ⟨e, c⟩ | ⟨u, i0, j0, last, e, hu, c⟩
    · subst e
      have h2 : 2 ≤ xs.length := by
        rcases Nat.lt_or_ge xs.length 2 with z | z
        · rw [prs_none z] at hg'
          cases hg'
        · exact z
      rw [prs_zero h2] at hij
      cases hij
      rw [sz, if_neg (by omega)] at c
      exact next_first (n := 0) c hp (by rw [sz]; exact h2) fun h' k new rec => out 0 1 h' (prs_zero h2) k new rec
    · subst e
      rw [sz] at hu
      obtain ⟨l1, l2, l3⟩ := prs_step hu
      refine next_more c hp (nx_some l1 (by rw [sz]; exact l2) (by rw [sz, ← l3]; exact hij)) fun h' k new rec => out i j h' hij k new rec
  done := by
    intro X hP hw hK hc t pins s σ H E I hf st hg
    subst hP hw hK
    obtain ⟨hp, st⟩ := st
    have len := rv.length
    have sz : its.toArray.size = xs.length := by rw [List.size_toArray, len]
    have hg' : (prs xs.length).length ≤ t := hg
    obtain ⟨f0, f1, f2, f3, f4, f5⟩ := hf it (by simp)
    have fin : ∀ h', Heap.ExtBut it s.heap h' → (none : Option Value) = none ∧ Inv X pins σ H { s with heap := h' } := fun h' eb => ⟨rfl, I.turned (t' := s.toks) (fun b o hb e => eb b o hb e) f0 f1 f3 f4 f5⟩
    rcases st with ⟨e, c⟩ | ⟨u, i0, j0, last, e, hu, c⟩
    · subst e
      have h2 : xs.length < 2 := by
        rcases Nat.lt_or_ge xs.length 2 with z | z
        · exact z
        · have := prs_zero z
          rw [List.getElem?_eq_none hg'] at this
          cases this
      rw [sz, if_pos (by omega)] at c
      exact next_none (i := 0) (j := 1) (I.ok.hd hc) c hp fin
    · subst e
      rw [sz] at hu
      obtain ⟨l1, l2, l3⟩ := prs_step hu
      rw [List.getElem?_eq_none hg'] at l3
      exact next_end (I.ok.hd hc) c hp (nx_none l1 (by rw [sz]; exact l2) (by rw [sz]; exact l3.symm)) fin
  self := fun A t s Q E st h => by
    obtain ⟨hp, st⟩ := st
    rcases st with ⟨_, c⟩ | ⟨_, _, _, _, _, _, c⟩ <;> exact iter_comb c h

section
variable {X : Cx} {tg : Expr}
def iComb (K : PySem.W.Frag) (ta : TA) : TI := fun σ H R => ta σ H fun vs H1 => ∃ a xs, vs = [.ref a, .int 2] ∧ SqL K H1 a xs ∧ R (Itcb xs) H1
theorem pi_comb {x : Str} {e e2 : Expr} {ta : TA} {p pos : Pos} (hg : Gl X x) (hm : X.mg x = some (.type "itertools.combinations")) (ha : PA X [e, e2] ta) (hdb : (x == ("__debug__" : Str)) = false := by decide)
    (hs : starEach [e, e2] X.env = (false, eval e X.env) :: starEach [e2] X.env := by rfl) (hpl : (backTo pos (starEach [e2] X.env)).any (·.1) = false := by rfl) :
    PI X tg (.Call (.Name x p) [e, e2] [] pos) (iComb X.K ta) := by
  refine ⟨fun pins s σ H R I h => ?_⟩
  refine wpAny_Call_Name_kw (ld_glob I hg hm ?_ hdb)
  refine PyProof.Rows.callWith_type1 (thn (ha.run pos pins s σ H _ I h) fun us s1 ⟨vs, H1, I1, r1, q1⟩ => ?_) hs hpl
  obtain ⟨a, xs, rfl, hq, q⟩ := q1
  obtain ⟨u1, u2, rfl, e1, ⟨t, rfl⟩⟩ := vals2 r1
  obtain rfl : u1 = Value.ref a := e1
  obtain ⟨its, rv, ⟨o, n, ho, hcl, hne, hda⟩, hz⟩ := I1.list hq
  have len := rv.length
  refine call_comb ho hcl hda (by rw [List.size_toArray, ← len]; exact hz) fun h1 keep => ?_
  have J0 : Inv X pins σ H1 { s1 with heap := h1 } := I1.kept (t' := s1.toks) keep
  have sz1 : (h1.push (tupO its.toArray)).objs.size = h1.objs.size + 1 := Heap.size_push ..
  have g1 : ((h1.push (tupO its.toArray)).push (recC h1.objs.size (if 2 > its.toArray.size then 2 else 0) .none 0 1)).get? h1.objs.size = some (tupO its.toArray) := Heap.get?_push_of_some _ (Heap.get?_push_size _ rfl)
  have g2 : ((h1.push (tupO its.toArray)).push (recC h1.objs.size (if 2 > its.toArray.size then 2 else 0) .none 0 1)).get? (h1.objs.size + 1) = some (recC h1.objs.size (if 2 > its.toArray.size then 2 else 0) .none 0 1) := by
    rw [← sz1]
    exact Heap.get?_push_size _ rfl
  refine iter_comb (s := { s1 with heap := _ }) g2 ?_
  have J1 : Inv X pins σ H1 { s1 with heap := (h1.push (tupO its.toArray)).push (recC h1.objs.size (if 2 > its.toArray.size then 2 else 0) .none 0 1) } :=
    I1.kept (t' := s1.toks) fun b o z => Heap.get?_push_of_some _ (Heap.get?_push_of_some _ (keep b o z))
  refine ⟨h1.objs.size + 1, [h1.objs.size + 1, h1.objs.size], _, _, H1, rfl, J1, turn_comb rv (h1.objs.size + 1) h1.objs.size (Nat.lt_succ_self _), ⟨g1, .inl ⟨rfl, g2⟩⟩, fun b hb => ?_, q⟩
  have low : h1.objs.size ≤ b := by
    have e : b = h1.objs.size + 1 ∨ b = h1.objs.size := by simpa using hb
    rcases e with e | e
    · rw [e]; exact Nat.le_succ _
    · rw [e]; exact Nat.le_refl _
  exact J0.fpOk low (J0.hok.fresh low)

/-- a comprehension over the pairs -/
theorem lc_comb {xs : List V} {g : TG} {tt : TT} {te : TE} {vs : List Nat} {σ : L2.St} {H1 : Hp} {D : Addr} {Qd : Hp → Prop} (Pv : Nat → Hp → Prop) (h0 : Pv 0 (upd H1 D (.lst [])))
    (hs : ∀ (t i j : Nat) (x y : V) (T : Addr) (H : Hp), (prs xs.length)[t]? = some (i, j) → xs[i]? = some x → xs[j]? = some y → Pv t H → H T = none → g (.ref T) (wipe σ vs) (upd H T (.tup [x, y])) fun σ2 H2 => wipe σ2 vs = wipe σ vs ∧ tt σ2 H2 fun b H3 =>
      if b = true then te σ2 H3 fun y H4 => ∃ acc, H4 D = some (.lst acc) ∧ acc.length < sizeLine ∧ Pv (t + 1) (upd H4 D (.lst (acc ++ [y]))) else Pv (t + 1) H3) (hd : ∀ H, Pv (prs xs.length).length H → Qd H) :
    ∃ W : Nat → Nat → Hp → Prop, (∃ m, W 0 m (upd H1 D (.lst []))) ∧ ∀ t m H, W t m H →
      ((Itcb xs).stop t H ∧ Qd H) ∨ ((Itcb xs).go t H ∧ ∃ Nx : Hp → Prop, (∀ H', Nx H' → ∃ m', m' < m ∧ W (t + 1) m' H') ∧ ∀ x H', (Itcb xs).yld t H x H' → g x (wipe σ vs) H' fun σ2 H2 => wipe σ2 vs = wipe σ vs ∧ tt σ2 H2 fun b H3 =>
        if b = true then te σ2 H3 fun y H4 => ∃ acc, H4 D = some (.lst acc) ∧ acc.length < sizeLine ∧ Nx (upd H4 D (.lst (acc ++ [y]))) else Nx H3) := by
  refine ⟨fun t m H => m = (prs xs.length).length - t ∧ t ≤ (prs xs.length).length ∧ Pv t H, ⟨_, rfl, Nat.zero_le _, h0⟩, ?_⟩
  rintro t m H ⟨rfl, ht, pv⟩
  rcases Nat.lt_or_ge t (prs xs.length).length with lt | ge
  · refine .inr ⟨lt, Pv (t + 1), fun H' p' => ⟨(prs xs.length).length - (t + 1), by omega, rfl, lt, p'⟩, fun v H' y => ?_⟩
    obtain ⟨T, i, j, a, b, rfl, hT, rfl, h1, h2, h3⟩ := y
    exact hs t i j a b T H h1 h2 h3 pv hT
  · have e : t = (prs xs.length).length := by omega
    subst e
    exact .inl ⟨Nat.le_refl _, hd H pv⟩
end
end Comb

namespace SortR
open PySem PySem.Spec PyProof.Rows L2 PySem.W
/-- lists of ints by their sequence -/
def rowLe (p q : Addr × List Int) : Bool := decide (p.2 ≤ q.2)
theorem enc_alike (p q : Addr × List Int) : alike (PyData.list (p.2.map .int)) (PyData.list (q.2.map .int)) = true := by
  simp only [alike]
  exact alike_ints p.2 q.2
theorem rows_dp {K : PySem.W.Frag} {H : Hp} : ∀ ns : List Int, DpAll K H (ns.map V.int) (ns.map PyData.int)
  | [] => .nil
  | n :: ns => .cons (.int n) (rows_dp ns)
theorem vals_each {h : Heap} {K : PySem.W.Frag} {H : Hp} {P : Addr × List Int → Prop} : ∀ {bs : List (Addr × List Int)} {us : List Value}, Vals (bs.map fun b => V.ref b.1) us → (∀ b ∈ bs, P b) → EachIs (fun v b => v = Value.ref b.1 ∧ P b) us bs
  | [], us, r, _ => by
    cases r
    exact .nil
  | b :: bs, us, r, hp => by
    cases r with
    | cons r1 r2 =>
      have e : _ = Value.ref b.1 := r1
      exact .cons ⟨e, hp b List.mem_cons_self⟩ (vals_each (h := h) (K := K) (H := H) r2 fun c hc => hp c (List.mem_cons_of_mem _ hc))
theorem each_back {P : Addr × List Int → Prop} : ∀ {us : List Value} {bs : List (Addr × List Int)}, EachIs (fun v b => v = Value.ref b.1 ∧ P b) us bs → Vals (bs.map fun b => V.ref b.1) us
  | _, _, .nil => .nil
  | _, _, .cons h t => .cons h.1 (each_back t)
theorem each_mono {α β : Type} {R S : α → β → Prop} : ∀ {as : List α} {bs : List β}, EachIs R as bs → (∀ a b, R a b → S a b) → EachIs S as bs
  | _, _, .nil, _ => .nil
  | _, _, .cons h t, f => .cons (f _ _ h) (each_mono t f)
section
variable {X : Cx}
/-- sorted(xs), xs a list of lists of ints, of any length -/
theorem call_sortedR (hu : X.A.units + 64 < cLine) : CallR X (.builtin "sorted") (fun xs H Q => ∃ (a : Addr) (bs : List (Addr × List Int)), xs = [V.ref a] ∧ SqL X.K H a (bs.map fun b => V.ref b.1) ∧ (∀ b ∈ bs, SqL X.K H b.1 (b.2.map V.int)) ∧
    ∀ p, H p = none → Q (.ref p) (upd H p (.lst ((bs.mergeSort rowLe).map fun b => V.ref b.1)))) := by
  intro pins s σ H xs us Q I r h
  obtain ⟨a, bs, rfl, hs, hb, q⟩ := h
  obtain ⟨u, rfl, ru⟩ := vals1 r
  obtain rfl : u = Value.ref a := ru
  obtain ⟨its, rv, hl, hz⟩ := I.list hs
  have each : EachIs (fun v b => v = Value.ref b.1 ∧ SqL X.K H b.1 (b.2.map V.int)) its bs := vals_each (h := s.heap) (K := X.K) (H := H) rv hb
  have len : its.length = bs.length := by rw [← rv.length, List.length_map]
  have each2 : EachIs (fun v (b : Addr × List Int) => ∃ as, Reads s.heap v (PyData.list (b.2.map .int)) as) its bs := each_mono each fun v b ⟨e, hq⟩ => by
    rw [e]
    exact Dp.reads I (PyData.list (b.2.map .int)) (.ref b.1) (.ref b.1) (.lst hq (rows_dp b.2)) rfl
  have le : dataLe false (fun b : Addr × List Int => PyData.list (b.2.map .int)) = rowLe := dataLe_rows (fun b : Addr × List Int => b.2)
  refine sorted_data (enc := fun b : Addr × List Int => PyData.list (b.2.map .int)) hl.isList each each2 (AllAlike.of enc_alike) (Sortable.others fun b => ⟨(fun z => nomatch z), fun xs z => nomatch z⟩) (by rw [← len]; rw [List.length_map] at hz; rw [len]; exact hz) (fun b _ => by
    have d : (PyData.list (b.2.map .int)).depth = 1 := by
      simp only [PyData.depth, depth_ints]
    rw [d]
    omega) fun out ho each3 => ?_
  rw [le] at each3
  have back := each_back each3
  obtain ⟨n, hn⟩ := sortedAll_at s.heap its out.toArray
  refine ⟨.ref (s.heap.objs.size + 1), upd H (s.heap.objs.size + 1) (.lst ((bs.mergeSort rowLe).map fun b => V.ref b.1)), I.laid (t' := s.toks) (fun b o e => sortedAll_old e) (Nat.le_succ _) ⟨?_, out, n, back, hn⟩, rfl, q _ (I.hok.fresh (Nat.le_succ _))⟩
  rw [List.length_map, List.length_mergeSort]
  rw [List.length_map] at hz
  exact hz
end
end SortR

namespace SortR
open PySem PySem.Spec PyProof.Rows L2 PySem.W
section
variable {X : Cx}
def rLtR (K : PySem.W.Frag) : R2 := fun x y H Q => ∃ (a b : Addr) (ns ms : List Int), x = .ref a ∧ y = .ref b ∧ SqL K H a (ns.map V.int) ∧ SqL K H b (ms.map V.int) ∧ Q (.bl (decide (ns < ms))) H
/-- xs < ys, two lists of ints -/
theorem op_ltR (hu : X.A.units + 64 < cLine) : OpR X (compareOp .Lt) (rLtR X.K) := by
  intro pins s σ H x y v u Q I rx ry h
  obtain ⟨a, b, ns, ms, rfl, rfl, hs, hm, q⟩ := h
  obtain ⟨as, r1⟩ := Dp.reads I (PyData.list (ns.map .int)) (.ref a) v (.lst hs (rows_dp ns)) rx
  obtain ⟨bs, r2⟩ := Dp.reads I (PyData.list (ms.map .int)) (.ref b) u (.lst hm (rows_dp ms)) ry
  have dep : (PyData.list (ns.map .int)).depth = 1 := by simp only [PyData.depth, depth_ints]
  have lt := rcLt_alike (PyData.list (ns.map .int)) (PyData.list (ms.map .int)) X.A s v u as bs r1 r2 (enc_alike (a, ns) (b, ms)) (fun z => nomatch z) (by rw [dep]; omega)
  have e : dataLt (PyData.list (ns.map .int)) (PyData.list (ms.map .int)) = decide (ns < ms) := by
    rw [dataLt_list]
    exact dataLt_ints ns ms
  rw [e] at lt
  exact lt _ _ _ _ ⟨.bl _, H, I, rfl, q⟩
/-- a comprehension over zip of two lists that stand still -/
theorem lc_zipL {K : PySem.W.Frag} {a b : Addr} {xs ys : List V} {g : TG} {tt : TT} {te : TE} {vs : List Nat} {σ : L2.St} {H1 : Hp} {D : Addr} {Qd : Hp → Prop} (Pv : Nat → Hp → Prop) (h0 : Pv 0 (upd H1 D (.lst []))) (hl : ∀ i H, Pv i H → SqL K H a xs ∧ SqL K H b ys)
    (hs : ∀ (i : Nat) (x y : V) (T : Addr) (H : Hp), xs[i]? = some x → ys[i]? = some y → Pv i H → H T = none → g (.ref T) (wipe σ vs) (upd H T (.tup [x, y])) fun σ2 H2 => wipe σ2 vs = wipe σ vs ∧ tt σ2 H2 fun b H3 =>
      if b = true then te σ2 H3 fun y H4 => ∃ acc, H4 D = some (.lst acc) ∧ acc.length < sizeLine ∧ Pv (i + 1) (upd H4 D (.lst (acc ++ [y]))) else Pv (i + 1) H3) (hd : ∀ H, Pv (min xs.length ys.length) H → Qd H) :
    ∃ W : Nat → Nat → Hp → Prop, (∃ m, W 0 m (upd H1 D (.lst []))) ∧ ∀ i m H, W i m H →
      ((Itz K a b).stop i H ∧ Qd H) ∨ ((Itz K a b).go i H ∧ ∃ Nx : Hp → Prop, (∀ H', Nx H' → ∃ m', m' < m ∧ W (i + 1) m' H') ∧ ∀ x H', (Itz K a b).yld i H x H' → g x (wipe σ vs) H' fun σ2 H2 => wipe σ2 vs = wipe σ vs ∧ tt σ2 H2 fun b H3 =>
        if b = true then te σ2 H3 fun y H4 => ∃ acc, H4 D = some (.lst acc) ∧ acc.length < sizeLine ∧ Nx (upd H4 D (.lst (acc ++ [y]))) else Nx H3) := by
  refine ⟨fun i m H => m = min xs.length ys.length - i ∧ i ≤ min xs.length ys.length ∧ Pv i H, ⟨_, rfl, Nat.zero_le _, h0⟩, ?_⟩
  rintro i m H ⟨rfl, hi, pv⟩
  obtain ⟨qx, qy⟩ := hl i H pv
  rcases Nat.lt_or_ge i (min xs.length ys.length) with lt | ge
  · have ex : xs[i]? = some xs[i] := List.getElem?_eq_getElem (by omega)
    have ey : ys[i]? = some ys[i] := List.getElem?_eq_getElem (by omega)
    refine .inr ⟨⟨xs, ys, _, _, qx, qy, ex, ey⟩, Pv (i + 1), fun H' p' => ⟨min xs.length ys.length - (i + 1), by omega, rfl, lt, p'⟩, fun v H' y => ?_⟩
    obtain ⟨T, x', y', rfl, hT, rfl, f1, f2⟩ := y
    exact hs i x' y' T H (f1 xs qx) (f2 ys qy) pv hT
  · have e : i = min xs.length ys.length := by omega
    subst e
    exact .inl ⟨⟨xs, ys, qx, qy, by omega⟩, hd H pv⟩
/-- a comprehension over enumerate of a list that stands still -/
theorem lc_enumL {K : PySem.W.Frag} {a : Addr} {xs : List V} {g : TG} {tt : TT} {te : TE} {vs : List Nat} {σ : L2.St} {H1 : Hp} {D : Addr} {Qd : Hp → Prop} (Pv : Nat → Hp → Prop) (h0 : Pv 0 (upd H1 D (.lst []))) (hl : ∀ i H, Pv i H → SqL K H a xs)
    (hs : ∀ (i : Nat) (x : V) (T : Addr) (H : Hp), xs[i]? = some x → Pv i H → H T = none → g (.ref T) (wipe σ vs) (upd H T (.tup [.int (i : Nat), x])) fun σ2 H2 => wipe σ2 vs = wipe σ vs ∧ tt σ2 H2 fun b H3 =>
      if b = true then te σ2 H3 fun y H4 => ∃ acc, H4 D = some (.lst acc) ∧ acc.length < sizeLine ∧ Pv (i + 1) (upd H4 D (.lst (acc ++ [y]))) else Pv (i + 1) H3) (hd : ∀ H, Pv xs.length H → Qd H) :
    ∃ W : Nat → Nat → Hp → Prop, (∃ m, W 0 m (upd H1 D (.lst []))) ∧ ∀ i m H, W i m H →
      ((Ite K a).stop i H ∧ Qd H) ∨ ((Ite K a).go i H ∧ ∃ Nx : Hp → Prop, (∀ H', Nx H' → ∃ m', m' < m ∧ W (i + 1) m' H') ∧ ∀ x H', (Ite K a).yld i H x H' → g x (wipe σ vs) H' fun σ2 H2 => wipe σ2 vs = wipe σ vs ∧ tt σ2 H2 fun b H3 =>
        if b = true then te σ2 H3 fun y H4 => ∃ acc, H4 D = some (.lst acc) ∧ acc.length < sizeLine ∧ Nx (upd H4 D (.lst (acc ++ [y]))) else Nx H3) := by
  refine ⟨fun i m H => m = xs.length - i ∧ i ≤ xs.length ∧ Pv i H, ⟨_, rfl, Nat.zero_le _, h0⟩, ?_⟩
  rintro i m H ⟨rfl, hi, pv⟩
  have qx := hl i H pv
  rcases Nat.lt_or_ge i xs.length with lt | ge
  · have ex : xs[i]? = some xs[i] := List.getElem?_eq_getElem lt
    refine .inr ⟨⟨xs, _, qx, ex⟩, Pv (i + 1), fun H' p' => ⟨xs.length - (i + 1), by omega, rfl, lt, p'⟩, fun v H' y => ?_⟩
    obtain ⟨T, x', rfl, hT, rfl, f1⟩ := y
    exact hs i x' T H (f1 xs qx) pv hT
  · have e : i = xs.length := by omega
    subst e
    exact .inl ⟨⟨xs, qx, Nat.le_refl _⟩, hd H pv⟩
end
end SortR

/-! Comprehensions without a test, by the value of each turn: what stood stands. -/
namespace LcM
open PySem PySem.Spec PyProof.Rows L2
/-- all that stood stands -/
def Grows (H H' : Hp) : Prop := ∀ b o, H b = some o → H' b = some o
theorem Grows.refl {H : Hp} : Grows H H := fun _ _ e => e
theorem Grows.trans {H H1 H2 : Hp} (x : Grows H H1) (y : Grows H1 H2) : Grows H H2 := fun b o e => y b o (x b o e)
theorem Grows.new {a : Addr} {H : Hp} {o : HO} (h : H a = none) : Grows H (upd H a o) := fun b u e => by
  rw [upd_ne (ne_of_none e h)]
  exact e
theorem Grows.seq {K : PySem.W.Frag} {H H' : Hp} {a : Addr} {xs : List V} (s : Grows H H') (h : SqL K H a xs) : SqL K H' a xs := by
  rcases h with (h | ⟨o, h⟩) | h
  · exact .inl (.inl (s _ _ h))
  · exact .inl (.inr ⟨o, s _ _ h⟩)
  · exact .inr h
theorem Grows.tup {K : PySem.W.Frag} {H H' : Hp} {a : Addr} {xs : List V} (s : Grows H H') (h : SqT K H a xs) : SqT K H' a xs := by
  rcases h with (h | ⟨o, h⟩) | h
  · exact .inl (.inl (s _ _ h))
  · exact .inl (.inr ⟨o, s _ _ h⟩)
  · exact .inr h
/-- the list that is made -/
def Ma (H0 : Hp) (D : Addr) (F : Nat → V) (i : Nat) (H : Hp) : Prop := Grows H0 H ∧ H D = some (.lst ((List.range i).map F))
theorem Ma.start {H0 : Hp} {D : Addr} {F : Nat → V} (hD : H0 D = none) : Ma H0 D F 0 (upd H0 D (.lst [])) := ⟨Grows.new hD, upd_same⟩
theorem yes_eq {te : TE} {A : L2.St → Prop} {R : V → Hp → Prop} {Y : Hp → Prop} :
    (fun (σ2 : L2.St) (H2 : Hp) => A σ2 ∧ tYes σ2 H2 fun b H3 => if b = true then te σ2 H3 R else Y H3) = fun σ2 H2 => A σ2 ∧ te σ2 H2 R := by
  funext σ2 H2
  unfold tYes
  dsimp only
  rw [if_pos rfl]
/-- one more -/
theorem Ma.more {H0 H H4 : Hp} {D : Addr} {F : Nat → V} {i : Nat} (hD : H0 D = none) (m : Ma H0 D F i H) (s : Grows H H4) (small : i < 1000000) :
    ∃ acc, H4 D = some (.lst acc) ∧ acc.length < sizeLine ∧ Ma H0 D F (i + 1) (upd H4 D (.lst (acc ++ [F i]))) := by
  refine ⟨_, s _ _ m.2, ?_, fun b o e => ?_, ?_⟩
  · rw [List.length_map, List.length_range]
    exact Nat.lt_trans small (by decide)
  · rw [upd_ne (ne_of_none e hD)]
    exact s _ _ (m.1 _ _ e)
  · rw [upd_same, List.range_succ, List.map_append]
    rfl
section
variable {K : PySem.W.Frag} {a b : Addr} {xs ys : List V} {g : TG} {te : TE} {vs : List Nat} {σ : L2.St} {H0 : Hp} {D : Addr} {Qd : Hp → Prop}
theorem lc_listM (F : Nat → V) (hD : H0 D = none) (hx : SqL K H0 a xs) (small : xs.length ≤ 1000000)
    (turn : ∀ (i : Nat) (x : V) (H : Hp) (R : V → Hp → Prop), xs[i]? = some x → Grows H0 H → (∀ H4, Grows H H4 → R (F i) H4) → g x (wipe σ vs) H fun σ2 H2 => wipe σ2 vs = wipe σ vs ∧ te σ2 H2 R)
    (done : ∀ H, Grows H0 H → H D = some (.lst ((List.range xs.length).map F)) → Qd H) :
    ∃ W : Nat → Nat → Hp → Prop, (∃ m, W 0 m (upd H0 D (.lst []))) ∧ ∀ i m H, W i m H →
      ((Itl K a).stop i H ∧ Qd H) ∨ ((Itl K a).go i H ∧ ∃ Nx : Hp → Prop, (∀ H', Nx H' → ∃ m', m' < m ∧ W (i + 1) m' H') ∧ ∀ x H', (Itl K a).yld i H x H' → g x (wipe σ vs) H' fun σ2 H2 => wipe σ2 vs = wipe σ vs ∧ tYes σ2 H2 fun b H3 =>
        if b = true then te σ2 H3 fun y H4 => ∃ acc, H4 D = some (.lst acc) ∧ acc.length < sizeLine ∧ Nx (upd H4 D (.lst (acc ++ [y]))) else Nx H3) := by
  refine lc_list (Ma H0 D F) (Ma.start hD) (fun i H _ m => m.1.seq hx) (fun i x H ex m => ?_) fun H m => done H m.1 m.2
  rw [yes_eq (A := fun σ2 => wipe σ2 vs = wipe σ vs)]
  exact turn i x H _ ex m.1 fun H4 s => m.more hD s (Nat.lt_of_lt_of_le (List.getElem?_eq_some_iff.mp ex).1 small)
theorem lc_zipM (F : Nat → V) (hD : H0 D = none) (hx : SqL K H0 a xs) (hy : SqL K H0 b ys) (small : xs.length ≤ 1000000)
    (turn : ∀ (i : Nat) (x y : V) (T : Addr) (H : Hp) (R : V → Hp → Prop), xs[i]? = some x → ys[i]? = some y → Grows H0 H → H T = none → (∀ H4, Grows (upd H T (.tup [x, y])) H4 → R (F i) H4) → g (.ref T) (wipe σ vs) (upd H T (.tup [x, y])) fun σ2 H2 => wipe σ2 vs = wipe σ vs ∧ te σ2 H2 R)
    (done : ∀ H, Grows H0 H → H D = some (.lst ((List.range (min xs.length ys.length)).map F)) → Qd H) :
    ∃ W : Nat → Nat → Hp → Prop, (∃ m, W 0 m (upd H0 D (.lst []))) ∧ ∀ i m H, W i m H →
      ((Itz K a b).stop i H ∧ Qd H) ∨ ((Itz K a b).go i H ∧ ∃ Nx : Hp → Prop, (∀ H', Nx H' → ∃ m', m' < m ∧ W (i + 1) m' H') ∧ ∀ x H', (Itz K a b).yld i H x H' → g x (wipe σ vs) H' fun σ2 H2 => wipe σ2 vs = wipe σ vs ∧ tYes σ2 H2 fun b H3 =>
        if b = true then te σ2 H3 fun y H4 => ∃ acc, H4 D = some (.lst acc) ∧ acc.length < sizeLine ∧ Nx (upd H4 D (.lst (acc ++ [y]))) else Nx H3) := by
  refine SortR.lc_zipL (Ma H0 D F) (Ma.start hD) (fun i H m => ⟨m.1.seq hx, m.1.seq hy⟩) (fun i x y T H ex ey m hT => ?_) fun H m => done H m.1 m.2
  rw [yes_eq (A := fun σ2 => wipe σ2 vs = wipe σ vs)]
  exact turn i x y T H _ ex ey m.1 hT fun H4 s => m.more hD ((Grows.new hT).trans s) (Nat.lt_of_lt_of_le (List.getElem?_eq_some_iff.mp ex).1 small)
theorem lc_enumM (F : Nat → V) (hD : H0 D = none) (hx : SqL K H0 a xs) (small : xs.length ≤ 1000000)
    (turn : ∀ (i : Nat) (x : V) (T : Addr) (H : Hp) (R : V → Hp → Prop), xs[i]? = some x → Grows H0 H → H T = none → (∀ H4, Grows (upd H T (.tup [.int (i : Nat), x])) H4 → R (F i) H4) → g (.ref T) (wipe σ vs) (upd H T (.tup [.int (i : Nat), x])) fun σ2 H2 => wipe σ2 vs = wipe σ vs ∧ te σ2 H2 R)
    (done : ∀ H, Grows H0 H → H D = some (.lst ((List.range xs.length).map F)) → Qd H) :
    ∃ W : Nat → Nat → Hp → Prop, (∃ m, W 0 m (upd H0 D (.lst []))) ∧ ∀ i m H, W i m H →
      ((Ite K a).stop i H ∧ Qd H) ∨ ((Ite K a).go i H ∧ ∃ Nx : Hp → Prop, (∀ H', Nx H' → ∃ m', m' < m ∧ W (i + 1) m' H') ∧ ∀ x H', (Ite K a).yld i H x H' → g x (wipe σ vs) H' fun σ2 H2 => wipe σ2 vs = wipe σ vs ∧ tYes σ2 H2 fun b H3 =>
        if b = true then te σ2 H3 fun y H4 => ∃ acc, H4 D = some (.lst acc) ∧ acc.length < sizeLine ∧ Nx (upd H4 D (.lst (acc ++ [y]))) else Nx H3) := by
  refine SortR.lc_enumL (Ma H0 D F) (Ma.start hD) (fun i H m => m.1.seq hx) (fun i x T H ex m hT => ?_) fun H m => done H m.1 m.2
  rw [yes_eq (A := fun σ2 => wipe σ2 vs = wipe σ vs)]
  exact turn i x T H _ ex m.1 hT fun H4 s => m.more hD ((Grows.new hT).trans s) (Nat.lt_of_lt_of_le (List.getElem?_eq_some_iff.mp ex).1 small)
theorem lc_combM (F : Nat → V) (hD : H0 D = none) (small : xs.length ≤ 1000)
    (turn : ∀ (t i j : Nat) (x y : V) (T : Addr) (H : Hp) (R : V → Hp → Prop), (Comb.prs xs.length)[t]? = some (i, j) → xs[i]? = some x → xs[j]? = some y → Grows H0 H → H T = none → (∀ H4, Grows (upd H T (.tup [x, y])) H4 → R (F t) H4) → g (.ref T) (wipe σ vs) (upd H T (.tup [x, y])) fun σ2 H2 => wipe σ2 vs = wipe σ vs ∧ te σ2 H2 R)
    (done : ∀ H, Grows H0 H → H D = some (.lst ((List.range (Comb.prs xs.length).length).map F)) → Qd H) :
    ∃ W : Nat → Nat → Hp → Prop, (∃ m, W 0 m (upd H0 D (.lst []))) ∧ ∀ t m H, W t m H →
      ((Comb.Itcb xs).stop t H ∧ Qd H) ∨ ((Comb.Itcb xs).go t H ∧ ∃ Nx : Hp → Prop, (∀ H', Nx H' → ∃ m', m' < m ∧ W (t + 1) m' H') ∧ ∀ x H', (Comb.Itcb xs).yld t H x H' → g x (wipe σ vs) H' fun σ2 H2 => wipe σ2 vs = wipe σ vs ∧ tYes σ2 H2 fun b H3 =>
        if b = true then te σ2 H3 fun y H4 => ∃ acc, H4 D = some (.lst acc) ∧ acc.length < sizeLine ∧ Nx (upd H4 D (.lst (acc ++ [y]))) else Nx H3) := by
  refine Comb.lc_comb (Ma H0 D F) (Ma.start hD) (fun t i j x y T H et ex ey m hT => ?_) fun H m => done H m.1 m.2
  rw [yes_eq (A := fun σ2 => wipe σ2 vs = wipe σ vs)]
  refine turn t i j x y T H _ et ex ey m.1 hT fun H4 s => m.more hD ((Grows.new hT).trans s) ?_
  have l1 := (List.getElem?_eq_some_iff.mp et).1
  have l2 := Comb.rows_len (xs.length - 1) 0
  have l3 : (xs.length - 1) * (xs.length - 1) ≤ 999 * 999 := Nat.mul_le_mul (by omega) (by omega)
  unfold Comb.prs at l1
  omega
end
/-- xs[1:] -/
theorem cut_tail (xs : List V) : cutV xs (some 1) none = xs.tail := by
  unfold cutV
  rw [HT.sIx_none, show (some (1 : Int)) = some ((1 : Nat) : Int) from rfl, HT.sIx_nat]
  cases xs with
  | nil => rfl
  | cons x l =>
    have e : min 1 (x :: l).length = 1 := by rw [List.length_cons]; omega
    rw [e, List.drop_one, List.tail_cons, List.length_cons, Nat.add_sub_cancel, List.take_length]
end LcM

/-! {key: value for target in iterable if test}, the keys tuples. -/
namespace DcT
open PySem PySem.Spec PyProof.Rows L2
section
variable {X : Cx} {pins : List (Addr × Obj)} {σ : L2.St} {H : Hp} {s : Shared}
/-- one entry is laid by the comprehension -/
theorem set_tup {Er : Value → Shared → Prop} {d b : Addr} {kvs : List (List L2.Key × V)} {k : List L2.Key} {v : V} {u r : Value} {Qu : Unit → Shared → Prop} (room : X.A.units + 1 < cLine) (I : Inv X pins σ H s) (at_d : H d = some (.dT kvs)) (few : kvs.length < sizeLine)
    (at_b : H b = some (.tup (k.map kV))) (ru : RelV (.ref b) u) (rr : RelV v r) (go : ∀ s', Inv X pins σ (upd H d (.dT (putK kvs k v))) s' → Qu () s') : wpAny (model X.prog X.w) X.A (dictSet d u r) Qu Er s := by
  obtain rfl : u = Value.ref b := ru
  obtain ⟨fits, notSys, xs, rel, raw⟩ := dt_of I.hok at_d
  have n1 : xs.length ≤ sizeLine := Paired.length rel ▸ fits
  have n2 : (putK kvs k v).length ≤ sizeLine := Nat.le_trans (length_putK kvs k v) few
  refine wpAny_dictSet_heap (hsz := n1) (show X.A.units < cLine from Nat.lt_of_succ_lt room) (key_of I.hok at_b) raw fun hp raw' same => go _ ?_
  obtain ⟨o, es, ep, g1, g2, g3, g4, _, g5⟩ := raw'
  refine d_write I (by rw [at_d]; exact True.intro) same ⟨o, g1⟩ ⟨n2, notSys, _, (rel.put k at_b rr).keeps fun c ys ec => ?_, o, es, ep, g1, g2, g3, g4, g5⟩
  rw [upd_ne (ne_of ec at_d fun z => nomatch z)]
  exact ec
end
section
variable {X : Cx}
def tDcT (wi : TI) (g : TG) (tt : TT) (tk tv : TE) (vs : List Nat) : TE := fun σ H Q => wi σ H fun J H1 => ∀ D, H1 D = none → ∃ W : Nat → Nat → Hp → Prop, (∃ m, W 0 m (upd H1 D (.dT []))) ∧ ∀ i m H, W i m H →
  (J.stop i H ∧ Q (.ref D) H) ∨ (J.go i H ∧ ∃ Nx : Hp → Prop, (∀ H', Nx H' → ∃ m', m' < m ∧ W (i + 1) m' H') ∧ ∀ x H', J.yld i H x H' → g x (wipe σ vs) H' fun σ2 H2 => wipe σ2 vs = wipe σ vs ∧ tt σ2 H2 fun t H3 =>
    if t = true then tk σ2 H3 fun y H4 => tv σ2 H4 fun z H5 => ∃ b kvs k, y = .ref b ∧ H5 b = some (.tup (k.map kV)) ∧ H5 D = some (.dT kvs) ∧ kvs.length < sizeLine ∧ Nx (upd H5 D (.dT (putK kvs k z))) else Nx H3)
theorem dcT_core {pins : List (Addr × Obj)} {s0 : Shared} {σ : L2.St} {H0 : Hp} {Q : VK} {kx vx tg iter : Expr} {ifs : List Expr} {scope : Scope} {own : List (Str × Nat)} {pos pos' : Pos} {wi : TI} {g : TG} {tt : TT} {tk tv : TE} {use : Option (Value → Sem Unit)} {Qf : Value → Shared → Prop}
    (room : X.A.units + 64 < cLine) (calm : X.calm = true) (nd : X.N.Nodup) (I0 : Inv X pins σ H0 s0) (pi : PI X tg iter wi) (ok : BlkOk X.N X.env.scope scope own)
    (pgs : ∀ (s : Shared) (H : Hp) (C : Addr) (cl : List (Str × Addr)) (fp : List Addr), PG (X.blk s H scope (compEnvC scope cl C X.env) fp) tg g) (pts : ∀ (s : Shared) (H : Hp) (C : Addr) (cl : List (Str × Addr)) (fp : List Addr), PTs (X.blk s H scope (compEnvC scope cl C X.env) fp) ifs tt)
    (pks : ∀ (s : Shared) (H : Hp) (C : Addr) (cl : List (Str × Addr)) (fp : List Addr), PE (X.blk s H scope (compEnvC scope cl C X.env) fp) kx tk) (pvs : ∀ (s : Shared) (H : Hp) (C : Addr) (cl : List (Str × Addr)) (fp : List Addr), PE (X.blk s H scope (compEnvC scope cl C X.env) fp) vx tv)
    (fold : ∀ x, foldedSetIterable iter X.env x = pure x) (rd : tDcT wi g tt tk tv (own.map (·.2)) σ H0 Q)
    (post : ∀ D C t ns G, Inv X pins σ G t → Q (.ref D) G → t.heap.Ns C ns → FpOk X pins G C → compPost (model X.prog X.w) X.A X.xe use Qf (.ref D) C (.ok .next) t) :
    wpAny (model X.prog X.w) X.A (comprehension (.DictComp kx vx [⟨tg, iter, ifs, 0⟩] scope pos) scope X.env pos' newDict false (eval iter X.env) use) Qf X.xe s0 := by
  have isFree : ∀ y ∈ scope.names, y.2 = .free → ∃ c, X.env.cells.lookup y.1 = some c := fun y hy ey => (ok.free y hy ey).elim (fun z => I0.ok.has _ (.inl z)) fun z => I0.ok.has _ (.inr z)
  refine wpAny_comprehension_free (use := use) rfl fold (closure_ok isFree) ok.kind (fun y hy ey => (ok.uniq y hy).trans (congrArg some ey)) (thn (pi.run pins s0 σ H0 _ I0 rd) fun _ sa ha => thn ha fun _ sb hb => ?_)
  obtain ⟨it, fp, tn, J, Hb, rfl, Ib, Tn, tn0, fb, q⟩ := hb
  refine wpAny_newObj_type (newEnv_comp ?_)
  have free0 : Hb sb.heap.objs.size = none := Ib.hok.fresh (Nat.le_refl _)
  obtain ⟨W, ⟨m0, w0⟩, turn⟩ := q _ free0
  -- with the dict, empty
  obtain ⟨sc, esc⟩ : ∃ z : Shared, z = { sb with heap := sb.heap.push { cls := .type "dict", data := .dict #[] } } := ⟨_, rfl⟩
  obtain ⟨Hc, eHc⟩ : ∃ z : Hp, z = upd Hb sb.heap.objs.size (.dT []) := ⟨_, rfl⟩
  have Ic : Inv X pins σ Hc sc := by
    rw [esc, eHc]
    exact Ib.laid (t' := sb.toks) (fun b o z => Heap.get?_push_of_some _ z) (Nat.le_refl _) (dt_empty sb.heap Ib.big)
  have up : ∀ b o, sb.heap.get? b = some o → sc.heap.get? b = some o := fun b o z => by
    rw [esc]
    exact Heap.get?_push_of_some _ z
  have below : ∀ b ∈ fp, b < sb.heap.objs.size := fun b hb => let ⟨_, z, _⟩ := Tn.obj _ _ tn0 b hb; Heap.lt_size z
  have fc : ∀ b ∈ fp, FpOk X pins Hc b ∧ b < sc.heap.objs.size := fun b hb => by
    obtain ⟨o, z, _⟩ := Tn.obj _ _ tn0 b hb
    refine ⟨⟨?_, (fb b hb).2⟩, Heap.lt_size (up b o z)⟩
    rw [eHc, upd_ne (Nat.ne_of_lt (below b hb))]
    exact (fb b hb).1
  have tnc : tn 0 sc.heap := Tn.keep _ _ _ tn0 fun b _ o z => up b o z
  have Ie := block_start Ic ok nd fc
  obtain ⟨cells, ecl⟩ : ∃ z, z = cellsFrom (sc.heap.objs.size + 1) scope.names (cloFrom X.env.cells scope.names []) := ⟨_, rfl⟩
  have pg := pgs sc Hc sc.heap.objs.size cells fp
  have pt := pts sc Hc sc.heap.objs.size cells fp
  have pk := pks sc Hc sc.heap.objs.size cells fp
  have pv := pvs sc Hc sc.heap.objs.size cells fp
  rw [← ecl] at Ie
  rw [← esc]
  show codeAny _ _ (.compStart _ 0 (.ref it) (.ref sb.heap.objs.size) (compEnvC scope (cellsFrom (sc.heap.objs.size + 1) scope.names (cloFrom X.env.cells scope.names [])) sc.heap.objs.size X.env)) (compPost _ _ X.xe use Qf (.ref sb.heap.objs.size) sc.heap.objs.size) _
  rw [← ecl]
  have loc : (compEnvC scope cells sc.heap.objs.size X.env).locals = sc.heap.objs.size := rfl
  rw [← eHc] at w0
  have empty : ∀ b ∈ fp, Hc b = none := fun b hb => (fc b hb).1.1
  obtain ⟨sd, esd⟩ : ∃ z : Shared, z = { sc with heap := pushCells (sc.heap.push { cls := .type "dict", data := .dict #[] }) scope.names } := ⟨_, rfl⟩
  have tnd : tn 0 sd.heap := Tn.keep _ _ _ tnc fun b _ o z => by
    rw [esd]
    exact pushCells_keeps _ _ _ _ (Heap.get?_push_of_some _ z)
  rw [← esd] at Ie ⊢
  generalize compEnvC scope cells sc.heap.objs.size X.env = ce at Ie pg pt pk pv loc ⊢
  -- the iterator's own objects in the block
  have own_ok : ∀ {ρ : L2.St} {G : Hp} {t : Shared}, Inv (X.blk sc Hc scope ce fp) [] ρ G t → (∀ b ∈ fp, G b = none) → ∀ b ∈ fp, FpOk (X.blk sc Hc scope ce fp) [] G b := fun {ρ G t} J hn b hb =>
    ⟨hn b hb, (J.ok.exf b hb).1, J.ok.exfs b hb, .inl hb, fun y c z => (J.ok.exf b hb).2 y c z, fun p hp => (nomatch hp)⟩
  have run : codeAny (model X.prog X.w) X.A (.compLoop (.DictComp kx vx [⟨tg, iter, ifs, 0⟩] scope pos) 0 (.ref it) (.ref sb.heap.objs.size) ce) (compPost (model X.prog X.w) X.A X.xe use Qf (.ref sb.heap.objs.size) sc.heap.objs.size) sd := by
    refine compLoop_anyD (fun m t => ∃ i G, Inv (X.blk sc Hc scope ce fp) [] (wipe σ (own.map (·.2))) G t ∧ tn i t.heap ∧ (∀ b ∈ fp, G b = none) ∧ W i m G) ?_ m0 ⟨0, Hc, Ie, tnd, empty, w0⟩
    rintro m t ⟨i, G, J, tni, none_, wi_⟩
    rcases turn i m G wi_ with ⟨stop, fin⟩ | ⟨go, Nx, less, step⟩
    · refine thnF (Tn.done (X.blk sc Hc scope ce fp) rfl rfl rfl calm i [] t _ G (fun _ _ => False) J (own_ok J none_) tni stop) fun r t2 ⟨er, J2⟩ => ?_
      subst er
      have back : Inv X pins σ G t2 := Ic.call' (ch := fp) J2.os J2.base J2.hok J2.bare fun b hb => ⟨(fc b hb).1.2.2.2.1, (fc b hb).1.2.1, (fc b hb).1.2.2.2.2.1, (fc b hb).1.2.2.2.2.2⟩
      have noC : G sc.heap.objs.size = none := by
        have z : G ce.locals = none := J2.free
        rwa [loc] at z
      obtain ⟨ns, isNs, _⟩ := J2.loc
      have isNs' : t2.heap.Ns ce.locals ns := isNs
      rw [loc] at isNs'
      exact post _ _ t2 ns G back fin isNs' (Ic.fpOk (Nat.le_refl _) noC)
    · refine thnF (Tn.item (X.blk sc Hc scope ce fp) rfl rfl rfl calm i [] t _ G (fun _ _ => False) J (own_ok J none_) tni go) fun r t2 ⟨u, er, h2⟩ => ?_
      subst er
      refine thnF h2 fun _ t3 ⟨x, G3, J3, r3, y3, tn3, none3⟩ => ?_
      have K3 := J3.pinned (own_ok J3 none3) (Tn.obj _ _ tn3)
      refine thnF (pg.run _ t3 _ G3 x u _ K3 r3 (step x G3 y3)) fun _ t4 ⟨ρ4, G4, J4, same4, q4⟩ => ?_
      refine thnF (pt.run _ t4 ρ4 G4 _ J4 q4) fun yes t5 ⟨G5, J5, q5⟩ => ?_
      have next : ∀ {t' : Shared} {G' : Hp}, Inv (X.blk sc Hc scope ce fp) ([] ++ pinsAt fp t3.heap) ρ4 G' t' → Nx G' → ∃ m', m' < m ∧ ∃ i G, Inv (X.blk sc Hc scope ce fp) [] (wipe σ (own.map (·.2))) G t' ∧ tn i t'.heap ∧ (∀ b ∈ fp, G b = none) ∧ W i m' G := fun {t' G'} J' nx => by
        obtain ⟨m', lt, w'⟩ := less G' nx
        have held : ∀ b ∈ fp, ∀ o, t3.heap.get? b = some o → t'.heap.get? b = some o ∧ G' b = none := fun b hb o z =>
          have p := J'.pin (b, o) (List.mem_append_right _ (List.mem_append_right _ (mem_pinsAt hb z)))
          ⟨p.1, p.2.1⟩
        have len : (wipe σ (own.map (·.2))).length = ρ4.length := by rw [← same4, wipe_length]
        refine ⟨m', lt, i + 1, G', (J'.unpinned (pins := [])).weak len (fun j v z => ?_), Tn.keep _ _ _ tn3 fun b hb o z => (held b hb o z).1, fun b hb => ?_, w'⟩
        · rw [← same4] at z
          exact (wipe_some z).1
        · obtain ⟨o, z, _⟩ := Tn.obj _ _ tn3 b hb
          exact (held b hb o z).2
      cases yes with
      | false =>
        simp only [Bool.false_eq_true, if_false] at q5 ⊢
        exact next J5 q5
      | true =>
        simp only [if_true] at q5 ⊢
        refine thnF (pk.run _ t5 ρ4 G5 _ J5 q5) fun ku t6 ⟨yk, G6, J6, r6, q6⟩ => thnF (pv.run _ t6 ρ4 G6 _ J6 q6) fun vu t7 ⟨yv, G7, J7, r7, b, kvs, k, ek, at_b, at_d, few, nx⟩ => ?_
        subst ek
        exact set_tup (X := X.blk sc Hc scope ce fp) (show X.A.units + 1 < cLine by omega) J7 at_d few at_b r6 r7 fun t8 J8 => next J8 nx
  exact codeAny_compStart_dict run (Tn.self X.A 0 _ _ _ tnd run)
/-- as a value -/
theorem pe_dcT {kx vx tg iter : Expr} {ifs : List Expr} {scope : Scope} {own : List (Str × Nat)} {pos : Pos} {wi : TI} {g : TG} {tt : TT} {tk tv : TE} (room : X.A.units + 64 < cLine) (calm : X.calm = true) (nd : X.N.Nodup) (pi : PI X tg iter wi) (ok : BlkOk X.N X.env.scope scope own)
    (pgs : ∀ (s : Shared) (H : Hp) (C : Addr) (cl : List (Str × Addr)) (fp : List Addr), PG (X.blk s H scope (compEnvC scope cl C X.env) fp) tg g) (pts : ∀ (s : Shared) (H : Hp) (C : Addr) (cl : List (Str × Addr)) (fp : List Addr), PTs (X.blk s H scope (compEnvC scope cl C X.env) fp) ifs tt)
    (pks : ∀ (s : Shared) (H : Hp) (C : Addr) (cl : List (Str × Addr)) (fp : List Addr), PE (X.blk s H scope (compEnvC scope cl C X.env) fp) kx tk) (pvs : ∀ (s : Shared) (H : Hp) (C : Addr) (cl : List (Str × Addr)) (fp : List Addr), PE (X.blk s H scope (compEnvC scope cl C X.env) fp) vx tv)
    (fold : ∀ x, foldedSetIterable iter X.env x = pure x := by intro _; rfl) : PE X (.DictComp kx vx [⟨tg, iter, ifs, 0⟩] scope pos) (tDcT wi g tt tk tv (own.map (·.2))) := by
  refine ⟨fun pins s0 σ H0 Q I0 rd => ?_⟩
  rw [arm_eval_DictComp]
  refine dcT_core room calm nd I0 pi ok pgs pts pks pvs fold rd fun D C t ns G J fin isNs ⟨f0, f1, f2, f3, f4, f5⟩ => ⟨ns, isNs, fun h2 sb2 => ⟨.ref D, G, J.turned (t' := t.toks) (fun b o ne z => (sb2.2 b ne).trans z) f0 f1 f3 f4 f5, rfl, fin⟩⟩
/-- name = {..} on one line, the name a local -/
theorem ps_setDcT {i : Nat} {y : Str} {py : Pos} {kx vx tg iter : Expr} {ifs : List Expr} {scope : Scope} {own : List (Str × Nat)} {pos spos : Pos} {wi : TI} {g : TG} {tt : TT} {tk tv : TE} (room : X.A.units + 64 < cLine) (calm : X.calm = true) (nd : X.N.Nodup) (at_y : X.N[i]? = some y) (loc : X.env.scope.names.lookup y = some .local)
    (sw : swapsWith (.DictComp kx vx [⟨tg, iter, ifs, 0⟩] scope pos) (some (.Name y py)) spos.line X.env = pure true) (pi : PI X tg iter wi) (ok : BlkOk X.N X.env.scope scope own)
    (pgs : ∀ (s : Shared) (H : Hp) (C : Addr) (cl : List (Str × Addr)) (fp : List Addr), PG (X.blk s H scope (compEnvC scope cl C X.env) fp) tg g) (pts : ∀ (s : Shared) (H : Hp) (C : Addr) (cl : List (Str × Addr)) (fp : List Addr), PTs (X.blk s H scope (compEnvC scope cl C X.env) fp) ifs tt)
    (pks : ∀ (s : Shared) (H : Hp) (C : Addr) (cl : List (Str × Addr)) (fp : List Addr), PE (X.blk s H scope (compEnvC scope cl C X.env) fp) kx tk) (pvs : ∀ (s : Shared) (H : Hp) (C : Addr) (cl : List (Str × Addr)) (fp : List Addr), PE (X.blk s H scope (compEnvC scope cl C X.env) fp) vx tv)
    (fold : ∀ x, foldedSetIterable iter X.env x = pure x := by intro _; rfl) : PS X (.Assign [.Name y py] (.DictComp kx vx [⟨tg, iter, ifs, 0⟩] scope pos) spos) (tAsg (tDcT wi g tt tk tv (own.map (·.2))) (gName i)) := by
  refine ⟨fun pins s0 σ H0 D I0 rd => ?_⟩
  rw [exec_Assign_Name_used _ _ _ _ sw]
  refine wpAny_bind (wpAny_standAt (wpAny_bind ?_))
  show wpAny _ X.A (do let _ ← comprehension (.DictComp kx vx [⟨tg, iter, ifs, 0⟩] scope pos) scope X.env (firstIterPos [⟨tg, iter, ifs, 0⟩] pos) newDict false (eval iter X.env) (some (assign (.Name y py) X.env))) _ _ s0
  have rd' : tDcT wi g tt tk tv (own.map (·.2)) σ H0 (fun x G => gName i x σ G D.nx) := rd
  refine wpAny_bind (thn (dcT_core (Qf := fun _ t => SP X pins D .next t) room calm nd I0 pi ok pgs pts pks pvs fold rd' fun L C t ns G J fin isNs fo => ?_) fun _ _ z => wpAny_pure (wpAny_pure z))
  obtain ⟨f0, f1, f2, f3, f4, f5⟩ := fo
  show wpAny _ _ (assign (.Name y py) X.env (.ref L)) _ _ _
  refine wpAny_assign_Name (store_ok2 (v := V.ref L) J nd at_y (.inl loc) rfl (fun t2 J2 ⟨c, sb, hc⟩ => ?_) (.inr loc))
  have ne : C ≠ c := hc.elim (fun z => z ▸ f1) fun z e => f4 y c z e.symm
  exact ⟨ns, isNs.sameBut sb ne, fun h3 sb3 => ⟨_, G, J2.turned (t' := t2.toks) (fun b o hb e => (sb3.2 b hb).trans e) f0 f1 f3 f4 f5, fin⟩⟩
theorem sw_dict {kx vx : Expr} {gs : List Comprehension} {scope : Scope} {pos py : Pos} {y : Str} {l : Nat} {env : Env} (fn : env.scope.kind = .function) (loc : env.scope.names.lookup y = some .local) (row : (py.line == pos.line) = true)
    (other : (scope.names.any fun (n, k) => n == y && (k == .local || k == .cell)) = false) : swapsWith (.DictComp kx vx gs scope pos) (some (.Name y py)) l env = pure true := by
  have k1 : env.kindOf y = some .local := loc
  have k2 : env.blockKind = .function := by
    unfold Env.blockKind
    rw [fn]
    rfl
  unfold swapsWith
  simp only [k1, k2, other, Expr.pos, row]
  rfl
end
end DcT

/-! sorted(d), the keys of d tuples of ints, of any number. -/
namespace SortR
open PySem PySem.Spec PyProof.Rows L2 PySem.W
theorem enc_alikeT (p q : Addr × List Int) : alike (PyData.tuple (p.2.map .int)) (PyData.tuple (q.2.map .int)) = true := by
  simp only [alike]
  exact alike_ints p.2 q.2
theorem le_tuples : dataLe false (fun b : Addr × List Int => PyData.tuple (b.2.map .int)) = rowLe := by
  have e : dataLe false (fun b : Addr × List Int => PyData.tuple (b.2.map .int)) = dataLe false (fun b : Addr × List Int => PyData.list (b.2.map .int)) := by
    funext p q
    simp only [dataLe_eq, dataLt_tuple, dataLt_list]
  rw [e]
  exact dataLe_rows (fun b : Addr × List Int => b.2)
/-- the keys' tuples, in the dict's sequence -/
theorem key_rows {H : Hp} : ∀ {kvs : List (List L2.Key × V)} {ks : List (List L2.Key × Addr × Value)} {bs : List (List Int)},
    Paired (fun (p : List L2.Key × V) (q : List L2.Key × Addr × Value) => p.1 = q.1 ∧ H q.2.1 = some (.tup (p.1.map kV)) ∧ RelV p.2 q.2.2) kvs ks → kvs.map (·.1) = bs.map (fun ns => ns.map Sum.inl) →
    ∃ as : List (Addr × List Int), as.map (·.1) = ks.map (·.2.1) ∧ as.map (·.2) = bs ∧ ∀ b ∈ as, H b.1 = some (.tup (b.2.map V.int))
  | _, _, [], .nil, _ => ⟨[], rfl, rfl, fun _ m => nomatch m⟩
  | _, _, n :: bs, .cons (a := p) (b := q) h t, e => by
    rw [List.map_cons, List.map_cons] at e
    obtain ⟨e1, e2⟩ := List.cons.inj e
    obtain ⟨as, f1, f2, f3⟩ := key_rows t e2
    refine ⟨(q.2.1, n) :: as, by rw [List.map_cons, List.map_cons, f1], by rw [List.map_cons, f2], fun b m => ?_⟩
    rcases List.mem_cons.mp m with z | z
    · rw [z]
      have g := h.2.1
      rw [e1, List.map_map] at g
      exact g
    · exact f3 b z
  | _, _, [], .cons _ _, e => by cases e
  | _, _, _ :: _, .nil, e => by cases e
section
variable {X : Cx}
theorem call_sortedDT (hu : X.A.units + 64 < cLine) (calm : X.calm = true) : CallR X (.builtin "sorted") (fun xs H Q => ∃ (d : Addr) (kvs : List (List L2.Key × V)) (bs : List (List Int)), xs = [V.ref d] ∧ H d = some (.dT kvs) ∧ kvs.map (·.1) = bs.map (fun ns => ns.map Sum.inl) ∧ (∀ k ∈ bs, k ≠ []) ∧
    ∀ as : List (Addr × List Int), as.map (·.2) = bs → (∀ b ∈ as, H b.1 = some (.tup (b.2.map V.int))) → ∀ p, H p = none → Q (.ref p) (upd H p (.lst ((as.mergeSort rowLe).map fun b => V.ref b.1)))) := by
  intro pins s σ H xs us Q I r h
  obtain ⟨d, kvs, bs, rfl, hd, hk, hne, q⟩ := h
  obtain ⟨u, rfl, ru⟩ := vals1 r
  obtain rfl : u = Value.ref d := ru
  obtain ⟨z, hs, ks, pr, o, es, ep, ho, hx, hdt, he, hn⟩ := (show ObjOk X.prog X.w H s.heap d (.dT kvs) from I.hok d _ hd)
  obtain ⟨as, a1, a2, a3⟩ := key_rows pr hk
  have l0 : es.size = ks.length := size_of_entries he
  have l1 : kvs.length = ks.length := Paired.length pr
  have l2 : as.length = ks.length := by rw [← List.length_map (f := (·.1)), a1, List.length_map]
  have fits : ks.length ≤ sizeLine := l1 ▸ z
  refine Calls.call_function_entry PyProof.Rows.kind_sorted PyProof.Rows.plain_sorted PyProof.Rows.entry_sorted (PyProof.Rows.args_sorted1 _) ?_
  unfold Builtin.«sorted»
  refine wpAny_bind (m := checkCount "sorted" 1 1 _) (wpAny_pure (wpAny_bind (kdu_collect (A := X.A.in1) (kdl_raw hs hx hdt) (I.ok.hd calm) ho (l0 ▸ fits) fun h1 tk acc keep it => ?_)))
  have ea : acc.toList = as.map fun b => Value.ref b.1 := by
    have e1 : acc.toList = ks.map fun x => Value.ref x.2.1 := by
      have len : acc.toList.length = ks.length := by rw [Array.length_toList, it.1, l0]
      refine List.ext_getElem (by rw [List.length_map, len]) fun j j1 j2 => ?_
      obtain ⟨en, hen, hv⟩ := it.2 j acc.toList[j] (by rw [← Array.getElem?_toList, List.getElem?_eq_getElem j1])
      have at_j := entry_at he j
      rw [hen, List.getElem?_eq_getElem (len ▸ j1)] at at_j
      have e2 : en = entryOfKey (tupleKind (mixKind X.prog X.w)) (ks[j]'(len ▸ j1)) := Option.some.inj at_j
      rw [hv, e2, List.getElem_map]
      rfl
    rw [e1]
    have e3 := congrArg (List.map Value.ref) a1
    rw [List.map_map, List.map_map] at e3
    exact e3.symm
  have len : acc.toList.length = as.length := by rw [ea, List.length_map]
  have I1 : Inv X pins σ H { s with heap := h1, toks := tk } := I.kept keep
  refine wpAny_bind (wpAny_newList ?_ (by rw [len, l2]; exact fits))
  have at_p : (h1.push (seqObj "list" acc.toList.toArray 0)).get? h1.objs.size = some (seqObj "list" acc.toList.toArray 0) := Heap.get?_push_size _ rfl
  have old : ∀ b u, h1.get? b = some u → b ≠ h1.objs.size ∧ (h1.push (seqObj "list" acc.toList.toArray 0)).get? b = some u := fun b u e => ⟨Nat.ne_of_lt (Heap.lt_size e), Heap.get?_push_of_some _ e⟩
  have each : EachIs (fun v (b : Addr × List Int) => v = Value.ref b.1 ∧ True) acc.toList as := by
    have vr : Vals (as.map fun b => V.ref b.1) acc.toList := by
      rw [ea]
      clear ea a1 a2 a3 l2 len q it
      induction as with
      | nil => exact .nil
      | cons b as ih => exact .cons rfl ih
    exact vals_each (h := s.heap) (K := X.K) (H := H) (P := fun _ => True) vr fun _ _ => trivial
  obtain ⟨hS, ehS⟩ : ∃ z, z = sortingHeap (h1.push (seqObj "list" acc.toList.toArray 0)) h1.objs.size acc.toList := ⟨_, rfl⟩
  have reads : EachIs (fun v (b : Addr × List Int) => ∃ rs, Reads hS v (PyData.tuple (b.2.map .int)) rs) acc.toList as := by
    have each2 : EachIs (fun v (b : Addr × List Int) => v = Value.ref b.1 ∧ H b.1 = some (.tup (b.2.map V.int))) acc.toList as := by
      have vr : Vals (as.map fun b => V.ref b.1) acc.toList := each_back each
      exact vals_each (h := s.heap) (K := X.K) (H := H) vr a3
    refine each_mono each2 fun v b ⟨ev, hb⟩ => ?_
    rw [ev]
    obtain ⟨rs, rr⟩ := Dp.reads I1 (PyData.tuple (b.2.map .int)) (.ref b.1) (.ref b.1) (.tup (SqT.of hb) (rows_dp b.2)) rfl
    refine ⟨rs, PyProof.Rows.Reads.keeps (fun c u e => ?_) rr⟩
    rw [ehS]
    obtain ⟨n1, n2⟩ := old c u e
    exact sortingHeap_old n1 n2
  have alikeAll_ : AllAlike (as.map fun b => PyData.tuple (b.2.map .int)) := AllAlike.of enc_alikeT
  have sortable : Sortable (as.map fun b => PyData.tuple (b.2.map .int)) := .inl fun dd hm => by
    obtain ⟨b, hb, rfl⟩ := List.mem_map.mp hm
    have mem : b.2 ∈ bs := a2 ▸ List.mem_map.mpr ⟨b, hb, rfl⟩
    cases e : b.2 with
    | nil => exact absurd e (hne _ mem)
    | cons x l => exact ⟨_, _, rfl⟩
  have shallow : ∀ dd ∈ as.map (fun b => PyData.tuple (b.2.map .int)), dd.depth = 1 := fun dd hm => by
    obtain ⟨b, _, rfl⟩ := List.mem_map.mp hm
    simp only [PyData.depth, depth_ints]
  show wpAny _ _ _ _ _ { s with heap := h1.push (seqObj "list" acc.toList.toArray 0), toks := tk }
  have sorts : ∀ Ar : Around, Ar.units ≤ X.A.units + 8 → SortsAt X.prog X.w Ar { s with heap := hS, toks := tk } (dataKind hS (as.map fun b => PyData.tuple (b.2.map .int))) acc.toList := fun Ar hA =>
    SortsAt.data (s := { s with heap := hS, toks := tk }) (each_map (R := fun v dd => ∃ rs, Reads hS v dd rs) (fun b : Addr × List Int => PyData.tuple (b.2.map .int)) reads) alikeAll_ sortable fun dd hm => by rw [shallow dd hm]; omega
  rw [ehS] at sorts reads
  have each3 := sortVals_data (R := fun v (b : Addr × List Int) => v = Value.ref b.1 ∧ True) (enc := fun b : Addr × List Int => PyData.tuple (b.2.map .int)) false each reads alikeAll_
  rw [le_tuples] at each3
  have back := each_back each3
  have short : ((as.mergeSort rowLe).map fun b => V.ref b.1).length ≤ sizeLine := by
    rw [List.length_map, List.length_mergeSort, l2]
    exact fits
  refine wpAny_bind (wpAny_holding (wpAny_call_entry PyProof.Rows.slot_list_sort ⟨_, at_p, rfl⟩ PyProof.Rows.entry_list_sort
    (list_sort_vals (s := { s with heap := h1.push (seqObj "list" acc.toList.toArray 0), toks := tk }) at_p (sorts _ (by show X.A.units + 1 + 1 ≤ X.A.units + 8; omega)) (by rw [len, l2]; exact fits) ⟨_, rfl, ?_⟩) (PyProof.Rows.args_list_sort _)))
  obtain ⟨n2, at2⟩ := PyProof.Rows.sortedHeap_at (vs := acc.toList) (out := (sortVals (dataKind (sortingHeap (h1.push (seqObj "list" acc.toList.toArray 0)) h1.objs.size acc.toList) (as.map fun b => PyData.tuple (b.2.map .int))) false acc.toList acc.toList).toArray) at_p
  refine wpAny_pure ⟨_, rfl, .ref h1.objs.size, upd H h1.objs.size (.lst ((as.mergeSort rowLe).map fun b => V.ref b.1)), I1.laid (t' := tk) (fun b u e => ?_) (Nat.le_refl _) ⟨short, _, n2, back, at2⟩, rfl, q as a2 a3 _ (I1.hok.fresh (Nat.le_refl _))⟩
  obtain ⟨n1, g⟩ := old b u e
  rw [PyProof.Rows.sortedHeap_old n1 (Heap.lt_size g)]
  exact g
end
end SortR

/-! Comprehensions with a test, and dict comprehensions, by the value of each turn. -/
namespace LcM
open PySem PySem.Spec PyProof.Rows L2
/-- what is kept -/
def kept (p : Nat → Bool) (F : Nat → V) (n : Nat) : List V := ((List.range n).filter p).map F
theorem kept_yes {p : Nat → Bool} {F : Nat → V} {n : Nat} (h : p n = true) : kept p F (n + 1) = kept p F n ++ [F n] := by
  unfold kept
  rw [List.range_succ, List.filter_append, List.map_append, List.filter_cons_of_pos h]
  rfl
theorem kept_no {p : Nat → Bool} {F : Nat → V} {n : Nat} (h : p n = false) : kept p F (n + 1) = kept p F n := by
  unfold kept
  rw [List.range_succ, List.filter_append, List.map_append, List.filter_cons_of_neg (by rw [h]; exact Bool.false_ne_true)]
  exact List.append_nil _
theorem kept_le (p : Nat → Bool) (F : Nat → V) (n : Nat) : (kept p F n).length ≤ n := by
  unfold kept
  rw [List.length_map]
  exact Nat.le_trans (List.length_filter_le _ _) (Nat.le_of_eq List.length_range)
section
variable {K : PySem.W.Frag} {a : Addr} {xs : List V} {g : TG} {tt : TT} {te tk tv : TE} {vs : List Nat} {σ : L2.St} {H0 : Hp} {D : Addr} {Qd : Hp → Prop}
theorem lc_listT (p : Nat → Bool) (F : Nat → V) (hD : H0 D = none) (hx : SqL K H0 a xs) (small : xs.length ≤ 1000000)
    (turn : ∀ (i : Nat) (x : V) (H : Hp) (Ry : V → Hp → Prop) (Rn : Hp → Prop), xs[i]? = some x → Grows H0 H → (p i = true → ∀ H4, Grows H H4 → Ry (F i) H4) → (p i = false → ∀ H4, Grows H H4 → Rn H4) →
      g x (wipe σ vs) H fun σ2 H2 => wipe σ2 vs = wipe σ vs ∧ tt σ2 H2 fun t H3 => if t = true then te σ2 H3 Ry else Rn H3)
    (done : ∀ H, Grows H0 H → H D = some (.lst (kept p F xs.length)) → Qd H) :
    ∃ W : Nat → Nat → Hp → Prop, (∃ m, W 0 m (upd H0 D (.lst []))) ∧ ∀ i m H, W i m H →
      ((Itl K a).stop i H ∧ Qd H) ∨ ((Itl K a).go i H ∧ ∃ Nx : Hp → Prop, (∀ H', Nx H' → ∃ m', m' < m ∧ W (i + 1) m' H') ∧ ∀ x H', (Itl K a).yld i H x H' → g x (wipe σ vs) H' fun σ2 H2 => wipe σ2 vs = wipe σ vs ∧ tt σ2 H2 fun b H3 =>
        if b = true then te σ2 H3 fun y H4 => ∃ acc, H4 D = some (.lst acc) ∧ acc.length < sizeLine ∧ Nx (upd H4 D (.lst (acc ++ [y]))) else Nx H3) := by
  refine lc_list (fun i H => Grows H0 H ∧ H D = some (.lst (kept p F i))) ⟨Grows.new hD, upd_same⟩ (fun i H _ m => m.1.seq hx) (fun i x H ex m => ?_) fun H m => done H m.1 m.2
  have il := Nat.lt_of_lt_of_le (List.getElem?_eq_some_iff.mp ex).1 small
  refine turn i x H _ _ ex m.1 (fun hp H4 s => ⟨_, s _ _ m.2, ?_, fun b o e => ?_, ?_⟩) fun hp H4 s => ⟨m.1.trans s, ?_⟩
  · exact Nat.lt_of_le_of_lt (kept_le p F i) (Nat.lt_trans il (by decide))
  · rw [upd_ne (ne_of_none e hD)]
    exact s _ _ (m.1 _ _ e)
  · rw [upd_same, kept_yes hp]
  · rw [kept_no hp]
    exact s _ _ m.2
/-- a dict's entries, laid one after another -/
def laid {κ : Type} [DecidableEq κ] (p : Nat → Bool) (G : Nat → κ) (F : Nat → V) : Nat → List (κ × V)
  | 0 => []
  | n + 1 => if p n = true then putK (laid p G F n) (G n) (F n) else laid p G F n
theorem laid_le {κ : Type} [DecidableEq κ] (p : Nat → Bool) (G : Nat → κ) (F : Nat → V) : ∀ n, (laid p G F n).length ≤ n
  | 0 => Nat.le_refl _
  | n + 1 => by
    have ih := laid_le p G F n
    unfold laid
    by_cases h : p n = true
    · rw [if_pos h]
      exact Nat.le_trans (length_putK _ _ _) (Nat.succ_le_succ ih)
    · rw [if_neg h]
      exact Nat.le_succ_of_le ih
/-- over enumerate, keys ints or texts, no test -/
theorem dc_enumM (G : Nat → L2.Key) (F : Nat → V) (hD : H0 D = none) (hx : SqL K H0 a xs) (small : xs.length ≤ 1000000)
    (turn : ∀ (i : Nat) (x : V) (T : Addr) (H : Hp) (R : V → Hp → V → Hp → Prop), xs[i]? = some x → Grows H0 H → H T = none → (∀ H4 H5, Grows (upd H T (.tup [.int (i : Nat), x])) H4 → Grows H4 H5 → R (kV (G i)) H4 (F i) H5) →
      g (.ref T) (wipe σ vs) (upd H T (.tup [.int (i : Nat), x])) fun σ2 H2 => wipe σ2 vs = wipe σ vs ∧ tk σ2 H2 fun y H4 => tv σ2 H4 fun z H5 => R y H4 z H5)
    (done : ∀ H, Grows H0 H → H D = some (.dK (laid (fun _ => true) G F xs.length)) → Qd H) :
    ∃ W : Nat → Nat → Hp → Prop, (∃ m, W 0 m (upd H0 D (.dK []))) ∧ ∀ i m H, W i m H →
      ((Ite K a).stop i H ∧ Qd H) ∨ ((Ite K a).go i H ∧ ∃ Nx : Hp → Prop, (∀ H', Nx H' → ∃ m', m' < m ∧ W (i + 1) m' H') ∧ ∀ x H', (Ite K a).yld i H x H' → g x (wipe σ vs) H' fun σ2 H2 => wipe σ2 vs = wipe σ vs ∧ tYes σ2 H2 fun b H3 =>
        if b = true then tk σ2 H3 fun y H4 => tv σ2 H4 fun z H5 => ∃ kvs k, y = kV k ∧ H5 D = some (.dK kvs) ∧ kvs.length < sizeLine ∧ Nx (upd H5 D (.dK (putK kvs k z))) else Nx H3) := by
  let inv : Nat → Hp → Prop := fun i H => Grows H0 H ∧ H D = some (.dK (laid (fun _ => true) G F i))
  refine ⟨fun i m H => m = xs.length - i ∧ i ≤ xs.length ∧ inv i H, ⟨_, rfl, Nat.zero_le _, Grows.new hD, upd_same⟩, ?_⟩
  rintro i m H ⟨rfl, hi, pv⟩
  rcases Nat.lt_or_ge i xs.length with lt | ge
  · have ex : xs[i]? = some xs[i] := List.getElem?_eq_getElem lt
    refine .inr ⟨⟨xs, _, pv.1.seq hx, ex⟩, inv (i + 1), fun H' p' => ⟨xs.length - (i + 1), by omega, rfl, lt, p'⟩, fun v H' y => ?_⟩
    obtain ⟨T, x, rfl, hT, rfl, f1⟩ := y
    have e0 : (fun (σ2 : L2.St) (H2 : Hp) => wipe σ2 vs = wipe σ vs ∧ tYes σ2 H2 fun b H3 => if b = true then tk σ2 H3 fun y H4 => tv σ2 H4 fun z H5 => ∃ kvs k, y = kV k ∧ H5 D = some (.dK kvs) ∧ kvs.length < sizeLine ∧ inv (i + 1) (upd H5 D (.dK (putK kvs k z))) else inv (i + 1) H3) =
        fun σ2 H2 => wipe σ2 vs = wipe σ vs ∧ tk σ2 H2 fun y H4 => tv σ2 H4 fun z H5 => ∃ kvs k, y = kV k ∧ H5 D = some (.dK kvs) ∧ kvs.length < sizeLine ∧ inv (i + 1) (upd H5 D (.dK (putK kvs k z))) := by
      funext σ2 H2
      unfold tYes
      dsimp only
      rw [if_pos rfl]
    rw [e0]
    refine turn i x T H (fun y _ z H5 => ∃ kvs k, y = kV k ∧ H5 D = some (.dK kvs) ∧ kvs.length < sizeLine ∧ inv (i + 1) (upd H5 D (.dK (putK kvs k z)))) (f1 xs (pv.1.seq hx)) pv.1 hT fun H4 H5 s4 s5 => ⟨_, G i, rfl, s5 _ _ (s4 _ _ (Grows.new hT _ _ pv.2)), ?_, fun b o e => ?_, ?_⟩
    · exact Nat.lt_of_le_of_lt (laid_le _ G F i) (Nat.lt_of_lt_of_le lt (Nat.le_trans small (by decide)))
    · rw [upd_ne (ne_of_none e hD)]
      exact s5 _ _ (s4 _ _ (Grows.new hT _ _ (pv.1 _ _ e)))
    · rw [upd_same]
      rfl
  · have e : i = xs.length := by omega
    subst e
    exact .inl ⟨⟨xs, pv.1.seq hx, Nat.le_refl _⟩, done H pv.1 pv.2⟩
/-- over a list, the keys tuples, with a test -/
theorem dc_listTT (p : Nat → Bool) (G : Nat → List L2.Key) (F : Nat → V) (hD : H0 D = none) (hx : SqL K H0 a xs) (small : xs.length ≤ 1000000)
    (turn : ∀ (i : Nat) (x : V) (H : Hp) (R : V → V → Hp → Prop) (Rn : Hp → Prop), xs[i]? = some x → Grows H0 H → (p i = true → ∀ b H5, Grows H H5 → H5 b = some (.tup ((G i).map kV)) → R (.ref b) (F i) H5) → (p i = false → ∀ H4, Grows H H4 → Rn H4) →
      g x (wipe σ vs) H fun σ2 H2 => wipe σ2 vs = wipe σ vs ∧ tt σ2 H2 fun t H3 => if t = true then tk σ2 H3 fun y H4 => tv σ2 H4 fun z H5 => R y z H5 else Rn H3)
    (done : ∀ H, Grows H0 H → H D = some (.dT (laid p G F xs.length)) → Qd H) :
    ∃ W : Nat → Nat → Hp → Prop, (∃ m, W 0 m (upd H0 D (.dT []))) ∧ ∀ i m H, W i m H →
      ((Itl K a).stop i H ∧ Qd H) ∨ ((Itl K a).go i H ∧ ∃ Nx : Hp → Prop, (∀ H', Nx H' → ∃ m', m' < m ∧ W (i + 1) m' H') ∧ ∀ x H', (Itl K a).yld i H x H' → g x (wipe σ vs) H' fun σ2 H2 => wipe σ2 vs = wipe σ vs ∧ tt σ2 H2 fun t H3 =>
        if t = true then tk σ2 H3 fun y H4 => tv σ2 H4 fun z H5 => ∃ b kvs k, y = .ref b ∧ H5 b = some (.tup (k.map kV)) ∧ H5 D = some (.dT kvs) ∧ kvs.length < sizeLine ∧ Nx (upd H5 D (.dT (putK kvs k z))) else Nx H3) := by
  let inv : Nat → Hp → Prop := fun i H => Grows H0 H ∧ H D = some (.dT (laid p G F i))
  refine ⟨fun i m H => m = xs.length - i ∧ i ≤ xs.length ∧ inv i H, ⟨_, rfl, Nat.zero_le _, Grows.new hD, upd_same⟩, ?_⟩
  rintro i m H ⟨rfl, hi, pv⟩
  rcases Nat.lt_or_ge i xs.length with lt | ge
  · have ex : xs[i]? = some xs[i] := List.getElem?_eq_getElem lt
    refine .inr ⟨⟨xs, _, pv.1.seq hx, ex⟩, inv (i + 1), fun H' p' => ⟨xs.length - (i + 1), by omega, rfl, lt, p'⟩, fun v H' y => ?_⟩
    obtain ⟨rfl, y⟩ := y
    refine turn i v _ (fun y z H5 => ∃ b kvs k, y = .ref b ∧ H5 b = some (.tup (k.map kV)) ∧ H5 D = some (.dT kvs) ∧ kvs.length < sizeLine ∧ inv (i + 1) (upd H5 D (.dT (putK kvs k z)))) (inv (i + 1)) (y xs (pv.1.seq hx)) pv.1 (fun hp b H5 s5 hb => ⟨b, _, G i, rfl, hb, s5 _ _ pv.2, ?_, fun c o e => ?_, ?_⟩) fun hp H4 s4 => ⟨pv.1.trans s4, ?_⟩
    · exact Nat.lt_of_le_of_lt (laid_le _ G F i) (Nat.lt_of_lt_of_le lt (Nat.le_trans small (by decide)))
    · rw [upd_ne (ne_of_none e hD)]
      exact s5 _ _ (pv.1 _ _ e)
    · rw [upd_same]
      show _ = some (HO.dT (if p i = true then _ else _))
      rw [if_pos hp]
    · rw [s4 _ _ pv.2]
      show _ = some (HO.dT (if p i = true then _ else _))
      rw [if_neg (by rw [hp]; exact Bool.false_ne_true)]
  · have e : i = xs.length := by omega
    subst e
    exact .inl ⟨⟨xs, pv.1.seq hx, Nat.le_refl _⟩, done H pv.1 pv.2⟩
end
end LcM

/-! A comprehension that makes new lists of ints. -/
namespace LcM
open PySem PySem.Spec PyProof.Rows L2
/-- new lists of ints -/
structure Nw (H0 H : Hp) (cs : List (Addr × List Int)) : Prop where
  lists : ∀ c ∈ cs, H c.1 = some (.lst (c.2.map V.int))
  new : ∀ c ∈ cs, H0 c.1 = none
  nodup : (cs.map (·.1)).Nodup
theorem Nw.keep {H0 H H' : Hp} {cs : List (Addr × List Int)} (n : Nw H0 H cs) (s : Grows H H') : Nw H0 H' cs := ⟨fun c m => s _ _ (n.lists c m), n.new, n.nodup⟩
section
variable {K : PySem.W.Frag} {a : Addr} {xs : List V} {g : TG} {te : TE} {vs : List Nat} {σ : L2.St} {H0 : Hp} {D : Addr} {Qd : Hp → Prop}
theorem lc_listR (R : Nat → List Int) (hD : H0 D = none) (hx : SqL K H0 a xs) (small : xs.length ≤ 1000000)
    (turn : ∀ (i : Nat) (x : V) (H : Hp) (Rk : V → Hp → Prop), xs[i]? = some x → Grows H0 H → (∀ q H4, Grows H H4 → H q = none → H4 q = some (.lst ((R i).map V.int)) → Rk (.ref q) H4) → g x (wipe σ vs) H fun σ2 H2 => wipe σ2 vs = wipe σ vs ∧ te σ2 H2 Rk)
    (done : ∀ H cs, Grows H0 H → cs.map (·.2) = (List.range xs.length).map R → Nw H0 H cs → (∀ c ∈ cs, c.1 ≠ D) → H D = some (.lst (cs.map fun c => V.ref c.1)) → Qd H) :
    ∃ W : Nat → Nat → Hp → Prop, (∃ m, W 0 m (upd H0 D (.lst []))) ∧ ∀ i m H, W i m H →
      ((Itl K a).stop i H ∧ Qd H) ∨ ((Itl K a).go i H ∧ ∃ Nx : Hp → Prop, (∀ H', Nx H' → ∃ m', m' < m ∧ W (i + 1) m' H') ∧ ∀ x H', (Itl K a).yld i H x H' → g x (wipe σ vs) H' fun σ2 H2 => wipe σ2 vs = wipe σ vs ∧ tYes σ2 H2 fun b H3 =>
        if b = true then te σ2 H3 fun y H4 => ∃ acc, H4 D = some (.lst acc) ∧ acc.length < sizeLine ∧ Nx (upd H4 D (.lst (acc ++ [y]))) else Nx H3) := by
  refine lc_list (fun i H => ∃ cs : List (Addr × List Int), Grows H0 H ∧ cs.map (·.2) = (List.range i).map R ∧ Nw H0 H cs ∧ (∀ c ∈ cs, c.1 ≠ D) ∧ H D = some (.lst (cs.map fun c => V.ref c.1)))
    ⟨[], Grows.new hD, rfl, ⟨(fun _ m => nomatch m), (fun _ m => nomatch m), List.Pairwise.nil⟩, (fun _ m => nomatch m), upd_same⟩ (fun i H _ ⟨_, s, _⟩ => s.seq hx) (fun i x H ex ⟨cs, s, e, n, apart, top⟩ => ?_) fun H ⟨cs, s, e, n, apart, top⟩ => done H cs s e n apart top
  rw [yes_eq (A := fun σ2 => wipe σ2 vs = wipe σ vs)]
  refine turn i x H _ ex s fun q H4 s4 hq at_q => ?_
  have il := Nat.lt_of_lt_of_le (List.getElem?_eq_some_iff.mp ex).1 small
  have len : cs.length = i := by
    have := congrArg List.length e
    rw [List.length_map, List.length_map, List.length_range] at this
    exact this
  have qD : q ≠ D := fun z => by
    rw [z, top] at hq
    cases hq
  have all : Grows H0 (upd H4 D (.lst (cs.map (fun c => V.ref c.1) ++ [.ref q]))) := fun b o eb => by
    rw [upd_ne (ne_of_none eb hD)]
    exact s4 _ _ (s _ _ eb)
  have q0 : H0 q = none := by
    rcases Option.eq_none_or_eq_some (H0 q) with z | ⟨o, z⟩
    · exact z
    · have := s _ _ z
      rw [hq] at this
      cases this
  refine ⟨_, s4 _ _ top, ?_, cs ++ [(q, R i)], all, ?_, ⟨?_, ?_, ?_⟩, ?_, ?_⟩
  · rw [List.length_map, len]
    exact Nat.lt_trans il (by decide)
  · rw [List.map_append, e, List.range_succ, List.map_append]
    rfl
  · intro c m
    rcases List.mem_append.mp m with m | m
    · rw [upd_ne (apart c m)]
      exact s4 _ _ (n.lists c m)
    · rw [List.mem_singleton.mp m, upd_ne qD]
      exact at_q
  · intro c m
    rcases List.mem_append.mp m with m | m
    · exact n.new c m
    · rw [List.mem_singleton.mp m]
      exact q0
  · rw [List.map_append, List.nodup_append]
    refine ⟨n.nodup, List.nodup_cons.mpr ⟨(fun z => nomatch z), List.Pairwise.nil⟩, fun b mb d md => ?_⟩
    obtain ⟨c, mc, rfl⟩ := List.mem_map.mp mb
    have ed : d = q := by simpa using md
    rw [ed]
    intro z
    have := n.lists c mc
    rw [z, hq] at this
    cases this
  · intro c m
    rcases List.mem_append.mp m with m | m
    · exact apart c m
    · rw [List.mem_singleton.mp m]
      exact qD
  · rw [upd_same, List.map_append]
    rfl
end
end LcM

/-! Rules with their readings named by K, for use within comprehensions. -/
namespace LcM
open PySem PySem.Spec PyProof.Rows L2
def rLenS (K : PySem.W.Frag) : List V → Hp → VK → Prop := fun xs H Q => ∃ p ys, xs = [.ref p] ∧ (SqL K H p ys ∨ SqT K H p ys) ∧ Q (.int ys.length) H
def rLst (K : PySem.W.Frag) : List V → Hp → VK → Prop := fun xs H Q => ∃ p ys, xs = [.ref p] ∧ (SqL K H p ys ∨ SqT K H p ys) ∧ ∀ l, H l = none → Q (.ref l) (upd H l (.lst ys))
def rTup (K : PySem.W.Frag) : List V → Hp → VK → Prop := fun xs H Q => ∃ p ys, xs = [.ref p] ∧ SqL K H p ys ∧ ∀ t, H t = none → Q (.ref t) (upd H t (.tup ys))
section
variable {X : Cx}
theorem call_lenK : CallR X (.builtin "len") (rLenS X.K) := fun pins s σ H xs us Q I r ⟨p, ys, e, h, q⟩ => call_len_seq pins s σ H xs us Q I r ⟨p, ys, e, h, q⟩
theorem call_lstK : CallR X (.type "list") (rLst X.K) := fun pins s σ H xs us Q I r ⟨p, ys, e, h, q⟩ => call_list_of pins s σ H xs us Q I r ⟨p, ys, e, h, q⟩
theorem call_tupK : CallR X (.type "tuple") (rTup X.K) := fun pins s σ H xs us Q I r ⟨p, ys, e, h, q⟩ => call_tuple_of pins s σ H xs us Q I r ⟨p, ys, e, .inl ⟨h, q⟩⟩
end
end LcM

/-! What cut gives, on lists of lists of ints. -/
namespace LcM
open PySem PySem.Spec PyProof.Rows L2 SortR
/-- the last place of x among the first n -/
def plcN (ns : List Int) (x : Int) : Nat → Option Nat
  | 0 => none
  | n + 1 => if ns.getD n 0 = x then some n else plcN ns x n
def plc (ns : List Int) (x : Int) : Option Nat := plcN ns x ns.length
theorem valV_laid (ns : List Int) (x : Int) : ∀ n, valV (laid (fun _ => true) (fun i => (Sum.inl (ns.getD i 0) : L2.Key)) (fun i => V.int (i : Nat)) n) (Sum.inl x) = (plcN ns x n).map fun j => V.int (j : Nat)
  | 0 => rfl
  | n + 1 => by
    have ih := valV_laid ns x n
    unfold laid plcN
    rw [if_pos rfl, valV_put]
    by_cases e : ns.getD n 0 = x
    · rw [if_pos e, if_pos (by rw [e])]
      rfl
    · rw [if_neg e, if_neg (fun z => e (Sum.inl.inj z).symm)]
      exact ih
/-- a group's persons who stay, by their places -/
def meet (ns r : List Int) : List Int := ((List.range r.length).filter fun i => (plc ns (r.getD i 0)).isSome).map fun i => (((plc ns (r.getD i 0)).getD 0 : Nat) : Int)
def two (m : List Int) : Bool := decide (2 ≤ (m.length : Int))
/-- unlike rows, in the sequence in which they come first -/
def firsts (p : Nat → Bool) (M : Nat → List Int) : Nat → List (List Int)
  | 0 => []
  | n + 1 => if p n = true then (if M n ∈ firsts p M n then firsts p M n else firsts p M n ++ [M n]) else firsts p M n
theorem put_keys {κ : Type} [DecidableEq κ] (kvs : List (κ × V)) (k : κ) (v : V) : (putK kvs k v).map (·.1) = if k ∈ kvs.map (·.1) then kvs.map (·.1) else kvs.map (·.1) ++ [k] := by
  unfold putK
  by_cases h : (kvs.any fun kv => decide (kv.1 = k)) = true
  · rw [if_pos h]
    obtain ⟨kv, hm, e⟩ := List.any_eq_true.mp h
    rw [if_pos (List.mem_map.mpr ⟨kv, hm, of_decide_eq_true e⟩), List.map_map]
    refine List.map_congr_left fun q _ => ?_
    show (if q.1 = k then (q.1, v) else q).1 = q.1
    split <;> rfl
  · rw [if_neg h, if_neg fun z => ?_, List.map_append]
    · rfl
    · obtain ⟨kv, hm, e⟩ := List.mem_map.mp z
      exact h (List.any_eq_true.mpr ⟨kv, hm, decide_eq_true e⟩)
theorem inl_inj {m n : List Int} (h : (m.map Sum.inl : List L2.Key) = n.map Sum.inl) : m = n := by
  induction m generalizing n with
  | nil =>
    cases n with
    | nil => rfl
    | cons _ _ => cases h
  | cons x m ih =>
    cases n with
    | nil => cases h
    | cons y n =>
      rw [List.map_cons, List.map_cons] at h
      obtain ⟨h1, h2⟩ := List.cons.inj h
      rw [Sum.inl.inj h1, ih h2]
theorem keys_laid (p : Nat → Bool) (M : Nat → List Int) (F : Nat → V) : ∀ n, (laid p (fun i => ((M i).map Sum.inl : List L2.Key)) F n).map (·.1) = (firsts p M n).map fun m => m.map Sum.inl
  | 0 => rfl
  | n + 1 => by
    have ih := keys_laid p M F n
    unfold laid firsts
    by_cases h : p n = true
    · rw [if_pos h, if_pos h, put_keys, ih]
      by_cases m : M n ∈ firsts p M n
      · rw [if_pos m, if_pos (List.mem_map.mpr ⟨_, m, rfl⟩)]
      · rw [if_neg m, if_neg fun z => ?_, List.map_append]
        · rfl
        · obtain ⟨r, hr, e⟩ := List.mem_map.mp z
          rw [inl_inj e] at hr
          exact m hr
    · rw [if_neg h, if_neg h]
      exact ih
theorem firsts_of (p : Nat → Bool) (M : Nat → List Int) : ∀ n, ∀ r ∈ firsts p M n, ∃ i, i < n ∧ p i = true ∧ r = M i
  | 0, _, h => nomatch h
  | n + 1, r, h => by
    have ih := firsts_of p M n r
    unfold firsts at h
    have old : r ∈ firsts p M n → ∃ i, i < n + 1 ∧ p i = true ∧ r = M i := fun z => let ⟨i, a, b, c⟩ := ih z; ⟨i, Nat.lt_succ_of_lt a, b, c⟩
    by_cases hp : p n = true
    · rw [if_pos hp] at h
      split at h
      · exact old h
      · rcases List.mem_append.mp h with z | z
        · exact old z
        · exact ⟨n, Nat.lt_succ_self n, hp, List.mem_singleton.mp z⟩
    · rw [if_neg hp] at h
      exact old h
theorem firsts_le (p : Nat → Bool) (M : Nat → List Int) : ∀ n, (firsts p M n).length ≤ n
  | 0 => Nat.le_refl _
  | n + 1 => by
    have ih := firsts_le p M n
    unfold firsts
    split
    · split
      · omega
      · rw [List.length_append, List.length_singleton]
        omega
    · omega
def cutR (rs : List (List Int)) (ns : List Int) : List (List Int) := (firsts (fun i => two (meet ns (rs.getD i []))) (fun i => meet ns (rs.getD i [])) rs.length).mergeSort fun p q => decide (p ≤ q)
theorem sort_rows (as : List (Addr × List Int)) : (as.mergeSort rowLe).map (·.2) = (as.map (·.2)).mergeSort fun p q => decide (p ≤ q) := List.map_mergeSort fun _ _ _ _ => rfl
end LcM

/-! Lists of ints and lists of such, as data. -/
namespace LcM
open PySem PySem.Spec PyProof.Rows L2 SortR
theorem eqvAll_ints : ∀ ns ms : List Int, PyData.eqvAll (ns.map .int) (ms.map .int) = decide (ns = ms)
  | [], [] => by
    simp only [List.map_nil, PyData.eqvAll]
    exact (decide_eq_true (rfl : ([] : List Int) = [])).symm
  | x :: ns, y :: ms => by
    rw [List.map_cons, List.map_cons, PyData.eqvAll, eqvAll_ints ns ms, PyData.eqv]
    by_cases e : x = y
    · rw [e, beq_self_eq_true, Bool.true_and]
      by_cases e2 : ns = ms
      · rw [decide_eq_true e2, decide_eq_true (by rw [e2])]
      · rw [decide_eq_false e2, decide_eq_false fun z => e2 (List.cons.inj z).2]
    · rw [beq_eq_false_iff_ne.mpr e, Bool.false_and, decide_eq_false fun z => e (List.cons.inj z).1]
  | [], _ :: _ => by
    rw [List.map_nil, List.map_cons, PyData.eqvAll]
    exact (decide_eq_false fun z => nomatch z).symm
  | _ :: _, [] => by
    rw [List.map_nil, List.map_cons, PyData.eqvAll]
    exact (decide_eq_false fun z => nomatch z).symm
theorem eqv_ints (ns ms : List Int) : PyData.eqv (PyData.list (ns.map .int)) (PyData.list (ms.map .int)) = decide (ns = ms) := by
  rw [PyData.eqv]
  exact eqvAll_ints ns ms
theorem eqvAll_rows : ∀ rs qs : List (List Int), PyData.eqvAll (rs.map fun r => .list (r.map .int)) (qs.map fun r => .list (r.map .int)) = decide (rs = qs)
  | [], [] => by
    simp only [List.map_nil, PyData.eqvAll]
    exact (decide_eq_true (rfl : ([] : List (List Int)) = [])).symm
  | x :: ns, y :: ms => by
    rw [List.map_cons, List.map_cons, PyData.eqvAll, eqvAll_rows ns ms, eqv_ints]
    by_cases e : x = y
    · rw [decide_eq_true e, Bool.true_and]
      by_cases e2 : ns = ms
      · rw [decide_eq_true e2, decide_eq_true (by rw [e, e2])]
      · rw [decide_eq_false e2, decide_eq_false fun z => e2 (List.cons.inj z).2]
    · rw [decide_eq_false e, Bool.false_and, decide_eq_false fun z => e (List.cons.inj z).1]
  | [], _ :: _ => by
    rw [List.map_nil, List.map_cons, PyData.eqvAll]
    exact (decide_eq_false fun z => nomatch z).symm
  | _ :: _, [] => by
    rw [List.map_nil, List.map_cons, PyData.eqvAll]
    exact (decide_eq_false fun z => nomatch z).symm
theorem eqv_rows (rs qs : List (List Int)) : PyData.eqv (PyData.list (rs.map fun r => .list (r.map .int))) (PyData.list (qs.map fun r => .list (r.map .int))) = decide (rs = qs) := by
  rw [PyData.eqv]
  exact eqvAll_rows rs qs
theorem lay_ints : ∀ ns : List Int, PyData.canLayAll0 (ns.map .int) = true
  | [] => by simp only [List.map_nil, PyData.canLayAll0]
  | n :: ns => by simp only [List.map_cons, PyData.canLayAll0, PyData.canLay0, lay_ints ns, Bool.and_self]
theorem lay_rows : ∀ rs : List (List Int), PyData.canLayAll0 (rs.map fun r => .list (r.map .int)) = true
  | [] => by simp only [List.map_nil, PyData.canLayAll0]
  | r :: rs => by simp only [List.map_cons, PyData.canLayAll0, PyData.canLay0, lay_ints r, lay_rows rs, Bool.and_self]
theorem depth_rows : ∀ rs : List (List Int), PyData.depthAll (rs.map fun r => .list (r.map .int)) ≤ 1
  | [] => by simp only [List.map_nil, PyData.depthAll]; omega
  | r :: rs => by
    have := depth_rows rs
    simp only [List.map_cons, PyData.depthAll, PyData.depth, PySem.W.depth_ints]
    omega
theorem shaped_ints (ns : List Int) : SeqAt.shaped (PyData.list (ns.map .int)) = true := by
  unfold SeqAt.shaped
  simp only [PyData.canLay0, lay_ints, PyData.depth, PySem.W.depth_ints]
  decide
theorem shaped_rows (rs : List (List Int)) : SeqAt.shaped (PyData.list (rs.map fun r => .list (r.map .int))) = true := by
  have d := depth_rows rs
  have e : (PyData.list (rs.map fun r => .list (r.map .int))).depth ≤ 64 := by
    simp only [PyData.depth]
    omega
  unfold SeqAt.shaped
  rw [decide_eq_true e, Bool.and_true]
  simp only [PyData.canLay0, lay_rows]
/-- lists of lists as data -/
theorem rows_data {K : PySem.W.Frag} {H : Hp} : ∀ {bs : List (Addr × List Int)}, (∀ b ∈ bs, SqL K H b.1 (b.2.map V.int)) → DpAll K H (bs.map fun b => V.ref b.1) ((bs.map (·.2)).map fun r => .list (r.map .int))
  | [], _ => .nil
  | b :: bs, h => .cons (.lst (h b List.mem_cons_self) (rows_dp b.2)) (rows_data fun c m => h c (List.mem_cons_of_mem _ m))
end LcM

/-! sorted(xs), xs ints, THE sorted list. -/
namespace SortR
open PySem PySem.Spec PyProof.Rows L2 PySem.W
def intLe (p q : Int) : Bool := decide (p ≤ q)
theorem ints_each {h : Heap} : ∀ {ns : List Int} {us : List Value}, Vals (ns.map V.int) us → EachIs (fun v (n : Int) => ∃ t, v = Value.int n t) us ns
  | [], _, .nil => .nil
  | _ :: _, _, .cons h1 h2 => .cons h1 (ints_each (h := h) h2)
theorem each_ints : ∀ {us : List Value} {ns : List Int}, EachIs (fun v (n : Int) => ∃ t, v = Value.int n t) us ns → Vals (ns.map V.int) us
  | _, _, .nil => .nil
  | _, _, .cons h t => .cons h (each_ints t)
section
variable {X : Cx}
theorem call_sortedInts (hu : X.A.units + 64 < cLine) : CallR X (.builtin "sorted") (fun xs H Q => ∃ (a : Addr) (ns : List Int), xs = [V.ref a] ∧ SqL X.K H a (ns.map V.int) ∧ ∀ p, H p = none → Q (.ref p) (upd H p (.lst ((ns.mergeSort intLe).map V.int)))) := by
  intro pins s σ H xs us Q I r h
  obtain ⟨a, ns, rfl, hs, q⟩ := h
  obtain ⟨u, rfl, ru⟩ := vals1 r
  obtain rfl : u = Value.ref a := ru
  obtain ⟨its, rv, hl, hz⟩ := I.list hs
  have each := ints_each (h := s.heap) rv
  have len : its.length = ns.length := by rw [← rv.length, List.length_map]
  have reads : EachIs (fun v (n : Int) => ∃ as, Reads s.heap v (PyData.int n) as) its ns := each_mono each fun v n ⟨t, e⟩ => by
    rw [e]
    exact ⟨_, Reads.int n t⟩
  have le : dataLe false (fun n : Int => PyData.int n) = intLe := dataLe_int fun n : Int => n
  refine sorted_data (enc := fun n : Int => PyData.int n) hl.isList each reads (AllAlike.of fun p q => by simp only [alike]) (Sortable.others fun b => ⟨(fun z => nomatch z), fun xs z => nomatch z⟩) (by rw [List.length_map] at hz; exact hz) (fun b _ => by
    have d : (PyData.int b).depth = 0 := by simp only [PyData.depth]
    rw [d]
    omega) fun out ho each3 => ?_
  rw [le] at each3
  have back := each_ints each3
  obtain ⟨n, hn⟩ := sortedAll_at s.heap its out.toArray
  refine ⟨.ref (s.heap.objs.size + 1), upd H (s.heap.objs.size + 1) (.lst ((ns.mergeSort intLe).map V.int)), I.laid (t' := s.toks) (fun b o e => sortedAll_old e) (Nat.le_succ _) ⟨?_, out, n, back, hn⟩, rfl, q _ (I.hok.fresh (Nat.le_succ _))⟩
  rw [List.length_map, List.length_mergeSort]
  rw [List.length_map] at hz
  exact hz
end
end SortR

/-! Comprehensions over a tuple or a list, each turn's value by a relation that lasts. -/
namespace LcM
open PySem PySem.Spec PyProof.Rows L2
/-- so far -/
structure Mx (H0 : Hp) (D : Addr) (Rel : Nat → V → Hp → Prop) (i : Nat) (H : Hp) (ys : List V) : Prop where
  grow : Grows H0 H
  top : H D = some (.lst ys)
  len : ys.length = i
  rel : ∀ j y, ys[j]? = some y → Rel j y H
theorem Mx.more {H0 H H4 : Hp} {D : Addr} {Rel : Nat → V → Hp → Prop} {i : Nat} {ys : List V} {y : V} (last : ∀ j y H H', Grows H H' → Rel j y H → Rel j y H') (free : ∀ j y H zs, Rel j y H → H D = some (.lst zs) → ∀ u, Rel j y (upd H D u)) (hD : H0 D = none) (m : Mx H0 D Rel i H ys) (s : Grows H H4) (r : Rel i y H4) (small : i < 1000000) :
    ∃ acc, H4 D = some (.lst acc) ∧ acc.length < sizeLine ∧ ∃ ys', Mx H0 D Rel (i + 1) (upd H4 D (.lst (acc ++ [y]))) ys' := by
  have at_D := s _ _ m.top
  refine ⟨ys, at_D, ?_, ys ++ [y], fun b o e => ?_, upd_same, ?_, fun j z e => ?_⟩
  · rw [m.len]
    exact Nat.lt_trans small (by decide)
  · rw [upd_ne (ne_of_none e hD)]
    exact s _ _ (m.grow _ _ e)
  · rw [List.length_append, m.len]
    rfl
  · rcases Nat.lt_or_ge j ys.length with l | g
    · rw [List.getElem?_append_left l] at e
      exact free j z H4 _ (last j z H H4 s (m.rel j z e)) at_D _
    · rw [List.getElem?_append_right g] at e
      have zero : j - ys.length = 0 := by
        rcases Nat.eq_zero_or_pos (j - ys.length) with q | q
        · exact q
        · rw [List.getElem?_eq_none (by show 1 ≤ j - ys.length; omega)] at e
          cases e
      rw [zero] at e
      obtain rfl : y = z := Option.some.inj e
      obtain rfl : j = i := by rw [← m.len]; omega
      exact free j y H4 _ r at_D _
section
variable {K : PySem.W.Frag} {a : Addr} {xs : List V} {g : TG} {te : TE} {vs : List Nat} {σ : L2.St} {H0 : Hp} {D : Addr} {Qd : Hp → Prop}
theorem lc_tupX (Rel : Nat → V → Hp → Prop) (last : ∀ j y H H', Grows H H' → Rel j y H → Rel j y H') (free : ∀ j y H zs, Rel j y H → H D = some (.lst zs) → ∀ u, Rel j y (upd H D u)) (hD : H0 D = none) (hx : SqT K H0 a xs) (small : xs.length ≤ 1000000)
    (turn : ∀ (i : Nat) (x : V) (H : Hp) (Rk : V → Hp → Prop), xs[i]? = some x → Grows H0 H → H D ≠ none → (∀ y H4, Grows H H4 → Rel i y H4 → Rk y H4) → g x (wipe σ vs) H fun σ2 H2 => wipe σ2 vs = wipe σ vs ∧ te σ2 H2 Rk)
    (done : ∀ H ys, Mx H0 D Rel xs.length H ys → Qd H) :
    ∃ W : Nat → Nat → Hp → Prop, (∃ m, W 0 m (upd H0 D (.lst []))) ∧ ∀ i m H, W i m H →
      ((Itt K a).stop i H ∧ Qd H) ∨ ((Itt K a).go i H ∧ ∃ Nx : Hp → Prop, (∀ H', Nx H' → ∃ m', m' < m ∧ W (i + 1) m' H') ∧ ∀ x H', (Itt K a).yld i H x H' → g x (wipe σ vs) H' fun σ2 H2 => wipe σ2 vs = wipe σ vs ∧ tYes σ2 H2 fun b H3 =>
        if b = true then te σ2 H3 fun y H4 => ∃ acc, H4 D = some (.lst acc) ∧ acc.length < sizeLine ∧ Nx (upd H4 D (.lst (acc ++ [y]))) else Nx H3) := by
  refine lc_tup (fun i H => ∃ ys, Mx H0 D Rel i H ys) ⟨[], Grows.new hD, upd_same, rfl, fun j y e => by rw [List.getElem?_nil] at e; cases e⟩ (fun i H _ ⟨_, m⟩ => m.grow.tup hx) (fun i x H ex ⟨ys, m⟩ => ?_) fun H ⟨ys, m⟩ => done H ys m
  rw [yes_eq (A := fun σ2 => wipe σ2 vs = wipe σ vs)]
  exact turn i x H _ ex m.grow (by rw [m.top]; exact fun z => nomatch z) fun y H4 s r => m.more last free hD s r (Nat.lt_of_lt_of_le (List.getElem?_eq_some_iff.mp ex).1 small)
theorem lc_listX (Rel : Nat → V → Hp → Prop) (last : ∀ j y H H', Grows H H' → Rel j y H → Rel j y H') (free : ∀ j y H zs, Rel j y H → H D = some (.lst zs) → ∀ u, Rel j y (upd H D u)) (hD : H0 D = none) (hx : SqL K H0 a xs) (small : xs.length ≤ 1000000)
    (turn : ∀ (i : Nat) (x : V) (H : Hp) (Rk : V → Hp → Prop), xs[i]? = some x → Grows H0 H → H D ≠ none → (∀ y H4, Grows H H4 → Rel i y H4 → Rk y H4) → g x (wipe σ vs) H fun σ2 H2 => wipe σ2 vs = wipe σ vs ∧ te σ2 H2 Rk)
    (done : ∀ H ys, Mx H0 D Rel xs.length H ys → Qd H) :
    ∃ W : Nat → Nat → Hp → Prop, (∃ m, W 0 m (upd H0 D (.lst []))) ∧ ∀ i m H, W i m H →
      ((Itl K a).stop i H ∧ Qd H) ∨ ((Itl K a).go i H ∧ ∃ Nx : Hp → Prop, (∀ H', Nx H' → ∃ m', m' < m ∧ W (i + 1) m' H') ∧ ∀ x H', (Itl K a).yld i H x H' → g x (wipe σ vs) H' fun σ2 H2 => wipe σ2 vs = wipe σ vs ∧ tYes σ2 H2 fun b H3 =>
        if b = true then te σ2 H3 fun y H4 => ∃ acc, H4 D = some (.lst acc) ∧ acc.length < sizeLine ∧ Nx (upd H4 D (.lst (acc ++ [y]))) else Nx H3) := by
  refine lc_list (fun i H => ∃ ys, Mx H0 D Rel i H ys) ⟨[], Grows.new hD, upd_same, rfl, fun j y e => by rw [List.getElem?_nil] at e; cases e⟩ (fun i H _ ⟨_, m⟩ => m.grow.seq hx) (fun i x H ex ⟨ys, m⟩ => ?_) fun H ⟨ys, m⟩ => done H ys m
  rw [yes_eq (A := fun σ2 => wipe σ2 vs = wipe σ vs)]
  exact turn i x H _ ex m.grow (by rw [m.top]; exact fun z => nomatch z) fun y H4 s r => m.more last free hD s r (Nat.lt_of_lt_of_le (List.getElem?_eq_some_iff.mp ex).1 small)
/-- a loop over enumerate of a list that stands still -/
theorem for_enumL {tb : TS} {Dn : Ends} (Pv : Nat → L2.St → Hp → Prop) (h0 : Pv 0 σ H0) (hl : ∀ i σ H, Pv i σ H → SqL K H a xs)
    (hs : ∀ (i : Nat) (x : V) (T : Addr) (σ : L2.St) (H : Hp), xs[i]? = some x → Pv i σ H → H T = none → g (.ref T) σ (upd H T (.tup [.int (i : Nat), x])) fun σ2 H2 => tb { Dn with nx := Pv (i + 1), ct := Pv (i + 1), bk := Dn.nx } σ2 H2) (hd : ∀ σ H, Pv xs.length σ H → Dn.nx σ H) :
    ∃ W : Nat → Nat → L2.St → Hp → Prop, (∃ m, W 0 m σ H0) ∧ ∀ i m σ H, W i m σ H →
      ((Ite K a).stop i H ∧ Dn.nx σ H) ∨ ((Ite K a).go i H ∧ ∃ N : L2.St → Hp → Prop, (∀ σ' H', N σ' H' → ∃ m', m' < m ∧ W (i + 1) m' σ' H') ∧ ∀ v H', (Ite K a).yld i H v H' → g v σ H' fun σ2 H2 => tb { Dn with nx := N, ct := N, bk := Dn.nx } σ2 H2) := by
  refine ⟨fun i m σ H => m = xs.length - i ∧ i ≤ xs.length ∧ Pv i σ H, ⟨_, rfl, Nat.zero_le _, h0⟩, ?_⟩
  rintro i m σ H ⟨rfl, hi, pv⟩
  have qx := hl i σ H pv
  rcases Nat.lt_or_ge i xs.length with lt | ge
  · have ex : xs[i]? = some xs[i] := List.getElem?_eq_getElem lt
    refine .inr ⟨⟨xs, _, qx, ex⟩, Pv (i + 1), fun σ' H' p' => ⟨xs.length - (i + 1), by omega, rfl, lt, p'⟩, fun v H' y => ?_⟩
    obtain ⟨T, x', rfl, hT, rfl, f1⟩ := y
    exact hs i x' T σ H (f1 xs qx) pv hT
  · have e : i = xs.length := by omega
    subst e
    exact .inl ⟨⟨xs, qx, Nat.le_refl _⟩, hd σ H pv⟩
end
end LcM

/-! f(k = v, ..): a def called by keywords alone. -/
namespace LcM
open PySem PySem.Spec PyProof.Rows L2
section
variable {X : Cx} {CX : CXT} {k : Nat} {f : Addr} {fd : FuncData} {ps ks : List Str} {sp : Sp} {E : XK} {x : Str} {p pos : Pos} {kws : List Keyword} {tk : TA} {g : List Value → List Value → List Value} {gV : List V → List V → List V}
theorem pe_callKw (F : FnOk X.prog X.w X.K X.mg X.base CX k f fd ps sp) (room : Room k X.A) (hg : Gl X x) (hm : X.mg x = some (.ref f)) (kp : PySem.W.keepIn X.K (.ref f) = true) (bd : KBinds X.K fd ps ks g gV) (ps' : Passes CX X E) (args : PK X kws tk)
    (all : (backToKw pos (keywordEach kws X.env)).all (·.1.isSome) = true := by rfl) (names : (backToKw pos (keywordEach kws X.env)).filterMap (·.1) = ks := by rfl) (hdb : (x == ("__debug__" : Str)) = false := by decide)
    (plain : ((backTo pos (starEach [] X.env)).any (·.1) || (backToKw pos (keywordEach kws X.env)).any (·.1.isNone)) = false := by rfl) :
    PE X (.Call (.Name x p) [] kws pos) (tCallK sp gV E tNil tk) := by
  refine ⟨fun pins s σ H Q I rd => ?_⟩
  refine wpAny_Call_Name_kw (ld_glob I hg hm ?_ hdb)
  refine PySem.W.callWith_KW0 (h₀ := X.base) I.ok.mod.kin kp all (thn (args.run pos pins s σ H _ I rd) fun ws s2 ⟨zs, H2, I2, rz, q2⟩ => ⟨I2.kIn, ?_⟩) plain
  rw [names]
  exact run_fnk (us := []) (vs := []) F room bd ps' I2 .nil rz q2
end
end LcM

/-! Masks of ascending lists, bit by bit. -/
namespace LcM
open PySem
def mk (ns : List Nat) : Nat := (ns.map (2 ^ ·)).sum
theorem mk_cons (x : Nat) (xs : List Nat) : mk (x :: xs) = 2 ^ x + mk xs := by
  unfold mk
  rw [List.map_cons, List.sum_cons]
theorem mk_dvd (y : Nat) : ∀ xs : List Nat, (∀ z ∈ xs, y ≤ z) → 2 ^ y ∣ mk xs
  | [], _ => ⟨0, rfl⟩
  | x :: xs, h => by
    rw [mk_cons]
    exact Nat.dvd_add (Nat.pow_dvd_pow 2 (h x List.mem_cons_self)) (mk_dvd y xs fun z hz => h z (List.mem_cons_of_mem _ hz))
theorem mk_bit : ∀ (xs : List Nat) (i : Nat), xs.Pairwise (· < ·) → (mk xs).testBit i = decide (i ∈ xs)
  | [], i, _ => by
    show Nat.testBit 0 i = _
    rw [Nat.zero_testBit]
    rfl
  | x :: xs, i, h => by
    obtain ⟨h1, h2⟩ := List.pairwise_cons.mp h
    have ih := mk_bit xs i h2
    obtain ⟨k, hk⟩ := mk_dvd (x + 1) xs fun z hz => h1 z hz
    rw [mk_cons, Nat.add_comm, hk, Nat.testBit_two_pow_mul_add k (Nat.pow_lt_pow_right (by decide) (Nat.lt_succ_self x))]
    rw [hk] at ih
    by_cases l : i < x + 1
    · rw [if_pos l, Nat.testBit_two_pow]
      have no : i ∉ xs := fun z => by
        have := h1 i z
        omega
      by_cases e : x = i
      · rw [decide_eq_true e, e, decide_eq_true List.mem_cons_self]
      · rw [decide_eq_false e, decide_eq_false fun z => (List.mem_cons.mp z).elim (fun q => e q.symm) no]
    · rw [if_neg l]
      have z := Nat.testBit_two_pow_mul_add k (b := 0) (i := x + 1) (Nat.two_pow_pos _) i
      rw [if_neg l, Nat.add_zero] at z
      rw [← z, ih]
      have ne : i ≠ x := by omega
      by_cases m : i ∈ xs
      · rw [decide_eq_true m, decide_eq_true (List.mem_cons_of_mem _ m)]
      · rw [decide_eq_false m, decide_eq_false fun q => (List.mem_cons.mp q).elim ne m]
/-- masks of lists that do not cross -/
theorem mk_and {xs ys : List Nat} (hx : xs.Pairwise (· < ·)) (hy : ys.Pairwise (· < ·)) (h : (∀ z ∈ xs, z ∉ ys) ∨ (∀ z ∈ xs, z ∈ ys) ∨ ∀ z ∈ ys, z ∈ xs) : mk xs &&& mk ys = 0 ∨ mk xs &&& mk ys = mk xs ∨ mk xs &&& mk ys = mk ys := by
  have bit : ∀ i, (mk xs &&& mk ys).testBit i = (decide (i ∈ xs) && decide (i ∈ ys)) := fun i => by rw [Nat.testBit_and, mk_bit xs i hx, mk_bit ys i hy]
  rcases h with h | h | h
  · refine .inl (Nat.eq_of_testBit_eq fun i => ?_)
    rw [bit, Nat.zero_testBit]
    by_cases m : i ∈ xs
    · rw [decide_eq_false (h i m), Bool.and_false]
    · rw [decide_eq_false m, Bool.false_and]
  · refine .inr (.inl (Nat.eq_of_testBit_eq fun i => ?_))
    rw [bit, mk_bit xs i hx]
    by_cases m : i ∈ xs
    · rw [decide_eq_true m, decide_eq_true (h i m)]
      rfl
    · rw [decide_eq_false m, Bool.false_and]
  · refine .inr (.inr (Nat.eq_of_testBit_eq fun i => ?_))
    rw [bit, mk_bit ys i hy]
    by_cases m : i ∈ ys
    · rw [decide_eq_true m, decide_eq_true (h i m)]
      rfl
    · rw [decide_eq_false m, Bool.and_false]
end LcM

/-! Data whose text is short. -/
namespace LcM
open PySem PySem.Spec PyProof.Rows L2
structure Brief (n : Nat) (d : PyData) : Prop where
  sh : d.showable = true
  dp : d.depth ≤ 10
  lv : PyData.leavesShort 13 d = true
  wt : d.weight ≤ n
def Smalls (ns : List Int) : Prop := ∀ x ∈ ns, x.natAbs < 10 ^ 12
theorem small_bits {n : Int} (h : n.natAbs < 10 ^ 12) : n.natAbs.log2 < 40 := by
  by_cases z : n.natAbs = 0
  · rw [z]
    decide
  · exact (Nat.log2_lt z).mpr (Nat.lt_trans h (by decide))
theorem show_ints : ∀ ns : List Int, Smalls ns → PyData.showableAll (ns.map .int) = true
  | [], _ => by simp only [List.map_nil, PyData.showableAll]
  | n :: ns, h => by
    have b := small_bits (h n List.mem_cons_self)
    simp only [List.map_cons, PyData.showableAll, PyData.showable, show_ints ns fun x m => h x (List.mem_cons_of_mem _ m), Bool.and_true]
    exact decide_eq_true (by omega)
theorem weight_ints : ∀ ns : List Int, Smalls ns → PyData.weightAll (ns.map .int) ≤ ns.length * 42
  | [], _ => by simp only [List.map_nil, PyData.weightAll]; exact Nat.zero_le _
  | n :: ns, h => by
    have b := small_bits (h n List.mem_cons_self)
    have ih := weight_ints ns fun x m => h x (List.mem_cons_of_mem _ m)
    simp only [List.map_cons, PyData.weightAll, PyData.weight, List.length_cons]
    split <;> omega
theorem brief_ints {ns : List Int} (h : Smalls ns) : Brief (ns.length * 42) (PyData.list (ns.map .int)) := by
  refine ⟨?_, ?_, ?_, ?_⟩
  · simp only [PyData.showable, show_ints ns h]
  · simp only [PyData.depth, PySem.W.depth_ints]
    decide
  · refine PyData.leavesShort_of_canLay0 13 _ ?_ ?_
    · simp only [PyData.canLay0, lay_ints]
    · simp only [PyData.intsShort]
      exact PyData.intsShortAll_ints ns h
  · simp only [PyData.weight]
    exact weight_ints ns h
def rowD (rs : List (List Int)) : List PyData := rs.map fun r => .list (r.map .int)
theorem show_rows : ∀ rs : List (List Int), (∀ r ∈ rs, Smalls r) → PyData.showableAll (rowD rs) = true
  | [], _ => by simp only [rowD, List.map_nil, PyData.showableAll]
  | r :: rs, h => by
    have ih := show_rows rs fun q m => h q (List.mem_cons_of_mem _ m)
    unfold rowD at ih ⊢
    simp only [List.map_cons, PyData.showableAll, PyData.showable, show_ints r (h r List.mem_cons_self), ih, Bool.and_self]
theorem short_rows : ∀ rs : List (List Int), (∀ r ∈ rs, Smalls r) → PyData.intsShortAll 13 (rowD rs) = true
  | [], _ => by simp only [rowD, List.map_nil, PyData.intsShortAll]
  | r :: rs, h => by
    have ih := short_rows rs fun q m => h q (List.mem_cons_of_mem _ m)
    unfold rowD at ih ⊢
    simp only [List.map_cons, PyData.intsShortAll, PyData.intsShort, ih, PyData.intsShortAll_ints r (h r List.mem_cons_self), Bool.and_self]
theorem weight_rows {m : Nat} : ∀ rs : List (List Int), (∀ r ∈ rs, Smalls r ∧ r.length ≤ m) → PyData.weightAll (rowD rs) ≤ rs.length * (m * 42 + 1)
  | [], _ => by simp only [rowD, List.map_nil, PyData.weightAll]; exact Nat.zero_le _
  | r :: rs, h => by
    have ih := weight_rows rs fun q m => h q (List.mem_cons_of_mem _ m)
    have l := (h r List.mem_cons_self).2
    have w := weight_ints r (h r List.mem_cons_self).1
    unfold rowD at ih ⊢
    simp only [List.map_cons, PyData.weightAll, PyData.weight, List.length_cons]
    rw [Nat.add_mul]
    omega
theorem brief_rows {rs : List (List Int)} {m : Nat} (h : ∀ r ∈ rs, Smalls r ∧ r.length ≤ m) : Brief (rs.length * (m * 42 + 1)) (PyData.list (rowD rs)) := by
  refine ⟨?_, ?_, ?_, ?_⟩
  · simp only [PyData.showable, show_rows rs fun r m => (h r m).1]
  · have := depth_rows rs
    unfold rowD
    simp only [PyData.depth]
    omega
  · refine PyData.leavesShort_of_canLay0 13 _ ?_ ?_
    · have := lay_rows rs
      unfold rowD
      simp only [PyData.canLay0, this]
    · simp only [PyData.intsShort]
      exact short_rows rs fun r m => (h r m).1
  · simp only [PyData.weight]
    exact weight_rows rs h
theorem brief_two {a b : PyData} {m n : Nat} (x : Brief m a) (y : Brief n b) (l : m + n ≤ 100000) :
    PyData.showableAll [a, b] = true ∧ PyData.depthAll [a, b] ≤ 40 ∧ (listText (PyData.shownAll [a, b])).length ≤ sizeLine := by
  refine ⟨?_, ?_, ?_⟩
  · simp only [PyData.showableAll, x.sh, y.sh, Bool.and_self]
  · have := x.dp
    have := y.dp
    simp only [PyData.depthAll]
    omega
  · have e : (PyData.list [a, b]).shown = listText (PyData.shownAll [a, b]) := by simp only [PyData.shown]
    rw [← e]
    refine PyData.shown_fits (B := 13) (by decide) (by decide) ?_ ?_
    · simp only [PyData.leavesShort, PyData.leavesShortAll, x.lv, y.lv, Bool.and_self]
    · have := x.wt
      have := y.wt
      simp only [PyData.weight, PyData.weightAll]
      omega
end LcM

/-! min(list of lists of ints, key=len). -/
namespace LcM
open PySem PySem.Spec PyProof PyProof.Rows L2 SortR
def lenAt (bs : List (Addr × List Int)) (i : Nat) : Int := ((bs.getD i (0, [])).2.length : Nat)
def firstMin (bs : List (Addr × List Int)) (i : Nat) : Prop := ∀ j, j < bs.length → lenAt bs i ≤ lenAt bs j ∧ (j < i → lenAt bs i < lenAt bs j)
def rMinLen (K : PySem.W.Frag) (Q : VK) : List V → Hp → Prop := fun vs H1 => ∃ (a : Addr) (bs : List (Addr × List Int)), vs = [.ref a] ∧ SqL K H1 a (bs.map fun b => V.ref b.1) ∧ (∀ b ∈ bs, SqL K H1 b.1 (b.2.map V.int)) ∧ bs ≠ [] ∧
  ∀ i, i < bs.length → firstMin bs i → Q (.ref (bs.getD i (0, [])).1) H1
def tMinLen (K : PySem.W.Frag) (te : TE) : TE := fun σ H Q => tCons te tNil σ H (rMinLen K Q)
section
variable {X : Cx} {e : Expr} {te : TE} {p p2 pos kp : Pos}
theorem ns_one {h : Heap} {a : Addr} {m m' : Str → Option Value} (x : h.Ns a m) (y : h.Ns a m') : m = m' := x.eq_nsMap.trans y.eq_nsMap.symm
/-- what only lets the names stand elsewhere changes nothing -/
theorem inv_fr {pins : List (Addr × Obj)} {σ : L2.St} {H : Hp} {s : Shared} {h' : Heap} {tk : Nat} {m : Str → Option Value} (I : Inv X pins σ H s) (n0 : s.heap.Ns X.env.locals m) (n1 : h'.Ns X.env.locals m) (keep : ∀ b o, b ≠ X.env.locals → s.heap.get? b = some o → h'.get? b = some o) :
    Inv X pins σ H { s with heap := h', toks := tk } := by
  refine I.step (ch := []) (fun b hb => nomatch hb) (fun b o nl _ _ q _ => keep b o nl q) (fun b o nl _ _ q _ => ⟨o.slots, keep b o nl q⟩) (fun b o _ _ z => z) (fun b o _ q => ?_) (fun _ _ z => z) (fun _ _ _ z => z) (fun _ ps z => ⟨#[], by rw [Array.append_empty]; exact z⟩) (fun m' z => ns_one n0 z ▸ n1) ?_ I.bare
  · by_cases el : b = X.env.locals
    · obtain ⟨o', _, _, q', _⟩ := n1
      exact ⟨o', el ▸ q'⟩
    · exact ⟨o, keep b o el q⟩
  · intro a o h
    refine (I.hok a o h).stay (fun b u hb q => keep b u (fun z => ?_) q) (fun _ z => z) (fun _ _ z => z)
    have f := I.free
    rw [← z] at f
    rcases hb with hb | hb
    · rw [hb, h] at f
      cases f
    · rw [hb] at f
      cases f
theorem pe_minLen (calm : X.calm = true) (hg : Gl X "min") (hm : X.mg "min" = none) (hl : Gl X "len") (ml : X.mg "len" = none) (he : PE X e te)
    (h1 : starEach [e] X.env = (false, eval e X.env) :: starEach [] X.env := by rfl) (h2 : backTo pos (starEach [e] X.env) = (false, eval e X.env) :: backTo pos (starEach [] X.env) := by rfl) (h3 : ((backTo pos (starEach [e] X.env)).any fun x => x.1) = false := by rfl) : PE X (.Call (.Name "min" p) [e] [⟨some "key", .Name "len" p2, kp⟩] pos) (tMinLen X.K te) := by
  refine ⟨fun pins s σ H Q I rd => ?_⟩
  refine wpAny_Call_Name_kw (ld_blt (u := Value.builtin "min") I hg hm (by decide +kernel) ?_)
  refine Rows.callWith_kw (thn ((pa_cons he pa_nil (hs := h1)).run pos pins s σ H (rMinLen X.K Q) I rd) fun us s1 ⟨vs, H1, I1, rv, q⟩ => ?_) h2 h3
  obtain ⟨a, bs, rfl, hA, hB, hne, k⟩ := q
  obtain ⟨u, rfl, ru⟩ := vals1 rv
  obtain rfl : u = Value.ref a := ru
  refine Rows.evalAll_cons (wpAny_bind (ld_blt (u := Value.builtin "len") I1 hl ml (by decide +kernel) (wpAny_bind (wpAny_standAt (wpAny_pure (Rows.evalAll_nil ?_))))))
  obtain ⟨its, rvs, pl, hz⟩ := I1.list hA
  obtain ⟨m, ns, look⟩ := I1.loc
  obtain ⟨m', fr'⟩ := I1.fr
  have fr : Rows.Fr X.base X.env.locals s1.heap m := ⟨ns, fr'.keep, fr'.above⟩
  have kept : ∀ h, Rows.Fr X.base X.env.locals h m → Rows.News X.base X.env.locals h (allNews X.base s1.heap X.env.locals) → ∀ b o, b ≠ X.env.locals → s1.heap.get? b = some o → h.get? b = some o := fun h f n b o nl q => by
    rcases Option.eq_none_or_eq_some (X.base.get? b) with z | ⟨o', z⟩
    · exact (n (b, o) (mem_allNews nl z q)).1
    · have := fr.keep b o' z
      rw [q] at this
      cases this
      exact f.keep b o z
  have apart : ∀ {b : Addr} {xs : Array Value}, PlainL s1.heap b xs → b ≠ X.env.locals := fun {b xs} hb z => by
    obtain ⟨o, n, g, _, _, d⟩ := hb
    obtain ⟨o', es, ep, g', d', _⟩ := ns
    rw [z, g'] at g
    cases g
    rw [d'] at d
    cases d
  have len : its.length = bs.length := by
    rw [← rvs.length, List.length_map]
  have get : ∀ {i : Nat} {v : Value}, its[i]? = some v → i < bs.length ∧ v = Value.ref (bs.getD i (0, [])).1 := fun {i v} hv => by
    have il : i < bs.length := by
      rw [← len]
      exact (List.getElem?_eq_some_iff.mp hv).1
    refine ⟨il, ?_⟩
    have e1 : (bs.map fun b => V.ref b.1)[i]? = some (V.ref (bs.getD i (0, [])).1) := by
      rw [List.getElem?_map, List.getElem?_eq_getElem il, List.getD_eq_getElem?_getD, List.getElem?_eq_getElem il]
      rfl
    obtain ⟨u, hu, ru⟩ := rvs.get e1
    rw [hv] at hu
    cases hu
    exact ru
  refine Rows.kmb_min (kid := "len") (news := allNews X.base s1.heap X.env.locals) (vs := its) (lenAt bs) (I1.ok.hd calm) fr news_all (fun h f n => (pl.at fun o q => kept h f n a o (apart pl) q).isList) ?_ (fun i v hv h tk own f n => ?_) fun i v h' tk' hv hmin f n => ?_
  · rw [len]
    rcases Nat.eq_zero_or_pos bs.length with z | z
    · exact absurd (List.length_eq_zero_iff.mp z) hne
    · exact z
  · obtain ⟨il, rfl⟩ := get hv
    have n' : Rows.News X.base X.env.locals h (allNews X.base s1.heap X.env.locals) := fun p hp => n p (List.mem_append_left _ hp)
    have mem : bs.getD i (0, []) ∈ bs := by
      rw [List.getD_eq_getElem?_getD, List.getElem?_eq_getElem il]
      exact List.getElem_mem il
    obtain ⟨rs, rvr, plr, hzr⟩ := I1.list (hB _ mem)
    have lenr : rs.length = (bs.getD i (0, [])).2.length := by rw [← rvr.length, List.length_map]
    refine Calls.call_len_list ((plr.at fun o q => kept h f n' _ o (apart plr) q).isList) ?_ ⟨h, _, tk + 1, rfl, ?_, f, n⟩
    · rw [List.size_toArray, lenr]
      rw [List.length_map] at hzr
      have : sizeLine < 2 ^ 63 := by decide
      omega
    · unfold lenAt
      rw [List.size_toArray, lenr]
  · obtain ⟨il, rfl⟩ := get hv
    refine ⟨V.ref (bs.getD i (0, [])).1, H1, inv_fr I1 ns f.ns (kept h' f n), rfl, k i il fun j jl => ?_⟩
    exact hmin j (by rw [len]; exact jl)
end
end LcM

/-! for i, x in enumerate(list, start=k). -/
namespace LcM
open PySem PySem.Spec PyProof PyProof.Rows L2
def ItS (K : PySem.W.Frag) (a : Addr) (k : Int) : It where
  go := fun i H => ∃ xs x, SqL K H a xs ∧ xs[i]? = some x
  yld := fun i H v H' => ∃ T x, v = .ref T ∧ H T = none ∧ H' = upd H T (.tup [.int (k + (i : Nat)), x]) ∧ ∀ xs, SqL K H a xs → xs[i]? = some x
  stop := fun i H => ∃ xs, SqL K H a xs ∧ xs.length = i
theorem turn_enumS {P : Program} {w : World} {K : PySem.W.Frag} {elts : List Expr} {kk : Nat} {tpos : Pos} (a e it : Addr) (k : Int) :
    Turn P w K (.Tuple elts kk tpos) (ItS K a k) [e, it] e (fun i h => (∃ old, IsEnum h e it (k + (i : Nat)) old) ∧ h.IsListIter it a i ∧ e ≠ it) where
  mem := by simp
  obj := fun t h st b hb => by
    obtain ⟨⟨old, ie⟩, ⟨o, ho, _, hd⟩, _⟩ := st
    have q : b = e ∨ b = it := by simpa using hb
    rcases q with q | q
    · rw [q]
      exact ⟨_, ie, fun v z => nomatch z⟩
    · rw [q]
      exact ⟨o, ho, fun v z => by rw [hd] at z; cases z⟩
  keep := fun t h h' st kp => by
    obtain ⟨⟨old, ie⟩, ⟨o, ho, hc, hd⟩, ne⟩ := st
    exact ⟨⟨old, kp e (by simp) _ ie⟩, ⟨o, kp it (by simp) _ ho, hc, hd⟩, ne⟩
  item := by
    intro X hP hw hK hc i pins s σ H E I hf st hg
    subst hP hw hK
    obtain ⟨⟨old, ie⟩, li, ne⟩ := st
    obtain ⟨xs, x, hS, hx⟩ := hg
    obtain ⟨its, rv, pl, hz⟩ := I.list hS
    have hli := li
    obtain ⟨oi, hoi, hci, hdi⟩ := hli
    have ha_e : a ≠ e := fun z => by
      obtain ⟨o, ho, hcl, _⟩ := pl.isList
      rw [z, ie] at ho
      cases ho
      exact absurd (Value.type.inj hcl) (by decide)
    have ha_it : a ≠ it := fun z => by
      obtain ⟨o, ho, hcl, _⟩ := pl.isList
      rw [z, hoi] at ho
      cases ho
      rw [hci] at hcl
      exact absurd (Value.type.inj hcl) (by decide)
    have il : i < its.toArray.size := by
      rw [List.size_toArray, ← rv.length]
      exact (List.getElem?_eq_some_iff.mp hx).1
    obtain ⟨u, hu, ru⟩ := rv.get hx
    have W := WalksT.enumFrom (prog := X.prog) (w := X.w) (A := X.A) k (Draws.list (A := X.A.in1) (by exact I.ok.hd hc) it a ha_it its.toArray) e ne (fun z => by simp at z; exact z.elim ne ha_e.symm) (List.mem_cons_self)
    refine W.item i s _ E il ⟨⟨old, ie⟩, li, pl.isList⟩ fun T vals h' tk pt big isT mid keep => ⟨.ref T, rfl, W.go elts kk tpos i T { s with heap := h', toks := tk } _ E mid fun h2 st2 keep2 => ?_⟩
    obtain ⟨t, y, py, rfl⟩ := pt
    have ey : y = u := by
      have q : its.toArray[i]? = some y := py
      rw [List.getElem?_toArray, hu] at q
      cases q
      rfl
    subst ey
    have nT := W.apart i T h' mid
    obtain ⟨oT, gT, cT, n, dT⟩ := isT
    have gT2 := keep2 T oT nT gT
    have obj : ObjOk X.prog X.w (upd H T (.tup [.int (k + (i : Nat)), x])) h2 T (.tup [.int (k + (i : Nat)), x]) :=
      ⟨by show 2 ≤ sizeLine; decide, [_, y], .cons ⟨t, rfl⟩ (.cons ru .nil), ⟨oT, gT2, cT, n, dT⟩⟩
    have I1 : Inv X pins σ (upd H T (.tup [.int (k + (i : Nat)), x])) { s with heap := h2, toks := tk } :=
      I.turnedNew (t' := tk) (ch := [e, it]) (fun c o hb q => keep2 c o hb (keep c o hb q)) hf big obj
    refine ⟨.ref T, _, I1, rfl, ⟨T, x, rfl, I.hok.fresh big, rfl, fun xs' h' => ?_⟩, ⟨?_, st2.2.1, ne⟩, fun b hb => ?_⟩
    · rw [I.list_inj h' hS]
      exact hx
    · obtain ⟨⟨old', ie'⟩, _⟩ := st2
      exact ⟨old', ie'⟩
    · have low : b < s.heap.objs.size := by
        have q : b = e ∨ b = it := by simpa using hb
        rcases q with q | q
        · rw [q]; exact Heap.lt_size ie
        · rw [q]; exact Heap.lt_size hoi
      rw [upd_ne (Nat.ne_of_lt (Nat.lt_of_lt_of_le low big))]
      exact (hf b hb).1
  done := by
    intro X hP hw hK hc i pins s σ H E I hf st hg
    subst hP hw hK
    obtain ⟨⟨old, ie⟩, li, ne⟩ := st
    obtain ⟨xs, hS, rfl⟩ := hg
    obtain ⟨its, rv, pl, hz⟩ := I.list hS
    have hli := li
    obtain ⟨oi, hoi, hci, hdi⟩ := hli
    have ha_e : a ≠ e := fun z => by
      obtain ⟨o, ho, hcl, _⟩ := pl.isList
      rw [z, ie] at ho
      cases ho
      exact absurd (Value.type.inj hcl) (by decide)
    have ha_it : a ≠ it := fun z => by
      obtain ⟨o, ho, hcl, _⟩ := pl.isList
      rw [z, hoi] at ho
      cases ho
      rw [hci] at hcl
      exact absurd (Value.type.inj hcl) (by decide)
    have sz : its.toArray.size = xs.length := by rw [List.size_toArray, ← rv.length]
    have W := WalksT.enumFrom (prog := X.prog) (w := X.w) (A := X.A) k (Draws.list (A := X.A.in1) (by exact I.ok.hd hc) it a ha_it its.toArray) e ne (fun z => by simp at z; exact z.elim ne ha_e.symm) (List.mem_cons_self)
    refine W.done s _ E (by rw [sz]; exact ⟨⟨old, ie⟩, li, pl.isList⟩) fun h' tk keep => ⟨rfl, ?_⟩
    exact I.turnedL (t' := tk) (ch := [e, it]) keep hf
  self := fun A i s Q E st q => by
    obtain ⟨⟨old, ie⟩, _⟩ := st
    exact wpAny_pyIter_enum ie q
section
variable {X : Cx} {K : PySem.W.Frag} {a : Addr} {xs : List V} {g : TG} {tb : TS} {Dn : Ends} {σ : L2.St} {H0 : Hp}
def iEnumS (K : PySem.W.Frag) (k : Int) (ta : TA) : TI := fun σ H R => ta σ H fun vs H1 => ∃ a xs, vs = [.ref a] ∧ SqL K H1 a xs ∧ R (ItS K a k) H1
theorem pi_enumS {elts : List Expr} {kk : Nat} {tpos p p2 pos kp : Pos} {e : Expr} {ta : TA} {k : Int} {j : Nat} (hg : Gl X "enumerate") (hm : X.mg "enumerate" = none) (h0 : -2 ^ 63 ≤ k) (h1 : k < 2 ^ 63) (ha : PA X [e] ta) (calm : X.calm = true)
    (hs : starEach [e] X.env = (false, eval e X.env) :: starEach [] X.env := by rfl) (hb : backTo pos (starEach [e] X.env) = (false, eval e X.env) :: backTo pos (starEach [] X.env) := by rfl) (hpl : (backTo pos (starEach [e] X.env)).any (·.1) = false := by rfl) :
    PI X (.Tuple elts kk tpos) (.Call (.Name "enumerate" p) [e] [⟨some "start", .Constant (.int k) j p2, kp⟩] pos) (iEnumS X.K k ta) := by
  refine ⟨fun pins s σ H R I h => ?_⟩
  refine wpAny_Call_Name_kw (ld_blt (u := Value.type "enumerate") I hg hm (by decide +kernel) ?_)
  refine PySem.W.callWith_of (P := fun _ => True) (by rw [hpl]; rfl) (fun _ _ => ⟨.machine, .inr (.inl rfl), fun _ _ _ _ _ q => wpAny_pure q⟩) ?_
  refine Rows.evalArgs_kw2 (by rfl) (thn (ha.run pos pins s σ H _ I h) fun us s1 ⟨vs, H1, I1, r1, q1⟩ => ?_) hs
  obtain ⟨a, xs, rfl, hq, q⟩ := q1
  obtain ⟨u1, rfl, e1⟩ := vals1 r1
  obtain rfl : u1 = Value.ref a := e1
  refine thn ((pk_cons (nm := some "start") pe_int pk_nil).run pos pins s1 σ H1 (fun zs G => zs = [V.int k] ∧ G = H1) I1 ⟨rfl, rfl⟩) fun ks s2 ⟨zs, G, I2, r2, ez, eG⟩ => ⟨trivial, ?_⟩
  subst ez eG
  obtain ⟨u2, rfl, ⟨t, rfl⟩⟩ := vals1 r2
  obtain ⟨its, rv, pl, hz⟩ := I2.list hq
  refine enum_begins_start (begins_list a its.toArray) pl.isList h0 h1 fun h' ie git size keep => ?_
  have J : Inv X pins σ G { s2 with heap := h' } := I2.kept (t' := s2.toks) keep
  refine wpAny_pyIter_enum (s := { s2 with heap := h' }) ie ⟨s2.heap.objs.size + 1, [s2.heap.objs.size + 1, s2.heap.objs.size], _, _, G, rfl, J, turn_enumS a (s2.heap.objs.size + 1) s2.heap.objs.size k, ⟨⟨.none, ?_⟩, ⟨_, git, rfl, rfl⟩, Nat.succ_ne_self _⟩, fun b hb => ?_, q⟩
  · show IsEnum h' (s2.heap.objs.size + 1) s2.heap.objs.size (k + ((0 : Nat) : Int)) .none
    rw [Int.natCast_zero, Int.add_zero]
    exact ie
  · have low : s2.heap.objs.size ≤ b := by
      have e : b = s2.heap.objs.size + 1 ∨ b = s2.heap.objs.size := by simpa using hb
      rcases e with e | e
      · rw [e]; exact Nat.le_succ _
      · rw [e]; exact Nat.le_refl _
    have q' := I2.fpOk low (I2.hok.fresh low)
    exact q'
/-- for i, x in enumerate(list, start=k) -/
theorem for_enumS {k : Int} (Pv : Nat → L2.St → Hp → Prop) (h0 : Pv 0 σ H0) (hl : ∀ i σ H, Pv i σ H → SqL K H a xs)
    (hs : ∀ (i : Nat) (x : V) (T : Addr) (σ : L2.St) (H : Hp), xs[i]? = some x → Pv i σ H → H T = none → g (.ref T) σ (upd H T (.tup [.int (k + (i : Nat)), x])) fun σ2 H2 => tb { Dn with nx := Pv (i + 1), ct := Pv (i + 1), bk := Dn.nx } σ2 H2) (hd : ∀ σ H, Pv xs.length σ H → Dn.nx σ H) :
    ∃ W : Nat → Nat → L2.St → Hp → Prop, (∃ m, W 0 m σ H0) ∧ ∀ i m σ H, W i m σ H →
      ((ItS K a k).stop i H ∧ Dn.nx σ H) ∨ ((ItS K a k).go i H ∧ ∃ N : L2.St → Hp → Prop, (∀ σ' H', N σ' H' → ∃ m', m' < m ∧ W (i + 1) m' σ' H') ∧ ∀ v H', (ItS K a k).yld i H v H' → g v σ H' fun σ2 H2 => tb { Dn with nx := N, ct := N, bk := Dn.nx } σ2 H2) := by
  refine ⟨fun i m σ H => m = xs.length - i ∧ i ≤ xs.length ∧ Pv i σ H, ⟨_, rfl, Nat.zero_le _, h0⟩, ?_⟩
  rintro i m σ H ⟨rfl, hi, pv⟩
  have qx := hl i σ H pv
  rcases Nat.lt_or_ge i xs.length with lt | ge
  · have ex : xs[i]? = some xs[i] := List.getElem?_eq_getElem lt
    refine .inr ⟨⟨xs, _, qx, ex⟩, Pv (i + 1), fun σ' H' p' => ⟨xs.length - (i + 1), by omega, rfl, lt, p'⟩, fun v H' y => ?_⟩
    obtain ⟨T, x, rfl, hT, rfl, same⟩ := y
    exact hs i x T σ H (same xs qx) pv hT
  · have e : i = xs.length := by omega
    subst e
    exact .inl ⟨⟨xs, qx, rfl⟩, hd σ H pv⟩
end
end LcM

/-! xs[::-1] of a list. -/
namespace LcM
open PySem PySem.Spec PyProof PyProof.Rows L2
theorem vals_revE : ∀ {xs : List V} {us : List Value}, Vals xs us → Vals xs.reverse us.reverse
  | _, _, .nil => .nil
  | _, _, .cons r t => by
    rw [List.reverse_cons, List.reverse_cons]
    exact (vals_revE t).append (.cons r .nil)
def tRev (K : PySem.W.Frag) (te : TE) : TE := fun σ H Q => te σ H fun x H1 => ∃ (a : Addr) (xs : List V), x = .ref a ∧ SqL K H1 a xs ∧ ∀ D, H1 D = none → Q (.ref D) (upd H1 D (.lst xs.reverse))
section
variable {X : Cx} {te : TE} {x : Str} {p p2 p3 p4 pos : Pos} {j : Nat}
theorem pe_rev (he : PE X (.Name x p) te) : PE X (.Subscript (.Name x p) (.Slice none none (some (.UnaryOp .USub (.Constant (.int 1) j p2) p3)) p4) pos) (tRev X.K te) := by
  refine ⟨fun pins s σ H Q I rd => ?_⟩
  refine Rows.Subscript_ (thn (he.run pins s σ H _ I rd) fun v s1 ⟨y, H1, I1, rv, a, xs, ey, hS, k⟩ => ?_)
  subst ey
  obtain rfl : v = Value.ref a := rv
  refine wpAny_Slice (wpAny_pure (wpAny_pure (thn ((po_some (pe_un un_neg pe_int)).run pins s1 σ H1 (fun o G => o = some (-1) ∧ G = H1) I1 ?_) fun st s2 ⟨o, G, I2, ip, eo, eG⟩ => ?_)))
  · exact ⟨1, rfl, -1, rfl, rfl, rfl⟩
  · subst eo eG
    obtain ⟨its, rvs, pl, hz⟩ := I2.list hS
    have up : ∀ b o, s2.heap.get? b = some o → (s2.heap.push { cls := .type "slice", data := .fields #[.none, .none, st] }).get? b = some o := fun b o q => Heap.get?_push_of_some _ q
    have isl := (pl.keeps up).isList
    have gs : (s2.heap.push { cls := .type "slice", data := .fields #[.none, .none, st] }).get? s2.heap.objs.size = some { cls := .type "slice", data := .fields #[.none, .none, st] } := Heap.get?_push_size _ rfl
    refine Rows.subscriptTail_ops (T := "list") (id := "list.__getitem__") ?_ PySem.F.slot_list_getitem.lookup (wpAny_getItem_list_slice isl ⟨_, gs, rfl, rfl⟩ .none .none ip (by decide) ?_ (by rw [List.size_toArray, ← rvs.length]; exact hz)) rfl fun _ => rfl
    · exact isl.typeIs (s := { s2 with heap := s2.heap.push { cls := .type "slice", data := .fields #[.none, .none, st] } })
    · rw [PySem.W.krv_pick]
      have big : s2.heap.objs.size ≤ (s2.heap.push { cls := .type "slice", data := .fields #[.none, .none, st] }).objs.size := by
        rw [Heap.size_push]
        exact Nat.le_succ _
      refine ⟨.ref _, upd G _ (.lst xs.reverse), I2.laid (t' := s2.toks) (fun b o q => Heap.get?_push_of_some _ (up b o q)) big ⟨?_, its.reverse, 0, ?_, ?_⟩, rfl, k _ (I2.hok.fresh big)⟩
      · rw [List.length_reverse]
        exact hz
      · exact vals_revE rvs
      · exact Heap.get?_push_size _ rfl
end
end LcM

namespace K05
open PySem PySem.Spec PyProof.Rows L2 LcM
def top (i : Nat) : Stmt := PySem.Challenge.pw_twopartings_k05_coming_lists_of_few.main.body.getD i (.Pass ⟨0, 0, 0, 0⟩)
abbrev sPouch : Stmt := top 29
abbrev sDip : Stmt := top 30
abbrev sItems : Stmt := top 31

/-! ### power of a great base -/
def CPowW (i j : Int) : Prop := 0 ≤ j ∧ (Builtin.Int.intBits i : Int) * j ≤ 2 ^ 27
section
variable {X : Cx}
theorem op_powW : OpR X (binaryOp .Pow) (rI CPowW fun i j => .int (i ^ j.toNat)) := opI fun _ _ _ _ _ _ _ hc q => pow_int hc.1 hc.2 q
end
theorem bits_of {i : Int} {n : Nat} (h : i.natAbs < 2 ^ n) (h0 : 0 < n) : Builtin.Int.intBits i ≤ n := by
  unfold Builtin.Int.intBits
  split
  · omega
  · have := PySem.Flt.log2_lt_of h0 h
    omega
theorem pow3' {i : Int} {n : Nat} (h : i.natAbs < 2 ^ 64) (hn : n ≤ 1000) : CPowW i n := ⟨by omega, by
  have := bits_of h (by decide)
  have z : (Builtin.Int.intBits i : Int) * (n : Int) ≤ 64 * 1000 := Int.mul_le_mul (by omega) (by omega) (by omega) (by decide)
  omega⟩
theorem pow3 {i : Int} (h : i.natAbs < 2 ^ 300) : CPowW i 3 := ⟨by decide, by have := bits_of h (by decide); omega⟩

/-! ### the heap grows: all of it stays but at one place -/
def Gr (p : Addr) (H H' : Hp) : Prop := ∀ b o, b ≠ p → H b = some o → H' b = some o
theorem Gr.refl {p : Addr} {H : Hp} : Gr p H H := fun _ _ _ e => e
theorem Gr.trans {p : Addr} {H H1 H2 : Hp} (x : Gr p H H1) (y : Gr p H1 H2) : Gr p H H2 := fun b o n e => y b o n (x b o n e)
theorem Gr.new {p a : Addr} {H : Hp} {o : HO} (h : H a = none) : Gr p H (upd H a o) := fun b u n e => by
  rw [upd_ne (ne_of_none e h)]
  exact e
theorem Gr.at {p : Addr} {H : Hp} {o : HO} : Gr p H (upd H p o) := fun b u n e => by
  rw [upd_ne n]
  exact e
theorem _root_.LcM.Grows.gr {p : Addr} {H H' : Hp} (x : Grows H H') : Gr p H H' := fun b o _ e => x b o e
/-! ### the pouch -/
def Pch (H : Hp) (p : Addr) (m : Int) : Prop := ∃ d b n : Int, H p = some (.lst [.int d, .int b, .int n]) ∧ 0 ≤ b ∧ b < 2 ^ 200 ∧ 0 ≤ n ∧ n ≤ m
theorem Pch.le {H : Hp} {p : Addr} {m k : Int} (h : Pch H p m) (l : m ≤ k) : Pch H p k := by
  obtain ⟨d, b, n, e, h1, h2, h3, h4⟩ := h
  exact ⟨d, b, n, e, h1, h2, h3, by omega⟩
theorem Pch.same {H H' : Hp} {p : Addr} {m : Int} (h : Pch H p m) (s : Grows H H') : Pch H' p m := by
  obtain ⟨d, b, n, e, r⟩ := h
  exact ⟨d, b, n, s _ _ e, r⟩
structure Txt0 (mg : Str → Option Value) : Prop where
  int : mg "int" = none
  range : mg "range" = none
  len : mg "len" = none
  abs : mg "abs" = none
  max : mg "max" = none
  min : mg "min" = none
def spPouch (K : PySem.W.Frag) : Sp := fun vs H Q _ => ∃ (a : Addr) (i : Int) (ns : List Int), vs = [.ref a, .int i] ∧ SqL K H a (ns.map V.int) ∧ 0 ≤ i ∧ i < 1000 ∧ ∀ (p : Addr) (H' : Hp), H p = none → Grows H H' → Pch H' p 0 → Q (.ref p) H'
def spDip : Sp := fun vs H Q _ => ∃ (p : Addr) (w m : Int), vs = [.ref p, .int w] ∧ Pch H p m ∧ m < 2 ^ 60 ∧ 0 < w ∧ w.natAbs < 2 ^ 200 ∧ ∀ (v : Int) (H' : Hp), 0 ≤ v → v < w → Pch H' p (m + 1) → (∀ b, b ≠ p → H' b = H b) → Q (.int v) H'

section
variable {P : Program} {w : World} {K : PySem.W.Frag} {mg : Str → Option Value} {base : Heap}
theorem scPouch : FnScope ["script", "at", "cell"] ["script", "at"] (defScope sPouch) := ⟨rfl, rfl, rfl, by decide +kernel, rfl, by decide +kernel, by decide +kernel⟩
theorem ok_pouch {f : Addr} {fd : FuncData} (F : Fun K "_law_pouch" "_law_pouch" sPouch f fd) (T : Txt0 mg) : FnOk P w K mg base CX0 1 f fd ["script", "at"] (spPouch K) := by
  refine F.ok scPouch (fun vs H Q E h => ?_) (fun cdv A outer s H vs Q E hr h => ?_)
  · obtain ⟨a, i, ns, rfl, _⟩ := h
    rfl
  · obtain ⟨a, i, ns, rfl, hS, h0, h1, k⟩ := h
    refine ⟨_, (pss_cons (ps_set (i := 2) scPouch.nd rfl (.inl rfl) (pe_ifExp (pt_cmpR op_lt (pv 1) (pe_callB call_len_seq (by rfl) T.len (by decide +kernel) (pa_cons (pv 0) pa_nil)) (nomark _)) (pe_ix (r := rIxL K) ix_list (pv 0) (pv 1) (fun _ _ => rfl)) pe_int))
      (pss_one (ps_ret (pe_lst (pa_cons (pe_callB (call_max2 rfl) (by rfl) T.max (by decide +kernel) (pa_cons pe_int (pa_cons (pe_op op_sub (pe_callB call_abs (by rfl) T.abs (by decide +kernel) (pa_cons (pv 2) pa_nil)) (pe_op op_powW pe_int pe_int)) pa_nil))) (pa_cons (pe_op op_add (pe_op op_add (pe_op op_mul (pe_op op_mod (pe_callTy call_int1 (by rfl) T.int (by decide +kernel) (pa_cons (pv 2) pa_nil)) (pe_op op_add (pe_op op_powW pe_int pe_int) pe_int)) pe_int) (pe_op op_mul pe_int (pv 1))) pe_int) (pa_cons pe_int pa_nil))))))), ?_⟩
    have hP : CPowW 10 18 := pow3' (by decide) (by decide)
    have hP2 : CPowW 10 38 := pow3' (by decide) (by decide)
    have pos : (0 : Int) < (10 : Int) ^ (38 : Int).toNat + 133 := by decide
    have fin : ∀ c : Int, gName 2 (V.int c) (L2.start ["script", "at", "cell"] [V.ref a, V.int i]) H
        ({ nx := tRet (tLst (tCons (tCB (fun xs H Q => ∃ i j, xs = [V.int i, V.int j] ∧ Q (V.int (if j > i then j else i)) H) (tCons (tC (V.int 0)) (tCons (tOp (rI0 fun i j => V.int (i - j)) (tCB (fun xs H Q => ∃ i, xs = [V.int i] ∧ Q (V.int (if i < 0 then -i else i)) H) (tCons (tVar 2) tNil)) (tOp (rI CPowW fun i j => V.int (i ^ j.toNat)) (tC (V.int 10)) (tC (V.int 18)))) tNil)))
              (tCons (tOp (rI0 fun i j => V.int (i + j)) (tOp (rI0 fun i j => V.int (i + j)) (tOp (rI CMul fun i j => V.int (i * j)) (tOp (rI (fun x j => 0 < j) fun i j => V.int (i % j)) (tCB (fun xs H Q => (∃ i, xs = [V.int i] ∧ Q (V.int i) H) ∨ ∃ k, xs = [V.bl k] ∧ Q (V.int (if k = true then 1 else 0)) H) (tCons (tVar 2) tNil))
                (tOp (rI0 fun i j => V.int (i + j)) (tOp (rI CPowW fun i j => V.int (i ^ j.toNat)) (tC (V.int 10)) (tC (V.int 38))) (tC (V.int 133)))) (tC (V.int 107))) (tOp (rI CMul fun i j => V.int (i * j)) (tC (V.int 71)) (tVar 1))) (tC (V.int 29))) (tCons (tC (V.int 0)) tNil))))
            ({ nx := fun _ H' => Q V.non H', rt := Q } : Ends), rt := Q } : Ends).nx := fun c => by
      refine ⟨_, rfl, _, rfl, _, _, rfl, rfl, hP, _, _, rfl, rfl, _, _, rfl, _, rfl, .inl ⟨_, rfl, _, _, rfl, rfl, hP2, _, _, rfl, rfl, _, _, rfl, rfl, pos, _, _, rfl, rfl, .inr ⟨by decide, by decide⟩, _, rfl, _, _, rfl, rfl, .inl ⟨by decide, by decide⟩, _, _, rfl, rfl, _, _, rfl, rfl, ?_⟩⟩
      have l0 := Int.emod_nonneg c (Int.ne_of_gt pos)
      have l1 := Int.emod_lt_of_pos c pos
      have e0 : (10 : Int) ^ (38 : Int).toNat + 133 = 100000000000000000000000000000000000133 := by decide
      rw [e0] at l0 l1 ⊢
      refine ⟨(by show 3 ≤ sizeLine; decide), fun l hl => k l _ hl (Grows.new hl) ⟨_, _, _, upd_same, ?_, ?_, by decide, by decide⟩⟩
      · omega
      · omega
    refine ⟨_, rfl, _, rfl, a, _, rfl, .inl hS, _, _, rfl, rfl, _, rfl, ?_⟩
    refine ite2 (fun e => ?_) (fun e => ?_)
    · have lt : i.toNat < ns.length := by
        have q := of_decide_eq_true e
        rw [List.length_map] at q
        omega
      have g : (ns.map V.int)[i.toNat]? = some (.int ns[i.toNat]) := by
        rw [List.getElem?_map, List.getElem?_eq_getElem lt]
        rfl
      have g2 : atI (ns.map V.int) i = some (.int ns[i.toNat]) := by
        have q := atI_nat g
        rw [Int.toNat_of_nonneg h0] at q
        exact q
      refine ⟨_, rfl, _, rfl, a, _, _, _, rfl, rfl, hS, g2, ?_⟩
      exact fin _
    · exact fin _
end
end K05

namespace K05
open PySem PySem.Spec PyProof.Rows L2 LcM
section
variable {P : Program} {w : World} {K : PySem.W.Frag} {mg : Str → Option Value} {base : Heap}
theorem scDip : FnScope ["pouch", "wide", "taken", "mixed"] ["pouch", "wide"] (defScope sDip) := ⟨rfl, rfl, rfl, by decide +kernel, rfl, by decide +kernel, by decide +kernel⟩
theorem ok_dip {f : Addr} {fd : FuncData} (F : Fun K "_law_dip" "_law_dip" sDip f fd) (T : Txt0 mg) : FnOk P w K mg base CX0 1 f fd ["pouch", "wide"] spDip := by
  refine F.ok scDip (fun vs H Q E h => ?_) (fun cdv A outer s H vs Q E hr h => ?_)
  · obtain ⟨p, wd, m, rfl, _⟩ := h
    rfl
  · obtain ⟨p, wd, m, rfl, ⟨d, b, n, e, b0, b1, n0, n1⟩, hm, hw, hw2, k⟩ := h
    refine ⟨_, (pss_cons (ps_if (pt_cmpR op_gt (pe_ix (r := rIxL K) ix_list (pv 0) pe_int (fun _ _ => rfl)) pe_int (nomark _)) (pss_cons (ps_set (i := 2) scDip.nd rfl (.inl rfl) (pe_op op_mod (pe_callTy call_int1 (by rfl) T.int (by decide +kernel) (pa_cons (pe_ix (r := rIxL K) ix_list (pv 0) pe_int (fun _ _ => rfl)) pa_nil)) (pv 1)))
      (pss_cons (ps_asg (pe_op op_fdivW (pe_ix (r := rIxL K) ix_list (pv 0) pe_int (fun _ _ => rfl)) (pv 1)) (pg_sub (pv 0) pe_int set_list))
      (pss_one (ps_ret (pv 2))))) pss_nil)
      (pss_cons (ps_asg (pe_op op_add (pe_ix (r := rIxL K) ix_list (pv 0) pe_int (fun _ _ => rfl)) pe_int) (pg_sub (pv 0) pe_int set_list))
      (pss_cons (ps_set (i := 3) scDip.nd rfl (.inl rfl) (pe_op op_mod (pe_op op_powW (pe_callTy call_int1 (by rfl) T.int (by decide +kernel) (pa_cons (pe_op op_add (pe_ix (r := rIxL K) ix_list (pv 0) pe_int (fun _ _ => rfl)) (pe_op op_mul pe_int (pe_ix (r := rIxL K) ix_list (pv 0) pe_int (fun _ _ => rfl)))) pa_nil)) pe_int) (pe_op op_add (pe_op op_powW pe_int pe_int) pe_int)))
      (pss_cons (ps_set (i := 3) scDip.nd rfl (.inl rfl) (pe_op op_mod (pe_op op_powW (pe_callTy call_int1 (by rfl) T.int (by decide +kernel) (pa_cons (pe_op op_add (pv 3) (pe_op op_mul pe_int (pe_ix (r := rIxL K) ix_list (pv 0) pe_int (fun _ _ => rfl)))) pa_nil)) pe_int) (pe_op op_add (pe_op op_powW pe_int pe_int) pe_int)))
      (pss_one (ps_ret (pe_op op_mod (pe_callTy call_int1 (by rfl) T.int (by decide +kernel) (pa_cons (pe_op op_fdivW (pv 3) pe_int) pa_nil)) (pv 1)))))))), ?_⟩
    refine ⟨_, rfl, p, _, _, _, rfl, rfl, SqL.of e, rfl, _, _, rfl, rfl, _, rfl, ?_⟩
    refine ite2 (fun _ => ?_) (fun _ => ?_)
    · refine ⟨_, rfl, p, _, _, _, rfl, rfl, SqL.of e, rfl, .inl ⟨_, rfl, _, rfl, _, _, rfl, rfl, hw, _, rfl, p, _, _, _, rfl, rfl, SqL.of e, rfl, _, rfl, _, _, rfl, rfl, wide_div hw hw2 (by decide) (by decide), _, rfl, p, _, _, 0, rfl, rfl, e, rfl, _, rfl, ?_⟩⟩
      exact k _ _ (Int.emod_nonneg _ (by omega)) (Int.emod_lt_of_pos _ hw) ⟨_, _, _, upd_same, b0, b1, n0, by omega⟩ fun _ h => upd_ne h
    · refine ⟨_, rfl, p, _, _, _, rfl, rfl, SqL.of e, rfl, _, _, rfl, rfl, _, rfl, p, _, _, 2, rfl, rfl, e, rfl, ?_⟩
      have hP : CPowW 10 41 := pow3' (by decide) (by decide)
      have hP2 : CPowW 10 39 := pow3' (by decide) (by decide)
      have q0 : (0 : Int) < (10 : Int) ^ (41 : Int).toNat + 37 := by decide
      have q1 : (0 : Int) < (10 : Int) ^ (39 : Int).toNat + 3 := by decide
      have q2 : (10 : Int) ^ (41 : Int).toNat + 37 < 2 ^ 200 := by decide
      have c1 : CPowW (b + 870022201 * (n + 1)) 3 := pow3 (by omega)
      refine ⟨_, rfl, p, _, _, _, rfl, rfl, SqL.of upd_same, rfl, _, rfl, p, _, _, _, rfl, rfl, SqL.of upd_same, rfl, _, _, rfl, rfl, .inl ⟨by decide, by decide⟩, _, _, rfl, rfl, .inl ⟨_, rfl, _, _, rfl, rfl, c1, _, _, rfl, rfl, hP, _, _, rfl, rfl, _, _, rfl, rfl, q0, ?_⟩⟩
      obtain ⟨y, hy⟩ : ∃ y : Int, y = (b + 870022201 * (n + 1)) ^ (3 : Int).toNat % ((10 : Int) ^ (41 : Int).toNat + 37) := ⟨_, rfl⟩
      have y0 : 0 ≤ y := hy ▸ Int.emod_nonneg _ (Int.ne_of_gt q0)
      have y1 : y < (10 : Int) ^ (41 : Int).toNat + 37 := hy ▸ Int.emod_lt_of_pos _ q0
      have c2 : CPowW (y + 334214467 * (n + 1)) 3 := pow3 (by omega)
      show gName 3 (.int ((b + 870022201 * (n + 1)) ^ (3 : Int).toNat % ((10 : Int) ^ (41 : Int).toNat + 37))) _ _ _
      rw [← hy]
      refine ⟨_, rfl, _, rfl, p, _, _, _, rfl, rfl, SqL.of upd_same, rfl, _, _, rfl, rfl, .inl ⟨by decide, by decide⟩, _, _, rfl, rfl, .inl ⟨_, rfl, _, _, rfl, rfl, c2, _, _, rfl, rfl, hP2, _, _, rfl, rfl, _, _, rfl, rfl, q1, ?_⟩⟩
      refine ⟨_, rfl, _, _, rfl, rfl, ⟨by decide, by decide⟩, .inl ⟨_, rfl, _, rfl, _, _, rfl, rfl, hw, ?_⟩⟩
      exact k _ _ (Int.emod_nonneg _ (by omega)) (Int.emod_lt_of_pos _ hw) ⟨_, _, _, upd_same, b0, b1, by omega, by omega⟩ fun _ h => upd_ne h
end
end K05

namespace K05
open PySem PySem.Spec PyProof.Rows L2 LcM
theorem at_in {xs : List V} {v : Int} (h0 : 0 ≤ v) (h1 : v < xs.length) : ∃ z ∈ xs, atI xs v = some z := by
  have lt : v.toNat < xs.length := by omega
  have q := atI_nat (List.getElem?_eq_getElem lt)
  rw [Int.toNat_of_nonneg h0] at q
  exact ⟨_, List.getElem_mem lt, q⟩
/-- items of newcomers: each within its bounds -/
def Bnd (xs : List Int) : Prop := ∀ (j : Nat) (x : Int), xs[j]? = some x → -(j : Int) ≤ x ∧ x ≤ (j : Int)
theorem Bnd.add {xs : List Int} {x : Int} (h : Bnd xs) (h0 : -(xs.length : Int) ≤ x) (h1 : x ≤ (xs.length : Int)) : Bnd (xs ++ [x]) := fun j y e => by
  rcases Nat.lt_or_ge j xs.length with z | z
  · rw [List.getElem?_append_left z] at e
    exact h j y e
  · rw [List.getElem?_append_right z] at e
    have : j - xs.length = 0 := by
      rcases Nat.eq_zero_or_pos (j - xs.length) with q | q
      · exact q
      · rw [List.getElem?_eq_none (by show 1 ≤ j - xs.length; omega)] at e
        cases e
    rw [this] at e
    have e' : x = y := Option.some.inj e
    omega
def spItems : Sp := fun vs H Q _ => ∃ (p : Addr) (mn m : Int), vs = [.ref p, .int mn] ∧ Pch H p m ∧ m < 2 ^ 50 ∧ 1 ≤ mn ∧ mn ≤ 20 ∧
  ∀ (l : Addr) (xs : List Int) (H' : Hp), (xs.length : Int) = mn - 1 → Bnd xs → Pch H' p (m + 100) → Gr p H H' → H l = none → H' l = some (.lst (xs.map V.int)) → Q (.ref l) H'
theorem but_at {p a : Addr} {H H' : Hp} {o : HO} (h : ∀ b, b ≠ p → H' b = H b) (e : H a = some o) (n : a ≠ p) : H' a = some o := (h a n).trans e
theorem but_gr {p : Addr} {H H' : Hp} (h : ∀ b, b ≠ p → H' b = H b) : Gr p H H' := fun b o n e => (h b n).trans e
theorem pch_ne {p a : Addr} {H : Hp} {m : Int} (h : Pch H p m) (n : H a = none) : a ≠ p := fun e => by
  obtain ⟨_, _, _, q, _⟩ := h
  rw [← e, n] at q
  cases q
section
variable {P : Program} {w : World} {K : PySem.W.Frag} {mg : Str → Option Value} {base : Heap}
structure TxtD (mg : Str → Option Value) (fD : Addr) : Prop extends Txt0 mg where
  gD : mg "_law_dip" = some (.ref fD)
theorem scItems : FnScope ["pouch", "many", "style", "found", "fresh", "near", "pick"] ["pouch", "many"] (defScope sItems) := ⟨rfl, rfl, rfl, by decide +kernel, rfl, by decide +kernel, by decide +kernel⟩
theorem ok_items {f fD : Addr} {fd fdD : FuncData} (F : Fun K "_law_items" "_law_items" sItems f fd) (T : TxtD mg fD) (FD : Fun K "_law_dip" "_law_dip" sDip fD fdD) (bD : Binds K fdD ["pouch", "wide"] []) : FnOk P w K mg base CX0 2 f fd ["pouch", "many"] spItems := by
  have GD : FnOk P w K mg base CX0 1 fD fdD ["pouch", "wide"] spDip := ok_dip FD T.toTxt0
  refine F.ok scItems (fun vs H Q E h => ?_) (fun cdv A outer s H vs Q E hr h => ?_)
  · obtain ⟨p, mn, m, rfl, _⟩ := h
    rfl
  · obtain ⟨p, mn, m, rfl, hP, hm, hmn, hmx, k⟩ := h
    refine ⟨_, (pss_cons (ps_par (i := 2) (j := 3) (by rfl) scItems.nd rfl rfl (by decide) rfl rfl (pa_cons (pe_call GD (hr.mono (by decide)) rfl T.gD FD.kp bD .nil pass0 (pa_cons (pv 0) (pa_cons pe_int pa_nil))) (pa_cons (pe_lst pa_nil) pa_nil)) (by rfl))
      (pss_cons (ps_for PassesOwn.never rfl (pi_range2 (by rfl) T.range (pa_cons pe_int (pa_cons (pv 1) pa_nil))) (pg_name (i := 4) scItems.nd rfl (.inl rfl))
      (pss_cons (ps_set (i := 5) scItems.nd rfl (.inl rfl) (pe_lst (pa_cons (pe_op op_add (pe_op op_sub (pe_call GD (hr.mono (by decide)) rfl T.gD FD.kp bD .nil pass0 (pa_cons (pv 0) (pa_cons (pe_op op_sub (pe_op op_mul pe_int (pv 4)) pe_int) pa_nil))) (pv 4)) pe_int) (pa_cons (pe_op op_sub (pv 4) pe_int) (pa_cons (pe_op op_sub pe_int (pv 4)) (pa_cons pe_int (pa_cons (pe_op op_sub pe_int (pe_callB (call_min2 rfl) (by rfl) T.min (by decide +kernel) (pa_cons pe_int (pa_cons (pe_op op_sub (pv 4) pe_int) pa_nil)))) pa_nil)))))))
      (pss_cons (ps_set (i := 6) scItems.nd rfl (.inl rfl) (pe_ix (r := rIxL K) ix_list (pe_lst (pa_cons (pe_call GD (hr.mono (by decide)) rfl T.gD FD.kp bD .nil pass0 (pa_cons (pv 0) (pa_cons pe_int pa_nil))) (pa_cons pe_int (pa_cons pe_int (pa_cons pe_int (pa_cons (pe_ix (r := rIxL K) ix_list (pe_lst (pa_cons pe_int (pa_cons pe_int pa_nil))) (pe_call GD (hr.mono (by decide)) rfl T.gD FD.kp bD .nil pass0 (pa_cons (pv 0) (pa_cons pe_int pa_nil))) (fun _ _ => rfl)) (pa_cons (pe_ix (r := rIxL K) ix_list (pe_lst (pa_cons pe_int (pa_cons pe_int pa_nil))) (pe_call GD (hr.mono (by decide)) rfl T.gD FD.kp bD .nil pass0 (pa_cons (pv 0) (pa_cons pe_int pa_nil))) (fun _ _ => rfl)) pa_nil))))))) (pv 2) (fun _ _ => rfl)))
      (pss_one (ps_expr (pe_bm PySem.F.plainAttrs_list PySem.F.slot_list_append PySem.F.type_list_append mt_append (pv 3) (pa_cons (pe_ix (r := rIxL K) ix_list (pv 5) (pv 6) (fun _ _ => rfl)) pa_nil)))))))
      (pss_one (ps_ret (pv 3))))), ?_⟩
    refine ⟨_, rfl, p, _, _, rfl, hP, by omega, by decide, by decide, fun v0 H1 v00 v01 hP1 but1 => ⟨by decide, fun l hl => ⟨_, _, rfl, ?_⟩⟩⟩
    have nlp : l ≠ p := pch_ne hP1 hl
    have hl0 : H l = none := (but1 l nlp).symm.trans hl
    refine ⟨_, rfl, 1, mn, rfl, ⟨by decide, by decide, by omega, by omega⟩, for_range (lo := 1) (n := (mn - 1).toNat) (fun i σ H' => ∃ (xs : List Int) (f1 f2 f3 : Option V), σ = [some (.ref p), some (.int mn), some (.int v0), some (.ref l), f1, f2, f3] ∧ xs.length = i ∧ Bnd xs ∧ Pch H' p (m + 1 + 4 * i) ∧ Gr p H H' ∧ H' l = some (.lst (xs.map V.int)))
      ⟨[], none, none, none, rfl, rfl, (fun j x e => by rw [List.getElem?_nil] at e; cases e), (hP1.same (.new hl)).le (by omega), (but_gr but1).trans (.new hl), upd_same⟩ ?_ ?_⟩
    · rintro i σ H2 hi ⟨xs, f1, f2, f3, rfl, hxl, hb, hP2, gr2, e2⟩
      have hi20 : i < 19 := by omega
      -- near
      refine ⟨_, rfl, _, rfl, _, _, rfl, rfl, .inl ⟨by decide, by decide⟩, _, _, rfl, rfl, p, _, _, rfl, hP2, by omega, by omega, ?_, fun v1 H3 v10 v11 hP3 but3 => ?_⟩
      · show (2 * (1 + (i : Int)) - 1).natAbs < 2 ^ 200
        omega
      refine ⟨_, rfl, _, _, rfl, rfl, _, _, rfl, rfl, _, rfl, _, _, rfl, rfl, _, rfl, _, _, rfl, rfl, _, rfl, _, _, rfl, rfl, _, _, rfl, _, _, rfl, rfl, (by show 5 ≤ sizeLine; decide), fun q1 hq1 => ?_⟩
      have nq1 := pch_ne hP3 hq1
      have el3 := but_at but3 e2 nlp
      obtain ⟨nr, hnr⟩ : ∃ nr : List V, nr = [.int (v1 - (1 + (i : Int)) + 1), .int (1 + (i : Int) - 1), .int (1 - (1 + (i : Int))), .int 0, .int (0 - (if 1 + (i : Int) - 1 < 1 then 1 + (i : Int) - 1 else 1))] := ⟨_, rfl⟩
      have nb : ∀ z ∈ nr, ∃ y : Int, z = .int y ∧ -(i : Int) ≤ y ∧ y ≤ (i : Int) := by
        intro z hz
        rw [hnr] at hz
        simp only [List.mem_cons, List.not_mem_nil, or_false] at hz
        rcases hz with rfl | rfl | rfl | rfl | rfl
        · exact ⟨_, rfl, by omega, by omega⟩
        · exact ⟨_, rfl, by omega, by omega⟩
        · exact ⟨_, rfl, by omega, by omega⟩
        · exact ⟨_, rfl, by omega, by omega⟩
        · refine ⟨_, rfl, ?_, ?_⟩ <;> (split <;> omega)
      have el4 : upd H3 q1 (.lst nr) l = some (.lst (xs.map V.int)) := (upd_ne (ne_of_none el3 hq1)).trans el3
      have hP4 : Pch (upd H3 q1 (.lst nr)) p (m + 1 + 4 * i + 1) := hP3.same (.new hq1)
      -- pick
      refine ⟨_, rfl, p, _, _, rfl, (by rw [← hnr]; exact hP4), by omega, by decide, by decide, fun v2 H5 v20 v21 hP5 but5 => ?_⟩
      rw [← hnr] at but5
      refine ⟨(by show 2 ≤ sizeLine; decide), fun q2 hq2 => ⟨_, rfl, p, _, _, rfl, hP5.same (.new hq2), by omega, by decide, by decide, fun v3 H6 v30 v31 hP6 but6 => ?_⟩⟩
      have nq2 := pch_ne hP5 hq2
      obtain ⟨z3, hz3, ez3⟩ := at_in (xs := [V.int 0, V.int 3]) v30 v31
      refine ⟨q2, _, v3, z3, rfl, rfl, SqL.of (but_at but6 upd_same nq2), ez3, (by show 2 ≤ sizeLine; decide), fun q3 hq3 => ⟨_, rfl, p, _, _, rfl, hP6.same (.new hq3), by omega, by decide, by decide, fun v4 H7 v40 v41 hP7 but7 => ?_⟩⟩
      have nq3 := pch_ne hP6 hq3
      obtain ⟨z4, hz4, ez4⟩ := at_in (xs := [V.int 0, V.int 4]) v40 v41
      refine ⟨q3, _, v4, z4, rfl, rfl, SqL.of (but_at but7 upd_same nq3), ez4, (by show 6 ≤ sizeLine; decide), fun q4 hq4 => ?_⟩
      obtain ⟨z5, hz5, ez5⟩ := at_in (xs := [V.int v2, V.int 0, V.int 1, V.int 2, z3, z4]) v00 v01
      have pk : ∃ y : Int, z5 = .int y ∧ 0 ≤ y ∧ y < 5 := by
        simp only [List.mem_cons, List.not_mem_nil, or_false] at hz5 hz3 hz4
        rcases hz5 with rfl | rfl | rfl | rfl | rfl | rfl
        · exact ⟨_, rfl, v20, v21⟩
        · exact ⟨_, rfl, by decide, by decide⟩
        · exact ⟨_, rfl, by decide, by decide⟩
        · exact ⟨_, rfl, by decide, by decide⟩
        · rcases hz3 with rfl | rfl <;> exact ⟨_, rfl, by decide, by decide⟩
        · rcases hz4 with rfl | rfl <;> exact ⟨_, rfl, by decide, by decide⟩
      obtain ⟨y, rfl, y0, y1⟩ := pk
      refine ⟨_, rfl, q4, _, v0, .int y, rfl, rfl, SqL.of upd_same, ez5, ?_⟩
      -- append
      have gr7 : Gr p (upd H3 q1 (.lst nr)) (upd H7 q4 (.lst [V.int v2, V.int 0, V.int 1, V.int 2, z3, z4])) := ((((but_gr but5).trans (.new hq2)).trans (but_gr but6)).trans (.new hq3)).trans ((but_gr but7).trans (.new hq4))
      have eq1 := gr7 q1 _ nq1 upd_same
      have el7 := gr7 l _ nlp el4
      obtain ⟨z6, hz6, ez6⟩ := at_in (xs := nr) (v := y) y0 (by rw [hnr]; exact y1)
      obtain ⟨x, rfl, x0, x1⟩ := nb z6 hz6
      refine ⟨_, rfl, .inl ⟨rfl, _, SqL.of el7⟩, _, rfl, _, rfl, q1, _, y, .int x, rfl, rfl, SqL.of eq1, ez6, l, _, _, rfl, rfl, el7, ?_, ?_⟩
      · rw [List.length_map]
        exact small1000 (by omega)
      · refine ⟨xs ++ [x], _, _, _, rfl, by rw [List.length_append, hxl]; rfl, hb.add (by omega) (by omega), ?_, ?_, by rw [upd_same, List.map_append]; rfl⟩
        · obtain ⟨d, b, n, e, b0, b1, n0, n1⟩ := (hP7.same (H' := upd H7 q4 (.lst [V.int v2, V.int 0, V.int 1, V.int 2, z3, z4])) (.new hq4))
          exact ⟨d, b, n, (upd_ne nlp.symm).trans e, b0, b1, n0, by omega⟩
        · intro b o nb' eb
          rcases Classical.em (b = l) with e | e
          · rw [e, hl0] at eb
            cases eb
          · rw [upd_ne e]
            exact gr7 b o nb' ((Gr.new hq1 : Gr p H3 _) b o nb' (but_gr but3 b o nb' (gr2 b o nb' eb)))
    · rintro σ H2 ⟨xs, f1, f2, f3, rfl, hxl, hb, hP2, gr2, e2⟩
      exact ⟨_, rfl, k l xs H2 (by omega) hb (hP2.le (by omega)) gr2 hl0 e2⟩
end
end K05

namespace K05
open PySem PySem.Spec PyProof.Rows L2 SortR LcM
abbrev sNumber : Stmt := top 7
abbrev sPerson : Stmt := top 8
abbrev sAsc : Stmt := top 9
abbrev sPList : Stmt := top 10
abbrev sGroup : Stmt := top 11
abbrev sMask : Stmt := top 12
abbrev sCross : Stmt := top 13
abbrev sAny : Stmt := top 14
abbrev sParting : Stmt := top 16
abbrev sPersons : Stmt := top 17
/-- the program's defs, where they stand -/
structure ProgF (K : PySem.W.Frag) (mg : Str → Option Value) where
  (fNum fPer fAsc fPL fGr fMask fCross fAny fIs fPs : Addr)
  (dNum dPer dAsc dPL dGr dMask dCross dAny dIs dPs : FuncData)
  FNum : Fun K "is_number" "is_number" sNumber fNum dNum
  FPer : Fun K "is_person" "is_person" sPerson fPer dPer
  FAsc : Fun K "is_ascending" "is_ascending" sAsc fAsc dAsc
  FPL : Fun K "is_person_list" "is_person_list" sPList fPL dPL
  FGr : Fun K "is_group" "is_group" sGroup fGr dGr
  FMask : Fun K "mask_of" "mask_of" sMask fMask dMask
  FCross : Fun K "masks_cross" "masks_cross" sCross fCross dCross
  FAny : Fun K "any_cross" "any_cross" sAny fAny dAny
  FIs : Fun K "is_parting" "is_parting" sParting fIs dIs
  FPs : Fun K "persons_of" "persons_of" sPersons fPs dPs
  gNum : mg "is_number" = some (.ref fNum)
  gPer : mg "is_person" = some (.ref fPer)
  gAsc : mg "is_ascending" = some (.ref fAsc)
  gPL : mg "is_person_list" = some (.ref fPL)
  gGr : mg "is_group" = some (.ref fGr)
  gMask : mg "mask_of" = some (.ref fMask)
  gCross : mg "masks_cross" = some (.ref fCross)
  gAny : mg "any_cross" = some (.ref fAny)
  gIs : mg "is_parting" = some (.ref fIs)
  gPs : mg "persons_of" = some (.ref fPs)
  bNum : Binds K dNum ["thing"] []
  bPer : Binds K dPer ["thing", "persons"] []
  bAsc : Binds K dAsc ["items"] []
  bPL : Binds K dPL ["thing", "persons"] []
  bGr : Binds K dGr ["thing", "persons"] []
  bMask : Binds K dMask ["group"] []
  bCross : Binds K dCross ["one", "other"] []
  bAny : Binds K dAny ["groups"] []
  bIs : Binds K dIs ["thing"] []
  bPs : Binds K dPs ["parting"] []
  gComb : mg "combinations" = some (.type "itertools.combinations")
  mostT : Tok
  gMost : mg "MOST_PERSONS" = some (.int 20 mostT)
/-- the built-in kinds that may come -/
def kinds : List String := ["int", "bool", "str", "NoneType", "list", "tuple", "dict"]
structure TxtP (mg : Str → Option Value) : Prop where
  isi : mg "isinstance" = none
  int : mg "int" = none
  bool : mg "bool" = none
  list : mg "list" = none
  len : mg "len" = none
  all : mg "all" = none
  any : mg "any" = none
  sum : mg "sum" = none
  zip : mg "zip" = none
  sorted : mg "sorted" = none
  tuple : mg "tuple" = none
  range : mg "range" = none
  enumerate : mg "enumerate" = none
def spNumber (K : PySem.W.Frag) : Sp := fun vs H Q _ => ∃ (x : V) (t : String), vs = [x] ∧ TyX K H x (.type t) ∧ t ∈ kinds ∧ Q (.bl (decide (t = "int"))) H
def spPerson (K : PySem.W.Frag) : Sp := fun vs H Q _ => ∃ (x : V) (t : String) (n : Int), vs = [x, .int n] ∧ TyX K H x (.type t) ∧ t ∈ kinds ∧ (t = "int" → ∃ i, x = .int i ∧ Q (.bl (decide (0 ≤ i) && decide (i < n))) H) ∧ (t ≠ "int" → Q (.bl false) H)
/-- each below the one behind it -/
def ascI (ns : List Int) : Bool := (List.range (ns.length - 1)).all fun i => decide (ns.getD i 0 < ns.getD (i + 1) 0)
def ascR (rs : List (List Int)) : Bool := (List.range (rs.length - 1)).all fun i => decide (rs.getD i [] < rs.getD (i + 1) [])
def spAscI (K : PySem.W.Frag) : Sp := fun vs H Q _ => ∃ (a : Addr) (ns : List Int), vs = [.ref a] ∧ SqL K H a (ns.map V.int) ∧ ns.length ≤ 1000 ∧ ∀ H', Grows H H' → Q (.bl (ascI ns)) H'
def spAscR (K : PySem.W.Frag) : Sp := fun vs H Q _ => ∃ (a : Addr) (bs : List (Addr × List Int)), vs = [.ref a] ∧ SqL K H a (bs.map fun b => V.ref b.1) ∧ (∀ b ∈ bs, SqL K H b.1 (b.2.map V.int)) ∧ bs.length ≤ 1000 ∧ ∀ H', Grows H H' → Q (.bl (ascR (bs.map (·.2)))) H'
section
variable {P : Program} {w : World} {K : PySem.W.Frag} {mg : Str → Option Value} {base : Heap}
theorem scNumber : FnScope ["thing"] ["thing"] (defScope sNumber) := ⟨rfl, rfl, rfl, by decide +kernel, rfl, by decide +kernel, by decide +kernel⟩
theorem scPerson : FnScope ["thing", "persons"] ["thing", "persons"] (defScope sPerson) := ⟨rfl, rfl, rfl, by decide +kernel, rfl, by decide +kernel, by decide +kernel⟩
theorem scAsc : FnScope ["items", "low", "high"] ["items"] (defScope sAsc) := ⟨rfl, rfl, rfl, by decide +kernel, rfl, by decide +kernel, by decide +kernel⟩
theorem ok_number {f : Addr} {fd : FuncData} (F : Fun K "is_number" "is_number" sNumber f fd) (T : TxtP mg) : FnOk P w K mg base CX0 1 f fd ["thing"] (spNumber K) := by
  refine F.ok scNumber (fun vs H Q E h => ?_) (fun cdv A outer s H vs Q E hr h => ?_)
  · obtain ⟨x, t, rfl, _⟩ := h
    rfl
  · obtain ⟨x, t, rfl, ty, hk, k⟩ := h
    refine ⟨_, (pss_one (ps_ret (pe_and (pe_callB call_isi (by rfl) T.isi (by decide +kernel) (pa_cons (pv 0) (pa_cons (pe_bltn (v := .ty "int") (u := .type "int") (by rfl) T.int (by decide +kernel) rfl) pa_nil))) (pe_one (pe_not (pe_callB call_isi (by rfl) T.isi (by decide +kernel) (pa_cons (pv 0) (pa_cons (pe_bltn (v := .ty "bool") (u := .type "bool") (by rfl) T.bool (by decide +kernel) rfl) pa_nil)))))))), ?_⟩
    simp only [kinds, List.mem_cons, List.not_mem_nil, or_false] at hk
    rcases hk with rfl | rfl | rfl | rfl | rfl | rfl | rfl
    · exact ⟨_, rfl, _, _, _, _, true, rfl, .ty "int", ty, kit_ty (by decide +kernel), true, rfl, _, rfl, _, _, _, _, false, rfl, .ty "bool", ty, kit_ty (by decide +kernel), false, rfl, k⟩
    · exact ⟨_, rfl, _, _, _, _, true, rfl, .ty "int", ty, kit_ty (by decide +kernel), true, rfl, _, rfl, _, _, _, _, true, rfl, .ty "bool", ty, kit_ty (by decide +kernel), true, rfl, k⟩
    all_goals exact ⟨_, rfl, _, _, _, _, false, rfl, .ty "int", ty, kit_ty (by decide +kernel), false, rfl, k⟩
theorem ok_person (Z : ProgF K mg) (T : TxtP mg) : FnOk P w K mg base CX0 2 Z.fPer Z.dPer ["thing", "persons"] (spPerson K) := by
  have GNum : FnOk P w K mg base CX0 1 Z.fNum Z.dNum ["thing"] (spNumber K) := ok_number Z.FNum T
  refine Z.FPer.ok scPerson (fun vs H Q E h => ?_) (fun cdv A outer s H vs Q E hr h => ?_)
  · obtain ⟨x, t, n, rfl, _⟩ := h
    rfl
  · obtain ⟨x, t, n, rfl, ty, hk, k1, k2⟩ := h
    refine ⟨_, (pss_one (ps_ret (pe_and (pe_call GNum (hr.mono (by decide)) rfl Z.gNum Z.FNum.kp Z.bNum .nil pass0 (pa_cons (pv 0) pa_nil)) (pe_one (pe_chain op_le op_lt pe_int (pv 0) (pv 1)))))), ?_⟩
    refine ⟨_, rfl, x, t, rfl, ty, hk, ?_⟩
    by_cases e : t = "int"
    · obtain ⟨i, rfl, q⟩ := k1 e
      refine ⟨_, rfl, ?_⟩
      rw [if_pos (decide_eq_true e)]
      refine ⟨_, rfl, _, _, rfl, rfl, _, rfl, ?_⟩
      by_cases l : 0 ≤ i
      · rw [if_pos (decide_eq_true l)]
        refine ⟨_, rfl, _, _, rfl, rfl, ?_⟩
        rw [decide_eq_true l, Bool.true_and] at q
        exact q
      · rw [if_neg (by rw [decide_eq_false l]; exact Bool.false_ne_true)]
        rw [decide_eq_false l, Bool.false_and] at q
        exact q
    · refine ⟨_, rfl, ?_⟩
      rw [if_neg (by rw [decide_eq_false e]; exact Bool.false_ne_true)]
      exact k2 e
theorem at_map {α : Type} {f : α → V} {ns : List α} {i : Nat} {x : V} {d : α} (h : (ns.map f)[i]? = some x) : x = f (ns.getD i d) := by
  rw [List.getElem?_map] at h
  obtain ⟨z, hz, e⟩ := Option.map_eq_some_iff.mp h
  rw [← e, List.getD_eq_getElem?_getD, hz]
  rfl
theorem at_tail {α : Type} {f : α → V} {ns : List α} {i : Nat} {x : V} {d : α} (h : (ns.map f).tail[i]? = some x) : x = f (ns.getD (i + 1) d) := by
  rw [List.getElem?_tail] at h
  exact at_map h
theorem all_rng (n : Nat) (p : Nat → Bool) : ((List.range n).map p).all id = (List.range n).all p := by
  rw [List.all_map]
  rfl
theorem ok_ascI {f : Addr} {fd : FuncData} (F : Fun K "is_ascending" "is_ascending" sAsc f fd) (T : TxtP mg) : FnOk P w K mg base CX0 1 f fd ["items"] (spAscI K) := by
  refine F.ok scAsc (fun vs H Q E h => ?_) (fun cdv A outer s H vs Q E hr h => ?_)
  · obtain ⟨a, ns, rfl, _⟩ := h
    rfl
  · obtain ⟨a, ns, rfl, hS, hn, k⟩ := h
    refine ⟨_, (pss_one (ps_ret (pe_callB (cr_all rfl) (by rfl) T.all (by decide +kernel) (pa_cons (pe_lc (own := [("low", 1), ("high", 2)]) (g := gTup K 2 (gCons (gName 1) (gCons (gName 2) gNil))) (tt := tYes) rfl scAsc.nd (pi_zip (by rfl) T.zip (pa_cons (pv 0) (pa_cons (pe_slice sl_list (pv 0) (po_some pe_int) po_none) pa_nil))) (blkOk_by (own := [("low", 1), ("high", 2)]) (N := ["items", "low", "high"]) (sc := defScope sAsc) (by decide +kernel)) (fun _ _ _ _ _ => pg_tup rfl (pgs_cons (pg_name (i := 1) scAsc.nd rfl (Or.inl rfl)) (pgs_cons (pg_name (i := 2) scAsc.nd rfl (Or.inl rfl)) pgs_nil))) (fun _ _ _ _ _ => pts_nil) (fun _ _ _ _ _ => (pe_cmpR op_lt (pv 1) (pv 2) (nomark _)))) pa_nil)))), ?_⟩
    refine ⟨_, rfl, _, rfl, 1, rfl, a, _, rfl, hS, fun c nc => ?_⟩
    rw [cut_tail]
    refine ⟨a, c, _, _, rfl, (Grows.new nc).seq hS, SqL.of upd_same, fun D hD => lc_zipM (K := K) (fun i => V.bl (decide (ns.getD i 0 < ns.getD (i + 1) 0))) hD ((Grows.new nc).seq hS) (SqL.of upd_same) (by rw [List.length_map]; omega) (fun i x y T H' R hx hy sm hT kR => ?_) fun H' sm eD => ?_⟩
    · refine ⟨T, _, rfl, SqT.of upd_same, rfl, _, _, rfl, _, _, rfl, rfl, ?_⟩
      obtain rfl := at_map (d := 0) hx
      obtain rfl := at_tail (d := 0) hy
      exact ⟨rfl, _, rfl, _, rfl, _, _, rfl, rfl, kR _ .refl⟩
    · have e : min (ns.map V.int).length (ns.map V.int).tail.length = ns.length - 1 := by
        rw [List.length_tail, List.length_map]
        omega
      rw [e] at eD
      refine ⟨D, (List.range (ns.length - 1)).map fun i => decide (ns.getD i 0 < ns.getD (i + 1) 0), rfl, SqL.of (by rw [eD, List.map_map]; rfl), ?_⟩
      rw [all_rng]
      exact k H' ((Grows.new nc).trans sm)
theorem ok_ascR {f : Addr} {fd : FuncData} (F : Fun K "is_ascending" "is_ascending" sAsc f fd) (T : TxtP mg) : FnOk P w K mg base CX0 1 f fd ["items"] (spAscR K) := by
  refine F.ok scAsc (fun vs H Q E h => ?_) (fun cdv A outer s H vs Q E hr h => ?_)
  · obtain ⟨a, bs, rfl, _⟩ := h
    rfl
  · obtain ⟨a, bs, rfl, hS, hb, hn, k⟩ := h
    refine ⟨_, (pss_one (ps_ret (pe_callB (cr_all rfl) (by rfl) T.all (by decide +kernel) (pa_cons (pe_lc (own := [("low", 1), ("high", 2)]) (g := gTup K 2 (gCons (gName 1) (gCons (gName 2) gNil))) (tt := tYes) rfl scAsc.nd (pi_zip (by rfl) T.zip (pa_cons (pv 0) (pa_cons (pe_slice sl_list (pv 0) (po_some pe_int) po_none) pa_nil))) (blkOk_by (own := [("low", 1), ("high", 2)]) (N := ["items", "low", "high"]) (sc := defScope sAsc) (by decide +kernel)) (fun _ _ _ _ _ => pg_tup rfl (pgs_cons (pg_name (i := 1) scAsc.nd rfl (Or.inl rfl)) (pgs_cons (pg_name (i := 2) scAsc.nd rfl (Or.inl rfl)) pgs_nil))) (fun _ _ _ _ _ => pts_nil) (fun _ _ _ _ _ => (pe_cmpR (r := rLtR K) (op_ltR (by exact hr.units)) (pv 1) (pv 2) (nomark _)))) pa_nil)))), ?_⟩
    refine ⟨_, rfl, _, rfl, 1, rfl, a, _, rfl, hS, fun c nc => ?_⟩
    rw [cut_tail]
    have hbD : ∀ i : Nat, i < bs.length → SqL K H (bs.getD i (0, [])).1 ((bs.getD i (0, [])).2.map V.int) := fun i hi => by
      rw [List.getD_eq_getElem?_getD, List.getElem?_eq_getElem hi]
      exact hb _ (List.getElem_mem hi)
    refine ⟨a, c, _, _, rfl, (Grows.new nc).seq hS, SqL.of upd_same, fun D hD => lc_zipM (K := K) (fun i => V.bl (decide ((bs.getD i (0, [])).2 < (bs.getD (i + 1) (0, [])).2))) hD ((Grows.new nc).seq hS) (SqL.of upd_same) (by rw [List.length_map]; omega) (fun i x y T H' R hx hy sm hT kR => ?_) fun H' sm eD => ?_⟩
    · have i1 := (List.getElem?_eq_some_iff.mp hx).1
      have i2 := (List.getElem?_eq_some_iff.mp hy).1
      rw [List.length_map] at i1
      rw [List.length_tail, List.length_map] at i2
      refine ⟨T, _, rfl, SqT.of upd_same, rfl, _, _, rfl, _, _, rfl, rfl, ?_⟩
      obtain rfl := at_map (d := (0, [])) hx
      obtain rfl := at_tail (d := (0, [])) hy
      have st : Grows H (upd H' T (.tup [V.ref (bs.getD i (0, [])).1, V.ref (bs.getD (i + 1) (0, [])).1])) := ((Grows.new nc).trans sm).trans (Grows.new hT)
      exact ⟨rfl, _, rfl, _, rfl, _, _, _, _, rfl, rfl, st.seq (hbD i i1), st.seq (hbD (i + 1) (by omega)), kR _ .refl⟩
    · have e : min (bs.map fun b => V.ref b.1).length (bs.map fun b => V.ref b.1).tail.length = bs.length - 1 := by
        rw [List.length_tail, List.length_map]
        omega
      rw [e] at eD
      refine ⟨D, (List.range (bs.length - 1)).map fun i => decide ((bs.getD i (0, [])).2 < (bs.getD (i + 1) (0, [])).2), rfl, SqL.of (by rw [eD, List.map_map]; rfl), ?_⟩
      rw [all_rng]
      have q := k H' ((Grows.new nc).trans sm)
      unfold ascR at q
      rw [List.length_map] at q
      have fe : ∀ i, (bs.map (·.2)).getD i [] = (bs.getD i (0, [])).2 := fun i => by
        rw [List.getD_eq_getElem?_getD, List.getD_eq_getElem?_getD, List.getElem?_map]
        cases bs[i]? <;> rfl
      simp only [fe] at q
      exact q
end
end K05

namespace K05
open PySem PySem.Spec PyProof.Rows L2 SortR LcM
theorem ty_list {K : PySem.W.Frag} {H : Hp} {a : Addr} {xs : List V} (h : SqL K H a xs) : TyX K H (.ref a) (.type "list") := by
  rcases h with (h | ⟨o, h⟩) | ⟨o, its, n, h, hc, _⟩
  · exact .base (.lst h)
  · exact .base (.frz h)
  · exact .kList h hc
def inR (n : Int) (ns : List Int) : Bool := (List.range ns.length).all fun i => decide (0 ≤ ns.getD i 0) && decide (ns.getD i 0 < n)
def plist (n : Int) (ns : List Int) : Bool := inR n ns && ascI ns
def group (n : Int) (ns : List Int) : Bool := plist n ns && decide (2 ≤ (ns.length : Int))
def maskI (ns : List Int) : Int := ((List.range ns.length).map fun i => 1 * 2 ^ (ns.getD i 0).toNat).sum
def crossI (i j : Int) : Bool := !inV (.int (Builtin.bitAnd i j)) [.int 0, .int i, .int j]
def anyX (rs : List (List Int)) : Bool := (List.range (Comb.prs rs.length).length).any fun t => crossI (maskI (rs.getD ((Comb.prs rs.length).getD t (0, 0)).1 [])) (maskI (rs.getD ((Comb.prs rs.length).getD t (0, 0)).2 []))
def isP (rs : List (List Int)) : Bool := decide ((rs.length : Int) < 20) && ((List.range rs.length).all fun i => group (rs.length + 1) (rs.getD i [])) && ascR rs && !anyX rs
def spPL (K : PySem.W.Frag) (m : Int → List Int → Bool) : Sp := fun vs H Q _ => ∃ (a : Addr) (n : Int) (ns : List Int), vs = [.ref a, .int n] ∧ SqL K H a (ns.map V.int) ∧ ns.length ≤ 1000 ∧ ∀ H', Grows H H' → Q (.bl (m n ns)) H'
def spMask (K : PySem.W.Frag) : Sp := fun vs H Q _ => ∃ (a : Addr) (ns : List Int), vs = [.ref a] ∧ SqL K H a (ns.map V.int) ∧ ns.length ≤ 1000 ∧ (∀ x ∈ ns, 0 ≤ x ∧ x ≤ 1000) ∧ ∀ H', Grows H H' → Q (.int (maskI ns)) H'
def spCross : Sp := fun vs H Q _ => ∃ (i j : Int), vs = [.int i, .int j] ∧ ∀ H', Grows H H' → Q (.bl (crossI i j)) H'
section
variable {P : Program} {w : World} {K : PySem.W.Frag} {mg : Str → Option Value} {base : Heap}
theorem scPList : FnScope ["thing", "persons", "item"] ["thing", "persons"] (defScope sPList) := ⟨rfl, rfl, rfl, by decide +kernel, rfl, by decide +kernel, by decide +kernel⟩
theorem scGroup : FnScope ["thing", "persons"] ["thing", "persons"] (defScope sGroup) := ⟨rfl, rfl, rfl, by decide +kernel, rfl, by decide +kernel, by decide +kernel⟩
theorem scMask : FnScope ["group", "person"] ["group"] (defScope sMask) := ⟨rfl, rfl, rfl, by decide +kernel, rfl, by decide +kernel, by decide +kernel⟩
theorem scCross : FnScope ["one", "other"] ["one", "other"] (defScope sCross) := ⟨rfl, rfl, rfl, by decide +kernel, rfl, by decide +kernel, by decide +kernel⟩
theorem ok_plist (Z : ProgF K mg) (T : TxtP mg) : FnOk P w K mg base CX0 3 Z.fPL Z.dPL ["thing", "persons"] (spPL K plist) := by
  have GPer : FnOk P w K mg base CX0 2 Z.fPer Z.dPer ["thing", "persons"] (spPerson K) := ok_person Z T
  have GAsc : FnOk P w K mg base CX0 1 Z.fAsc Z.dAsc ["items"] (spAscI K) := ok_ascI Z.FAsc T
  refine Z.FPL.ok scPList (fun vs H Q E h => ?_) (fun cdv A outer s H vs Q E hr h => ?_)
  · obtain ⟨a, n, ns, rfl, _⟩ := h
    rfl
  · obtain ⟨a, n, ns, rfl, hS, hn, k⟩ := h
    refine ⟨_, (pss_cons (ps_if (pt_not (pt_val (pe_callB call_isi (by rfl) T.isi (by decide +kernel) (pa_cons (pv 0) (pa_cons (pe_bltn (v := .ty "list") (u := .type "list") (by rfl) T.list (by decide +kernel) rfl) pa_nil))))) (pss_one (ps_ret pe_bl)) pss_nil)
      (pss_one (ps_ret (pe_and (pe_callB (cr_all rfl) (by rfl) T.all (by decide +kernel) (pa_cons (pe_lc (own := [("item", 2)]) (g := gName 2) (tt := tYes) rfl scPList.nd (pi_list (pv 0)) (blkOk_by (own := [("item", 2)]) (N := ["thing", "persons", "item"]) (sc := defScope sPList) (by decide +kernel)) (fun _ _ _ _ _ => pg_name (i := 2) scPList.nd rfl (Or.inl rfl)) (fun _ _ _ _ _ => pts_nil) (fun _ _ _ _ _ => (pe_call GPer (hr.mono (by decide)) rfl Z.gPer Z.FPer.kp Z.bPer .nil pass0 (pa_cons (pv 2) (pa_cons (pv 1) pa_nil))))) pa_nil)) (pe_one (pe_call GAsc (hr.mono (by decide)) rfl Z.gAsc Z.FAsc.kp Z.bAsc .nil pass0 (pa_cons (pv 0) pa_nil))))))), ?_⟩
    refine ⟨_, rfl, _, _, _, _, true, rfl, .ty "list", ty_list hS, kit_ty (by decide +kernel), true, rfl, ?_⟩
    refine iteF ⟨_, rfl, a, rfl, ⟨_, hS⟩, fun D hD => lc_listM (K := K) (fun i => V.bl (decide (0 ≤ ns.getD i 0) && decide (ns.getD i 0 < n))) hD hS (by rw [List.length_map]; omega) (fun i x H' R hx sm kR => ?_) fun H' sm eD => ?_⟩
    · obtain rfl := at_map (d := 0) hx
      refine ⟨rfl, _, rfl, _, rfl, _, "int", n, rfl, .base (.int _), by decide, fun _ => ⟨_, rfl, kR _ .refl⟩, fun z => absurd rfl z⟩
    · rw [List.length_map] at eD
      refine ⟨D, (List.range ns.length).map fun i => decide (0 ≤ ns.getD i 0) && decide (ns.getD i 0 < n), rfl, SqL.of (by rw [eD, List.map_map]; rfl), _, rfl, ?_⟩
      rw [all_rng]
      show if inR n ns = true then _ else _
      by_cases hi : inR n ns = true
      · rw [if_pos hi]
        refine ⟨_, rfl, a, ns, rfl, sm.seq hS, hn, fun H2 s2 => ?_⟩
        have q := k H2 (sm.trans s2)
        unfold plist at q
        rw [hi, Bool.true_and] at q
        exact q
      · rw [if_neg hi]
        have q := k H' sm
        unfold plist at q
        rw [Bool.eq_false_iff.mpr hi, Bool.false_and] at q
        exact q
theorem ok_group (Z : ProgF K mg) (T : TxtP mg) : FnOk P w K mg base CX0 4 Z.fGr Z.dGr ["thing", "persons"] (spPL K group) := by
  have GPL : FnOk P w K mg base CX0 3 Z.fPL Z.dPL ["thing", "persons"] (spPL K plist) := ok_plist Z T
  refine Z.FGr.ok scGroup (fun vs H Q E h => ?_) (fun cdv A outer s H vs Q E hr h => ?_)
  · obtain ⟨a, n, ns, rfl, _⟩ := h
    rfl
  · obtain ⟨a, n, ns, rfl, hS, hn, k⟩ := h
    refine ⟨_, (pss_one (ps_ret (pe_and (pe_call GPL (hr.mono (by decide)) rfl Z.gPL Z.FPL.kp Z.bPL .nil pass0 (pa_cons (pv 0) (pa_cons (pv 1) pa_nil))) (pe_one (pe_cmpR op_ge (pe_callB call_len_seq (by rfl) T.len (by decide +kernel) (pa_cons (pv 0) pa_nil)) pe_int (nomark _)))))), ?_⟩
    refine ⟨_, rfl, _, rfl, a, n, ns, rfl, hS, hn, fun H2 s2 => ⟨_, rfl, ?_⟩⟩
    have q := k H2 s2
    unfold group at q
    by_cases hi : plist n ns = true
    · rw [if_pos hi]
      rw [hi, Bool.true_and] at q
      refine ⟨_, rfl, a, _, rfl, .inl (s2.seq hS), _, _, rfl, rfl, ?_⟩
      rw [List.length_map]
      exact q
    · rw [if_neg hi]
      rw [Bool.eq_false_iff.mpr hi, Bool.false_and] at q
      exact q
theorem ok_mask (Z : ProgF K mg) (T : TxtP mg) : FnOk P w K mg base CX0 1 Z.fMask Z.dMask ["group"] (spMask K) := by
  refine Z.FMask.ok scMask (fun vs H Q E h => ?_) (fun cdv A outer s H vs Q E hr h => ?_)
  · obtain ⟨a, ns, rfl, _⟩ := h
    rfl
  · obtain ⟨a, ns, rfl, hS, hn, hr0, k⟩ := h
    refine ⟨_, (pss_one (ps_ret (pe_callB (cr_sum rfl) (by rfl) T.sum (by decide +kernel) (pa_cons (pe_lc (own := [("person", 1)]) (g := gName 1) (tt := tYes) rfl scMask.nd (pi_list (pv 0)) (blkOk_by (own := [("person", 1)]) (N := ["group", "person"]) (sc := defScope sMask) (by decide +kernel)) (fun _ _ _ _ _ => pg_name (i := 1) scMask.nd rfl (Or.inl rfl)) (fun _ _ _ _ _ => pts_nil) (fun _ _ _ _ _ => (pe_op op_shl pe_int (pv 1)))) pa_nil)))), ?_⟩
    refine ⟨_, rfl, a, rfl, ⟨_, hS⟩, fun D hD => lc_listM (K := K) (fun i => V.int (1 * 2 ^ (ns.getD i 0).toNat)) hD hS (by rw [List.length_map]; omega) (fun i x H' R hx sm kR => ?_) fun H' sm eD => ?_⟩
    · have il := (List.getElem?_eq_some_iff.mp hx).1
      rw [List.length_map] at il
      obtain rfl := at_map (d := 0) hx
      have mem : ns.getD i 0 ∈ ns := by
        rw [List.getD_eq_getElem?_getD, List.getElem?_eq_getElem il]
        exact List.getElem_mem il
      obtain ⟨m0, m1⟩ := hr0 _ mem
      exact ⟨rfl, _, rfl, _, _, rfl, rfl, ⟨m0, by omega, by decide⟩, kR _ .refl⟩
    · rw [List.length_map] at eD
      refine ⟨D, (List.range ns.length).map fun i => 1 * 2 ^ (ns.getD i 0).toNat, rfl, SqL.of (by rw [eD, List.map_map]; rfl), ?_⟩
      exact k H' sm
theorem ok_cross (Z : ProgF K mg) : FnOk P w K mg base CX0 1 Z.fCross Z.dCross ["one", "other"] spCross := by
  refine Z.FCross.ok scCross (fun vs H Q E h => ?_) (fun cdv A outer s H vs Q E hr h => ?_)
  · obtain ⟨i, j, rfl, _⟩ := h
    rfl
  · obtain ⟨i, j, rfl, k⟩ := h
    refine ⟨_, (pss_one (ps_ret (pe_cmpR op_notIn_seq (pe_op op_and (pv 0) (pv 1)) (pe_tup (pa_cons pe_int (pa_cons (pv 0) (pa_cons (pv 1) pa_nil)))) (by rfl)))), ?_⟩
    refine ⟨_, rfl, _, rfl, _, _, rfl, rfl, _, rfl, _, rfl, (by show 3 ≤ sizeLine; decide), fun t ht => ⟨t, _, rfl, .inr (SqT.of upd_same), rfl, rfl, ?_⟩⟩
    exact k _ (Grows.new ht)
end
end K05

namespace K05
open PySem PySem.Spec PyProof.Rows L2 SortR LcM
/-- a list of lists of ints, as it stands -/
structure Rw (K : PySem.W.Frag) (H : Hp) (a : Addr) (bs : List (Addr × List Int)) : Prop where
  top : SqL K H a (bs.map fun b => V.ref b.1)
  each : ∀ b ∈ bs, SqL K H b.1 (b.2.map V.int)
theorem Rw.keep {K : PySem.W.Frag} {H H' : Hp} {a : Addr} {bs : List (Addr × List Int)} (r : Rw K H a bs) (s : Grows H H') : Rw K H' a bs := ⟨s.seq r.top, fun b m => s.seq (r.each b m)⟩
theorem Rw.at {K : PySem.W.Frag} {H : Hp} {a : Addr} {bs : List (Addr × List Int)} (r : Rw K H a bs) {i : Nat} (hi : i < bs.length) : SqL K H (bs.getD i (0, [])).1 ((bs.getD i (0, [])).2.map V.int) := by
  rw [List.getD_eq_getElem?_getD, List.getElem?_eq_getElem hi]
  exact r.each _ (List.getElem_mem hi)
theorem snd_at (bs : List (Addr × List Int)) (i : Nat) : (bs.map (·.2)).getD i [] = (bs.getD i (0, [])).2 := by
  rw [List.getD_eq_getElem?_getD, List.getD_eq_getElem?_getD, List.getElem?_map]
  cases bs[i]? <;> rfl
theorem mem_at {bs : List (Addr × List Int)} {i : Nat} (hi : i < bs.length) : (bs.getD i (0, [])).2 ∈ bs.map (·.2) := by
  rw [List.getD_eq_getElem?_getD, List.getElem?_eq_getElem hi]
  exact List.mem_map.mpr ⟨_, List.getElem_mem hi, rfl⟩
theorem none_back {H H' : Hp} {a : Addr} (s : Grows H H') (h : H' a = none) : H a = none := by
  rcases Option.eq_none_or_eq_some (H a) with z | ⟨o, z⟩
  · exact z
  · rw [s _ _ z] at h
    cases h
theorem nw_back {H0 H1 H : Hp} {cs : List (Addr × List Int)} (n : Nw H1 H cs) (s : Grows H0 H1) : Nw H0 H cs := ⟨n.lists, fun c m => none_back s (n.new c m), n.nodup⟩
theorem snd_of {cs : List (Addr × List Int)} {R : Nat → List Int} {n i : Nat} (e : cs.map (·.2) = (List.range n).map R) (hi : i < n) : (cs.getD i (0, [])).2 = R i := by
  rw [← snd_at, e, List.getD_eq_getElem?_getD, List.getElem?_map, List.getElem?_range hi]
  rfl
theorem any_rng (n : Nat) (p : Nat → Bool) : ((List.range n).map p).any id = (List.range n).any p := by
  rw [List.any_map]
  rfl
/-- of the size that may come -/
def Sz (rs : List (List Int)) : Prop := rs.length ≤ 1000 ∧ ∀ r ∈ rs, r.length ≤ 1000
def spAny (K : PySem.W.Frag) : Sp := fun vs H Q _ => ∃ (a : Addr) (bs : List (Addr × List Int)), vs = [.ref a] ∧ Rw K H a bs ∧ Sz (bs.map (·.2)) ∧ (∀ r ∈ bs.map (·.2), ∀ x ∈ r, 0 ≤ x ∧ x ≤ 1000) ∧ ∀ H', Grows H H' → Q (.bl (anyX (bs.map (·.2)))) H'
def spIs (K : PySem.W.Frag) : Sp := fun vs H Q _ => ∃ (a : Addr) (bs : List (Addr × List Int)), vs = [.ref a] ∧ Rw K H a bs ∧ Sz (bs.map (·.2)) ∧ ∀ H', Grows H H' → Q (.bl (isP (bs.map (·.2)))) H'
def spPs (K : PySem.W.Frag) : Sp := fun vs H Q _ => ∃ (a : Addr) (bs : List (Addr × List Int)), vs = [.ref a] ∧ Rw K H a bs ∧ Sz (bs.map (·.2)) ∧ isP (bs.map (·.2)) = true ∧ ∀ H', Grows H H' → Q (.int (bs.length + 1)) H'
section
variable {P : Program} {w : World} {K : PySem.W.Frag} {mg : Str → Option Value} {base : Heap}
theorem scAny : FnScope ["groups", "masks", "group", "one", "other"] ["groups"] (defScope sAny) := ⟨rfl, rfl, rfl, by decide +kernel, rfl, by decide +kernel, by decide +kernel⟩
theorem scParting : FnScope ["thing", "persons", "group"] ["thing"] (defScope sParting) := ⟨rfl, rfl, rfl, by decide +kernel, rfl, by decide +kernel, by decide +kernel⟩
theorem scPersons : FnScope ["parting"] ["parting"] (defScope sPersons) := ⟨rfl, rfl, rfl, by decide +kernel, rfl, by decide +kernel, by decide +kernel⟩
theorem ok_any (Z : ProgF K mg) (T : TxtP mg) : FnOk P w K mg base CX0 2 Z.fAny Z.dAny ["groups"] (spAny K) := by
  have GMask : FnOk P w K mg base CX0 1 Z.fMask Z.dMask ["group"] (spMask K) := ok_mask Z T
  have GCross : FnOk P w K mg base CX0 1 Z.fCross Z.dCross ["one", "other"] spCross := ok_cross Z
  refine Z.FAny.ok scAny (fun vs H Q E h => ?_) (fun cdv A outer s H vs Q E hr h => ?_)
  · obtain ⟨a, bs, rfl, _⟩ := h
    rfl
  · obtain ⟨a, bs, rfl, hB, ⟨hz1, hz2⟩, hx, k⟩ := h
    refine ⟨_, (pss_cons (ps_setLc (i := 1) (own := [("group", 2)]) (g := gName 2) (tt := tYes) rfl scAny.nd rfl rfl (sw_true rfl rfl rfl (by decide +kernel)) (pi_list (pv 0)) (blkOk_by (own := [("group", 2)]) (N := ["groups", "masks", "group", "one", "other"]) (sc := defScope sAny) (by decide +kernel)) (fun _ _ _ _ _ => pg_name (i := 2) scAny.nd rfl (Or.inl rfl)) (fun _ _ _ _ _ => pts_nil) (fun _ _ _ _ _ => (pe_call GMask (hr.mono (by decide)) rfl Z.gMask Z.FMask.kp Z.bMask .nil pass0 (pa_cons (pv 2) pa_nil))))
      (pss_one (ps_ret (pe_callB (cr_any rfl) (by rfl) T.any (by decide +kernel) (pa_cons (pe_lc (own := [("one", 3), ("other", 4)]) (g := gTup K 2 (gCons (gName 3) (gCons (gName 4) gNil))) (tt := tYes) rfl scAny.nd (Comb.pi_comb (by rfl) Z.gComb (pa_cons (pv 1) (pa_cons pe_int pa_nil))) (blkOk_by (own := [("one", 3), ("other", 4)]) (N := ["groups", "masks", "group", "one", "other"]) (sc := defScope sAny) (by decide +kernel)) (fun _ _ _ _ _ => pg_tup rfl (pgs_cons (pg_name (i := 3) scAny.nd rfl (Or.inl rfl)) (pgs_cons (pg_name (i := 4) scAny.nd rfl (Or.inl rfl)) pgs_nil))) (fun _ _ _ _ _ => pts_nil) (fun _ _ _ _ _ => (pe_call GCross (hr.mono (by decide)) rfl Z.gCross Z.FCross.kp Z.bCross .nil pass0 (pa_cons (pv 3) (pa_cons (pv 4) pa_nil))))) pa_nil))))), ?_⟩
    rw [List.length_map] at hz1
    refine ⟨_, rfl, a, rfl, ⟨_, hB.top⟩, fun D hD => lc_listM (K := K) (fun i => V.int (maskI (bs.getD i (0, [])).2)) hD hB.top (by rw [List.length_map]; omega) (fun i x H' R hx' sm kR => ?_) fun H' sm eD => ?_⟩
    · have il := (List.getElem?_eq_some_iff.mp hx').1
      rw [List.length_map] at il
      obtain rfl := at_map (d := (0, [])) hx'
      exact ⟨rfl, _, rfl, _, _, rfl, sm.seq (hB.at il), hz2 _ (mem_at il), hx _ (mem_at il), fun H2 s2 => kR _ s2⟩
    · rw [List.length_map] at eD
      refine ⟨_, rfl, D, _, rfl, SqL.of eD, fun D2 hD2 => lc_combM (xs := (List.range bs.length).map fun i => V.int (maskI (bs.getD i (0, [])).2)) (fun t => V.bl (crossI (maskI (bs.getD ((Comb.prs bs.length).getD t (0, 0)).1 (0, [])).2) (maskI (bs.getD ((Comb.prs bs.length).getD t (0, 0)).2 (0, [])).2))) hD2 (by rw [List.length_map, List.length_range]; exact hz1) (fun t i j x y T H' R ht ex ey sm2 hT kR => ?_) fun H2 sm2 eD2 => ?_⟩
      · rw [List.length_map, List.length_range] at ht
        rw [List.getElem?_map] at ex ey
        have gx : x = .int (maskI (bs.getD i (0, [])).2) := by
          obtain ⟨z, hz, e⟩ := Option.map_eq_some_iff.mp ex
          have e2 := (List.getElem?_eq_some_iff.mp hz)
          obtain ⟨l2, e3⟩ := e2
          rw [List.getElem_range] at e3
          rw [← e, ← e3]
        have gy : y = .int (maskI (bs.getD j (0, [])).2) := by
          obtain ⟨z, hz, e⟩ := Option.map_eq_some_iff.mp ey
          have e2 := (List.getElem?_eq_some_iff.mp hz)
          obtain ⟨l2, e3⟩ := e2
          rw [List.getElem_range] at e3
          rw [← e, ← e3]
        subst gx gy
        have et : (Comb.prs bs.length).getD t (0, 0) = (i, j) := by
          rw [List.getD_eq_getElem?_getD, ht]
          rfl
        rw [et] at kR
        exact ⟨T, _, rfl, SqT.of upd_same, rfl, _, _, rfl, _, _, rfl, rfl, rfl, _, rfl, _, rfl, _, _, rfl, fun H3 s3 => kR _ s3⟩
      · rw [List.length_map, List.length_range] at eD2
        refine ⟨D2, (List.range (Comb.prs bs.length).length).map fun t => crossI (maskI (bs.getD ((Comb.prs bs.length).getD t (0, 0)).1 (0, [])).2) (maskI (bs.getD ((Comb.prs bs.length).getD t (0, 0)).2 (0, [])).2), rfl, SqL.of (by rw [eD2, List.map_map]; rfl), ?_⟩
        rw [any_rng]
        have q := k H2 (sm.trans sm2)
        unfold anyX at q
        simp only [List.length_map, snd_at] at q
        exact q
theorem rows_in {n : Int} {ns : List Int} (h : group n ns = true) (hn : n ≤ 1000) : ∀ x ∈ ns, 0 ≤ x ∧ x ≤ 1000 := by
  unfold group plist at h
  simp only [Bool.and_eq_true] at h
  obtain ⟨⟨h1, _⟩, _⟩ := h
  intro x hx
  obtain ⟨i, hi, e⟩ := List.getElem_of_mem hx
  have q := List.all_eq_true.mp h1 i (List.mem_range.mpr hi)
  simp only [Bool.and_eq_true, decide_eq_true_eq] at q
  rw [List.getD_eq_getElem?_getD, List.getElem?_eq_getElem hi] at q
  have q' : 0 ≤ ns[i] ∧ ns[i] < n := q
  rw [e] at q'
  omega
theorem ok_is (Z : ProgF K mg) (T : TxtP mg) : FnOk P w K mg base CX0 5 Z.fIs Z.dIs ["thing"] (spIs K) := by
  have GGr : FnOk P w K mg base CX0 4 Z.fGr Z.dGr ["thing", "persons"] (spPL K group) := ok_group Z T
  have GAsc : FnOk P w K mg base CX0 1 Z.fAsc Z.dAsc ["items"] (spAscR K) := ok_ascR Z.FAsc T
  have GAny : FnOk P w K mg base CX0 2 Z.fAny Z.dAny ["groups"] (spAny K) := ok_any Z T
  refine Z.FIs.ok scParting (fun vs H Q E h => ?_) (fun cdv A outer s H vs Q E hr h => ?_)
  · obtain ⟨a, bs, rfl, _⟩ := h
    rfl
  · obtain ⟨a, bs, rfl, hB, hz, k⟩ := h
    refine ⟨_, (pss_cons (ps_if (PW.pt (pw_or (pt_not (pt_val (pe_callB call_isi (by rfl) T.isi (by decide +kernel) (pa_cons (pv 0) (pa_cons (pe_bltn (v := .ty "list") (u := .type "list") (by rfl) T.list (by decide +kernel) rfl) pa_nil))))) (pw_or1 (pt_cmpR op_ge (pe_callB call_len_seq (by rfl) T.len (by decide +kernel) (pa_cons (pv 0) pa_nil)) (pe_glob (v := .int 20) rfl Z.gMost ⟨_, rfl⟩) (nomark _))))) (pss_one (ps_ret pe_bl)) pss_nil)
      (pss_cons (ps_set (i := 1) scParting.nd rfl (.inr rfl) (pe_op op_add (pe_callB call_len_seq (by rfl) T.len (by decide +kernel) (pa_cons (pv 0) pa_nil)) pe_int))
      (pss_cons (ps_if (pt_not (pt_val (pe_callB (cr_all rfl) (by rfl) T.all (by decide +kernel) (pa_cons (pe_lc (own := [("group", 2)]) (g := gName 2) (tt := tYes) rfl scParting.nd (pi_list (pv 0)) (blkOk_by (own := [("group", 2)]) (N := ["thing", "persons", "group"]) (sc := defScope sParting) (by decide +kernel)) (fun _ _ _ _ _ => pg_name (i := 2) scParting.nd rfl (Or.inl rfl)) (fun _ _ _ _ _ => pts_nil) (fun _ _ _ _ _ => (pe_call GGr (hr.mono (by decide)) rfl Z.gGr Z.FGr.kp Z.bGr .nil pass0 (pa_cons (pv 2) (pa_cons (pv 1) pa_nil))))) pa_nil)))) (pss_one (ps_ret pe_bl)) pss_nil)
      (pss_one (ps_ret (pe_and (pe_call GAsc (hr.mono (by decide)) rfl Z.gAsc Z.FAsc.kp Z.bAsc .nil pass0 (pa_cons (pv 0) pa_nil)) (pe_one (pe_not (pe_call GAny (hr.mono (by decide)) rfl Z.gAny Z.FAny.kp Z.bAny .nil pass0 (pa_cons (pv 0) pa_nil)))))))))), ?_⟩
    have hz' := hz
    obtain ⟨hz1, hz2⟩ := hz
    rw [List.length_map] at hz1
    refine ⟨_, rfl, _, _, _, _, true, rfl, .ty "list", ty_list hB.top, kit_ty (by decide +kernel), true, rfl, iteF ⟨_, rfl, a, _, rfl, .inl hB.top, _, _, rfl, rfl, _, rfl, ?_⟩⟩
    rw [List.length_map]
    refine ite2 (fun e => ?_) (fun e => ?_)
    · have ge := of_decide_eq_true e
      have q := k H .refl
      unfold isP at q
      rw [List.length_map, decide_eq_false (by omega), Bool.false_and, Bool.false_and, Bool.false_and] at q
      exact q
    · have lt : (bs.length : Int) < 20 := by
        rcases Int.lt_or_le (bs.length : Int) 20 with z | z
        · exact z
        · exact absurd (decide_eq_true z) e
      refine ⟨_, rfl, a, _, rfl, .inl hB.top, _, _, rfl, rfl, ?_⟩
      rw [List.length_map]
      refine ⟨_, rfl, a, rfl, ⟨_, hB.top⟩, fun D hD => lc_listM (K := K) (fun i => V.bl (group (bs.length + 1) (bs.getD i (0, [])).2)) hD hB.top (by rw [List.length_map]; omega) (fun i x H' R hx' sm kR => ?_) fun H' sm eD => ?_⟩
      · have il := (List.getElem?_eq_some_iff.mp hx').1
        rw [List.length_map] at il
        obtain rfl := at_map (d := (0, [])) hx'
        exact ⟨rfl, _, rfl, _, rfl, _, _, _, rfl, sm.seq (hB.at il), hz2 _ (mem_at il), fun H2 s2 => kR _ s2⟩
      · rw [List.length_map] at eD
        refine ⟨D, (List.range bs.length).map fun i => group (bs.length + 1) (bs.getD i (0, [])).2, rfl, SqL.of (by rw [eD, List.map_map]; rfl), ?_⟩
        rw [all_rng]
        refine ⟨_, rfl, ?_⟩
        have val : ∀ H2, Grows H H2 → Q (.bl (((List.range bs.length).all fun i => group (bs.length + 1) (bs.getD i (0, [])).2) && ascR (bs.map (·.2)) && !anyX (bs.map (·.2)))) H2 := fun H2 s2 => by
          have q := k H2 s2
          unfold isP at q
          simp only [List.length_map, snd_at] at q
          rw [decide_eq_true lt, Bool.true_and] at q
          exact q
        by_cases hg : ((List.range bs.length).all fun i => group (bs.length + 1) (bs.getD i (0, [])).2) = true
        · rw [hg] at val ⊢
          refine iteF ⟨_, rfl, a, bs, rfl, (hB.keep sm).top, (hB.keep sm).each, hz1, fun H2 s2 => ⟨_, rfl, ?_⟩⟩
          by_cases ha : ascR (bs.map (·.2)) = true
          · rw [if_pos ha]
            have hx : ∀ r ∈ bs.map (·.2), ∀ x ∈ r, 0 ≤ x ∧ x ≤ 1000 := fun r hr x hx => by
              obtain ⟨i, hi, e⟩ := List.getElem_of_mem hr
              rw [List.length_map] at hi
              have g := List.all_eq_true.mp hg i (List.mem_range.mpr hi)
              have e2 : (bs.getD i (0, [])).2 = r := by
                rw [← snd_at, List.getD_eq_getElem?_getD, List.getElem?_eq_getElem (by rw [List.length_map]; exact hi), e]
                rfl
              rw [e2] at g
              exact rows_in g (by omega) x hx
            refine ⟨_, rfl, a, bs, rfl, (hB.keep sm).keep s2, hz', hx, fun H3 s3 => ⟨_, rfl, ?_⟩⟩
            have q := val H3 ((sm.trans s2).trans s3)
            rw [ha, Bool.true_and, Bool.true_and] at q
            exact q
          · rw [if_neg ha]
            have q := val H2 (sm.trans s2)
            rw [Bool.eq_false_iff.mpr ha, Bool.true_and, Bool.false_and] at q
            exact q
        · have q := val H' sm
          rw [Bool.eq_false_iff.mpr hg] at q ⊢
          rw [Bool.false_and, Bool.false_and] at q
          exact iteT q
theorem ok_persons (Z : ProgF K mg) (T : TxtP mg) : FnOk P w K mg base CX0 6 Z.fPs Z.dPs ["parting"] (spPs K) := by
  have GIs : FnOk P w K mg base CX0 5 Z.fIs Z.dIs ["thing"] (spIs K) := ok_is Z T
  refine Z.FPs.ok scPersons (fun vs H Q E h => ?_) (fun cdv A outer s H vs Q E hr h => ?_)
  · obtain ⟨a, bs, rfl, _⟩ := h
    rfl
  · obtain ⟨a, bs, rfl, hB, hz, hp, k⟩ := h
    refine ⟨_, (pss_cons (ps_if (pt_not (pt_val (pe_call GIs (hr.mono (by decide)) rfl Z.gIs Z.FIs.kp Z.bIs .nil pass0 (pa_cons (pv 0) pa_nil)))) (pss_one ps_never) pss_nil)
      (pss_one (ps_ret (pe_op op_add (pe_callB call_len_seq (by rfl) T.len (by decide +kernel) (pa_cons (pv 0) pa_nil)) pe_int)))), ?_⟩
    refine ⟨_, rfl, a, bs, rfl, hB, hz, fun H2 s2 => ?_⟩
    rw [hp]
    refine ⟨_, rfl, iteF ⟨_, rfl, a, _, rfl, .inl (s2.seq hB.top), _, _, rfl, rfl, ?_⟩⟩
    rw [List.length_map]
    exact k H2 s2
end
end K05

namespace K05
open PySem PySem.Spec PyProof.Rows L2 SortR LcM
abbrev sCut : Stmt := top 19
def valOf : Stmt → Expr
  | .Assign _ v _ => v
  | _ => .Constant .none 0 ⟨0, 0, 0, 0⟩
def lcScope : Expr → Scope
  | .ListComp _ _ s _ => s
  | _ => defScope sCut
abbrev scMeet : Scope := lcScope (valOf ((defBody sCut).getD 2 (.Pass ⟨0, 0, 0, 0⟩)))
section
variable {P : Program} {w : World} {K : PySem.W.Frag} {mg : Str → Option Value} {base : Heap}
theorem scCut : FnScope ["parting", "some", "places", "place", "person", "meetings", "group", "kept", "meeting"] ["parting", "some"] (defScope sCut) := ⟨rfl, rfl, rfl, by decide +kernel, rfl, by decide +kernel, by decide +kernel⟩
def spCut (K : PySem.W.Frag) : Sp := fun vs H Q _ => ∃ (a b : Addr) (bs : List (Addr × List Int)) (ns : List Int), vs = [.ref a, .ref b] ∧ Rw K H a bs ∧ Sz (bs.map (·.2)) ∧ SqL K H b (ns.map V.int) ∧ ns.length ≤ 1000 ∧
  ∀ (p : Addr) (cs : List (Addr × List Int)) (H' : Hp), cs.map (·.2) = cutR (bs.map (·.2)) ns → Grows H H' → H p = none → Nw H H' cs → (∀ c ∈ cs, c.1 ≠ p) → H' p = some (.lst (cs.map fun c => V.ref c.1)) → Q (.ref p) H'
theorem ok_cut {f : Addr} {fd : FuncData} (F : Fun K "cut" "cut" sCut f fd) (T : TxtP mg) : FnOk P w K mg base CX0 1 f fd ["parting", "some"] (spCut K) := by
  refine F.ok scCut (fun vs H Q E h => ?_) (fun cdv A outer s H vs Q E hr h => ?_)
  · obtain ⟨a, b, bs, ns, rfl, _⟩ := h
    rfl
  · obtain ⟨a, b, bs, ns, rfl, hB, ⟨hz1, hz2⟩, hS, hn, k⟩ := h
    have hu := hu_of hr
    rw [List.length_map] at hz1
    refine ⟨_, (pss_cons (ps_set (i := 2) scCut.nd rfl (.inr rfl) (pe_dc (own := [("place", 3), ("person", 4)]) (g := gTup K 2 (gCons (gName 3) (gCons (gName 4) gNil))) (tt := tYes) rfl scCut.nd (pi_enum (by rfl) T.enumerate (pa_cons (pv 1) pa_nil)) (blkOk_by (own := [("place", 3), ("person", 4)]) (N := ["parting", "some", "places", "place", "person", "meetings", "group", "kept", "meeting"]) (sc := defScope sCut) (by decide +kernel)) (fun _ _ _ _ _ => pg_tup rfl (pgs_cons (pg_name (i := 3) scCut.nd rfl (Or.inl rfl)) (pgs_cons (pg_name (i := 4) scCut.nd rfl (Or.inl rfl)) pgs_nil))) (fun _ _ _ _ _ => pts_nil) (fun _ _ _ _ _ => pv 4) (fun _ _ _ _ _ => pv 3)))
      (pss_cons (ps_setLc (i := 5) (own := [("group", 6)]) (g := gName 6) (tt := tYes) rfl scCut.nd rfl rfl (sw_true rfl rfl rfl (by decide +kernel)) (pi_list (pv 0)) (blkOk_by (own := [("group", 6)]) (N := ["parting", "some", "places", "place", "person", "meetings", "group", "kept", "meeting"]) (sc := defScope sCut) (by decide +kernel)) (fun _ _ _ _ _ => pg_name (i := 6) scCut.nd rfl (Or.inl rfl)) (fun _ _ _ _ _ => pts_nil) (fun _ _ _ _ _ => (pe_lc (wi := iList K (tVar 6)) (own := [("person", 4)]) (g := gName 4) rfl scCut.nd (pi_list (pv 6)) (blkOk_by (own := [("person", 4)]) (N := ["parting", "some", "places", "place", "person", "meetings", "group", "kept", "meeting"]) (sc := { kind := .function, names := [(".0", .local), ("group", .local), ("places", .cell)], isGenerator := false, isCoroutine := false }) (by decide +kernel)) (fun _ _ _ _ _ => pg_name (i := 4) scCut.nd rfl (Or.inl rfl)) (fun _ _ _ _ _ => pts_one (pt_cmp (pc_din hu (pv 4) (pv 2)))) (fun _ _ _ _ _ => pe_dget hu (pv 2) (pv 4) (fun _ _ => rfl)))))
      (pss_cons (DcT.ps_setDcT (i := 7) (own := [("meeting", 8)]) (g := gName 8) (by exact hr.units) rfl scCut.nd rfl rfl (DcT.sw_dict rfl rfl rfl (by decide +kernel)) (pi_list (pv 5)) (blkOk_by (own := [("meeting", 8)]) (N := ["parting", "some", "places", "place", "person", "meetings", "group", "kept", "meeting"]) (sc := defScope sCut) (by decide +kernel)) (fun _ _ _ _ _ => pg_name (i := 8) scCut.nd rfl (Or.inl rfl)) (fun _ _ _ _ _ => pts_one (pt_cmpR op_ge (pe_callB (id := "len") (r := rLenS K) (by exact call_lenK) (by rfl) T.len (by decide +kernel) (pa_cons (pv 8) pa_nil)) pe_int (nomark _))) (fun _ _ _ _ _ => pe_callTy (T := "tuple") (r := rTup K) (by exact call_tupK) (by rfl) T.tuple (by decide +kernel) (pa_cons (pv 8) pa_nil)) (fun _ _ _ _ _ => pe_bl))
      (pss_one (ps_ret (pe_lc (own := [("meeting", 8)]) (g := gName 8) (tt := tYes) rfl scCut.nd (pi_list (pe_callB (call_sortedDT hr.units rfl) (by rfl) T.sorted (by decide +kernel) (pa_cons (pv 7) pa_nil))) (blkOk_by (own := [("meeting", 8)]) (N := ["parting", "some", "places", "place", "person", "meetings", "group", "kept", "meeting"]) (sc := defScope sCut) (by decide +kernel)) (fun _ _ _ _ _ => pg_name (i := 8) scCut.nd rfl (Or.inl rfl)) (fun _ _ _ _ _ => pts_nil) (fun _ _ _ _ _ => pe_callTy (T := "list") (r := rLst K) (by exact call_lstK) (by rfl) T.list (by decide +kernel) (pa_cons (pv 8) pa_nil)))))))), ?_⟩
    refine ⟨_, rfl, b, _, rfl, hS, fun D1 hD1 => dc_enumM (K := K) (fun i => Sum.inl (ns.getD i 0)) (fun i => V.int (i : Nat)) hD1 hS (by rw [List.length_map]; omega) (fun i x Tp H' R hx sm hT kR => ?_) fun H1 sm1 eP => ?_⟩
    · obtain rfl := at_map (d := 0) hx
      exact ⟨Tp, _, rfl, SqT.of upd_same, rfl, _, _, rfl, _, _, rfl, rfl, rfl, _, rfl, _, rfl, kR _ _ .refl .refl⟩
    rw [List.length_map] at eP
    have hB1 := hB.keep sm1
    refine ⟨_, rfl, a, rfl, ⟨_, hB1.top⟩, fun D2 hD2 => lc_listR (K := K) (fun i => meet ns (bs.getD i (0, [])).2) hD2 hB1.top (by rw [List.length_map]; omega) (fun i x H' Rk hx sm kR => ?_) fun H2 cs sm2 e2 nw2 apart2 top2 => ?_⟩
    · have il := (List.getElem?_eq_some_iff.mp hx).1
      rw [List.length_map] at il
      obtain rfl := at_map (d := (0, [])) hx
      have hr1 := (hB1.keep sm).at il
      have hrl := hz2 _ (mem_at il)
      generalize (bs.getD i (0, [])).2 = r at hr1 kR hrl
      refine ⟨rfl, _, rfl, _, rfl, ⟨_, hr1⟩, fun D3 hD3 => lc_listT (K := K) (fun j => (plc ns (r.getD j 0)).isSome) (fun j => V.int (((plc ns (r.getD j 0)).getD 0 : Nat) : Int)) hD3 hr1 ?_ (fun j y H2 Ry Rn hy sm2 ky kn => ?_) fun H3 sm3 eD3 => ?_⟩
      · rw [List.length_map]
        omega
      · obtain rfl := at_map (d := 0) hy
        have eP2 := sm2 _ _ (sm _ _ eP)
        have val : valV (laid (fun _ => true) (fun i => (Sum.inl (ns.getD i 0) : L2.Key)) (fun i => V.int (i : Nat)) ns.length) (Sum.inl (r.getD j 0)) = (plc ns (r.getD j 0)).map fun j => V.int (j : Nat) := valV_laid ns (r.getD j 0) ns.length
        refine ⟨rfl, _, rfl, _, rfl, D1, _, rfl, DGet.k (k := Sum.inl (r.getD j 0)) eP2, _, rfl, ?_⟩
        rw [val]
        cases e : plc ns (r.getD j 0) with
        | none =>
          rw [e] at kn
          exact iteF (kn rfl _ .refl)
        | some q =>
          rw [e] at ky
          rw [e] at val
          refine iteT ⟨_, rfl, _, rfl, D1, V.int (q : Nat), rfl, ?_, ky rfl _ .refl⟩
          have g := DGet.k (k := Sum.inl (r.getD j 0)) eP2
          rw [val] at g
          exact g
      · rw [List.length_map] at eD3
        refine kR D3 H3 sm3 hD3 ?_
        rw [eD3]
        unfold kept meet
        rw [List.map_map]
        rfl
    rw [List.length_map] at e2
    have csl : cs.length = bs.length := by
      have z := congrArg List.length e2
      rw [List.length_map, List.length_map, List.length_range] at z
      exact z
    refine ⟨_, rfl, D2, rfl, ⟨_, SqL.of top2⟩, fun D4 hD4 => dc_listTT (K := K) (fun i => two (meet ns (bs.getD i (0, [])).2)) (fun i => (meet ns (bs.getD i (0, [])).2).map Sum.inl) (fun _ => V.bl true) hD4 (SqL.of top2) (by rw [List.length_map]; omega) (fun i x H' R Rn hx sm kR kn => ?_) fun H3 sm3 eK => ?_⟩
    · have il := (List.getElem?_eq_some_iff.mp hx).1
      rw [List.length_map, csl] at il
      obtain rfl := at_map (d := (0, [])) hx
      have mem : cs.getD i (0, []) ∈ cs := by
        rw [List.getD_eq_getElem?_getD, List.getElem?_eq_getElem (by rw [csl]; exact il)]
        exact List.getElem_mem _
      have at_c := sm _ _ (nw2.lists _ mem)
      rw [snd_of e2 il] at at_c
      refine ⟨rfl, _, rfl, _, _, rfl, .inl (SqL.of at_c), _, _, rfl, rfl, _, rfl, ?_⟩
      rw [List.length_map]
      show if two (meet ns (bs.getD i (0, [])).2) = true then _ else _
      by_cases h2 : two (meet ns (bs.getD i (0, [])).2) = true
      · rw [if_pos h2]
        refine ⟨_, rfl, _, _, rfl, SqL.of at_c, fun t ht => kR h2 t _ (Grows.new ht) ?_⟩
        rw [upd_same, List.map_map]
        rfl
      · rw [if_neg h2]
        exact kn (Bool.eq_false_iff.mpr h2) _ .refl
    rw [List.length_map, csl] at eK
    refine ⟨_, rfl, D4, _, firsts (fun i => two (meet ns (bs.getD i (0, [])).2)) (fun i => meet ns (bs.getD i (0, [])).2) bs.length, rfl, eK, keys_laid _ _ _ _, fun q hq => ?_, fun as eas has q hq => ?_⟩
    · obtain ⟨i, _, h2, rfl⟩ := firsts_of _ _ _ q hq
      intro z
      unfold two at h2
      rw [z] at h2
      cases h2
    refine ⟨q, rfl, ⟨_, SqL.of upd_same⟩, fun D5 hD5 => lc_listR (K := K) (fun i => ((as.mergeSort rowLe).getD i (0, [])).2) hD5 (SqL.of upd_same) ?_ (fun i x H' Rk hx sm kR => ?_) fun H5 cs5 sm5 e5 nw5 apart5 top5 => ?_⟩
    · rw [List.length_map, List.length_mergeSort]
      have z := congrArg List.length eas
      rw [List.length_map] at z
      rw [z]
      have := firsts_le (fun i => two (meet ns (bs.getD i (0, [])).2)) (fun i => meet ns (bs.getD i (0, [])).2) bs.length
      omega
    · have il := (List.getElem?_eq_some_iff.mp hx).1
      rw [List.length_map] at il
      obtain rfl := at_map (d := (0, [])) hx
      have mem : (as.mergeSort rowLe).getD i (0, []) ∈ as := by
        rw [List.getD_eq_getElem?_getD, List.getElem?_eq_getElem il]
        exact List.mem_mergeSort.mp (List.getElem_mem il)
      have at_t := sm _ _ (Grows.new hq _ _ (has _ mem))
      exact ⟨rfl, _, rfl, _, _, rfl, .inr (SqT.of at_t), fun l hl => kR l _ (Grows.new hl) hl upd_same⟩
    · have g2 : Grows H H2 := sm1.trans sm2
      have g3 : Grows H H3 := g2.trans sm3
      have g4 : Grows H (upd H3 q (.lst ((as.mergeSort rowLe).map fun b => V.ref b.1))) := g3.trans (Grows.new hq)
      refine k D5 cs5 H5 ?_ (g4.trans sm5) (none_back g4 hD5) (nw_back nw5 g4) apart5 top5
      rw [e5, List.length_map]
      have er : (List.range (as.mergeSort rowLe).length).map (fun i => ((as.mergeSort rowLe).getD i (0, [])).2) = (as.mergeSort rowLe).map (·.2) := by
        refine List.ext_getElem (by rw [List.length_map, List.length_map, List.length_range]) fun j j1 j2 => ?_
        rw [List.length_map] at j2
        rw [List.getElem_map, List.getElem_map, List.getElem_range, List.getD_eq_getElem?_getD, List.getElem?_eq_getElem j2]
        rfl
      rw [er, sort_rows, eas]
      unfold cutR
      simp only [List.length_map, snd_at]
end
end K05

namespace K05
open PySem PySem.Spec PyProof.Rows L2 SortR LcM
abbrev sFolk : Stmt := top 32
/-- two halves, each of them parted again -/
inductive Nest where
  | leaf (i : Int)
  | node (l r : Nest)
def Nest.ht : Nest → Nat
  | .leaf _ => 0
  | .node l r => max l.ht r.ht + 1
def Nest.sz : Nest → Nat
  | .leaf _ => 1
  | .node l r => l.sz + r.sz
/-- all persons of it -/
def Nest.folk : Nest → List Int
  | .leaf i => [i]
  | .node l r => (l.folk ++ r.folk).mergeSort intLe
theorem Nest.folk_len : ∀ t : Nest, t.folk.length = t.sz
  | .leaf _ => rfl
  | .node l r => by
    show ((l.folk ++ r.folk).mergeSort intLe).length = l.sz + r.sz
    rw [List.length_mergeSort, List.length_append, Nest.folk_len l, Nest.folk_len r]
/-- a nest as it stands -/
inductive NV (K : PySem.W.Frag) (H : Hp) : V → Nest → Prop
  | leaf (i : Int) : NV K H (.int i) (.leaf i)
  | node {t : Addr} {x y : V} {l r : Nest} : H t = some (.tup [x, y]) → NV K H x l → NV K H y r → NV K H (.ref t) (.node l r)
theorem NV.keep {K : PySem.W.Frag} {H H' : Hp} {x : V} {t : Nest} (n : NV K H x t) (s : Grows H H') : NV K H' x t := by
  induction n with
  | leaf i => exact .leaf i
  | node h _ _ a b => exact .node (s _ _ h) a b
def spNo : Sp := fun _ _ _ _ => False
def spFolk (K : PySem.W.Frag) (d : Nat) : Sp := fun vs H Q _ => ∃ (x : V) (t : Nest), vs = [x] ∧ NV K H x t ∧ t.ht ≤ d ∧ t.sz ≤ 600000 ∧ ∀ (p : Addr) (H' : Hp), Grows H H' → H p = none → H' p = some (.lst (t.folk.map V.int)) → Q (.ref p) H'
section
variable {P : Program} {w : World} {K : PySem.W.Frag} {mg : Str → Option Value} {base : Heap}
theorem fn_no {f : Addr} {fd : FuncData} {ps : List Str} : FnOk P w K mg base CX0 1 f fd ps spNo := ⟨fun _ _ _ _ h => h.elim, fun _ _ _ _ _ _ _ _ _ _ _ _ _ h => h.elim⟩
theorem scFolk : FnScope ["nest"] ["nest"] (defScope sFolk) := ⟨rfl, rfl, rfl, by decide +kernel, rfl, by decide +kernel, by decide +kernel⟩
theorem folk_body {k d : Nat} {sp0 : Sp} {f : Addr} {fd : FuncData} (F : Fun K "_law_folk" "_law_folk" sFolk f fd) (T : TxtP mg) (gFolk : mg "_law_folk" = some (.ref f)) (bF : Binds K fd ["nest"] []) (G0 : FnOk P w K mg base CX0 k f fd ["nest"] sp0)
    (inner : ∀ (x : V) (t : Nest) (H : Hp) (Q : VK) (E : XK), NV K H x t → t.ht < d → t.sz ≤ 600000 → (∀ (p : Addr) (H' : Hp), Grows H H' → H p = none → H' p = some (.lst (t.folk.map V.int)) → Q (.ref p) H') → sp0 [x] H Q E) :
    FnOk P w K mg base CX0 (k + 1) f fd ["nest"] (spFolk K d) := by
  refine F.ok scFolk (fun vs H Q E h => ?_) (fun cdv A outer s H vs Q E hr h => ?_)
  · obtain ⟨x, t, rfl, _⟩ := h
    rfl
  · obtain ⟨x, t, rfl, nv, ht, hz, kq⟩ := h
    refine ⟨_, (pss_one (ps_ret (pe_ifExp (pt_val (pe_callB call_isi (by rfl) T.isi (by decide +kernel) (pa_cons (pv 0) (pa_cons (pe_bltn (v := .ty "int") (u := .type "int") (by rfl) T.int (by decide +kernel) rfl) pa_nil)))) (pe_lst (pa_cons (pv 0) pa_nil)) (pe_callB (call_sortedInts hr.units) (by rfl) T.sorted (by decide +kernel) (pa_cons (pe_op op_cat (pe_call G0 hr rfl gFolk F.kp bF .nil pass0 (pa_cons (pe_ix (r := rIxT K) ix_tup (pv 0) pe_int (fun _ _ => rfl)) pa_nil)) (pe_call G0 hr rfl gFolk F.kp bF .nil pass0 (pa_cons (pe_ix (r := rIxT K) ix_tup (pv 0) pe_int (fun _ _ => rfl)) pa_nil))) pa_nil))))), ?_⟩
    cases nv with
    | leaf i =>
      refine ⟨_, rfl, _, _, _, _, true, rfl, .ty "int", .base (.int i), kit_ty (by decide +kernel), true, rfl, iteT ⟨_, rfl, (by show 1 ≤ sizeLine; decide), fun l hl => ?_⟩⟩
      exact kq l _ (Grows.new hl) hl upd_same
    | @node t x y l r at_t nl nr =>
      have hlz : l.sz + r.sz ≤ 600000 := hz
      have hlh : max l.ht r.ht + 1 ≤ d := ht
      refine ⟨_, rfl, _, _, _, _, false, rfl, .ty "int", .base (.tup at_t), kit_ty (by decide +kernel), false, rfl, iteF ?_⟩
      refine ⟨_, rfl, t, _, 0, x, rfl, rfl, SqT.of at_t, rfl, inner x l H _ _ nl (by omega) (by omega) fun p1 H1 s1 n1 e1 => ?_⟩
      refine ⟨_, rfl, t, _, 1, y, rfl, rfl, SqT.of (s1 _ _ at_t), rfl, inner y r H1 _ _ (nr.keep s1) (by omega) (by omega) fun p2 H2 s2 n2 e2 => ?_⟩
      have len : (l.folk.map V.int).length + (r.folk.map V.int).length ≤ sizeLine := by
        rw [List.length_map, List.length_map, Nest.folk_len, Nest.folk_len]
        exact Nat.le_trans hlz (by decide)
      refine ⟨p1, p2, _, _, rfl, rfl, s2 _ _ e1, e2, len, fun p3 n3 => ⟨p3, l.folk ++ r.folk, rfl, SqL.of (by rw [upd_same, List.map_append]), fun p4 n4 => ?_⟩⟩
      have s12 := s1.trans s2
      have s3 := s12.trans (Grows.new (o := .lst (l.folk.map V.int ++ r.folk.map V.int)) n3)
      exact kq p4 _ (s3.trans (Grows.new n4)) (none_back s3 n4) upd_same
theorem ok_folk {f : Addr} {fd : FuncData} (F : Fun K "_law_folk" "_law_folk" sFolk f fd) (T : TxtP mg) (gFolk : mg "_law_folk" = some (.ref f)) (bF : Binds K fd ["nest"] []) : ∀ d, FnOk P w K mg base CX0 (d + 2) f fd ["nest"] (spFolk K d)
  | 0 => folk_body F T gFolk bF (fn_no (f := f) (fd := fd)) fun _ _ _ _ _ _ h _ _ => absurd h (Nat.not_lt_zero _)
  | d + 1 => folk_body F T gFolk bF (ok_folk F T gFolk bF d) fun x t H Q E nv h hz kq => ⟨x, t, rfl, nv, Nat.le_of_lt_succ h, hz, kq⟩
end
end K05

namespace K05
open PySem PySem.Spec PyProof.Rows L2 SortR LcM
abbrev sPut : Stmt := top 33
/-- the least person -/
def Nest.mn : Nest → Int
  | .leaf i => i
  | .node l r => min l.mn r.mn
theorem Nest.mn_ok : ∀ t : Nest, t.mn ∈ t.folk ∧ ∀ y ∈ t.folk, t.mn ≤ y
  | .leaf i => ⟨List.mem_singleton.mpr rfl, fun y h => by rw [List.mem_singleton.mp h]; exact Int.le_refl _⟩
  | .node l r => by
    obtain ⟨l1, l2⟩ := Nest.mn_ok l
    obtain ⟨r1, r2⟩ := Nest.mn_ok r
    have mem : ∀ y, y ∈ (Nest.node l r).folk ↔ y ∈ l.folk ∨ y ∈ r.folk := fun y => List.mem_mergeSort.trans List.mem_append
    refine ⟨(mem _).mpr ?_, fun y hy => ?_⟩
    · show min l.mn r.mn ∈ l.folk ∨ min l.mn r.mn ∈ r.folk
      rcases Int.le_total l.mn r.mn with h | h
      · rw [Int.min_eq_left h]
        exact .inl l1
      · rw [Int.min_eq_right h]
        exact .inr r1
    · show min l.mn r.mn ≤ y
      rcases (mem y).mp hy with h | h
      · have := l2 y h
        omega
      · have := r2 y h
        omega
theorem Nest.mn_eq {t : Nest} {m : Int} (h : m ∈ t.folk) (k : ∀ y ∈ t.folk, m ≤ y) : m = t.mn := by
  obtain ⟨a, b⟩ := t.mn_ok
  exact Int.le_antisymm (k _ a) (b _ h)
/-- with a newcomer, beside a person or around the group with a maker -/
def Nest.put (item fresh : Int) : Nest → Nest
  | .leaf i => if i = item then .node (.leaf i) (.leaf fresh) else .leaf i
  | .node l r => if max l.mn r.mn = 0 - item then .node (.node l r) (.leaf fresh) else .node (l.put item fresh) (r.put item fresh)
def spPut (K : PySem.W.Frag) (d : Nat) : Sp := fun vs H Q _ => ∃ (x : V) (item fresh : Int) (t : Nest), vs = [x, .int item, .int fresh] ∧ NV K H x t ∧ t.ht ≤ d ∧ t.sz ≤ 600000 ∧ ∀ (y : V) (H' : Hp), Grows H H' → NV K H' y (t.put item fresh) → Q y H'
theorem NV.free {K : PySem.W.Frag} {H : Hp} {x : V} {t : Nest} (n : NV K H x t) {D : Addr} {zs : List V} (h : H D = some (.lst zs)) (u : HO) : NV K (upd H D u) x t := by
  induction n with
  | leaf i => exact .leaf i
  | node e _ _ a b =>
    refine .node ?_ a b
    rw [upd_ne (ne_of e h fun z => nomatch z)]
    exact e
section
variable {P : Program} {w : World} {K : PySem.W.Frag} {mg : Str → Option Value} {base : Heap}
theorem scPut : FnScope ["nest", "item", "fresh", "half"] ["nest", "item", "fresh"] (defScope sPut) := ⟨rfl, rfl, rfl, by decide +kernel, rfl, by decide +kernel, by decide +kernel⟩
theorem put_body {k d : Nat} {sp0 : Sp} {f fF : Addr} {fd dF : FuncData} (F : Fun K "_law_put" "_law_put" sPut f fd) (T : TxtP mg) (T0 : Txt0 mg) (gPut : mg "_law_put" = some (.ref f)) (bF : Binds K fd ["nest", "item", "fresh"] []) (FF : Fun K "_law_folk" "_law_folk" sFolk fF dF) (gFolk : mg "_law_folk" = some (.ref fF)) (bFF : Binds K dF ["nest"] [])
    (hk : d + 2 ≤ k) (G0 : FnOk P w K mg base CX0 k f fd ["nest", "item", "fresh"] sp0)
    (inner : ∀ (x : V) (item fresh : Int) (t : Nest) (H : Hp) (Q : VK) (E : XK), NV K H x t → t.ht < d → t.sz ≤ 600000 → (∀ (y : V) (H' : Hp), Grows H H' → NV K H' y (t.put item fresh) → Q y H') → sp0 [x, .int item, .int fresh] H Q E) :
    FnOk P w K mg base CX0 (k + 1) f fd ["nest", "item", "fresh"] (spPut K d) := by
  have GF : FnOk P w K mg base CX0 (d + 2) fF dF ["nest"] (spFolk K d) := ok_folk FF T gFolk bFF d
  refine F.ok scPut (fun vs H Q E h => ?_) (fun cdv A outer s H vs Q E hr h => ?_)
  · obtain ⟨x, i, j, t, rfl, _⟩ := h
    rfl
  · obtain ⟨x, item, fresh, t, rfl, nv, ht, hz, kq⟩ := h
    refine ⟨_, (pss_cons (ps_if (pt_val (pe_callB call_isi (by rfl) T.isi (by decide +kernel) (pa_cons (pv 0) (pa_cons (pe_bltn (v := .ty "int") (u := .type "int") (by rfl) T.int (by decide +kernel) rfl) pa_nil)))) (pss_one (ps_ret (pe_ifExp (pt_cmpR op_eq (pv 0) (pv 1) (nomark _)) (pe_tup (pa_cons (pv 0) (pa_cons (pv 2) pa_nil))) (pv 0)))) pss_nil)
      (pss_cons (ps_if (pt_cmpR op_eq (pe_callB (cr_max rfl) (by rfl) T0.max (by decide +kernel) (pa_cons (pe_lc (own := [("half", 3)]) (g := gName 3) (tt := tYes) rfl scPut.nd (pi_tup (pv 0)) (blkOk_by (own := [("half", 3)]) (N := ["nest", "item", "fresh", "half"]) (sc := defScope sPut) (by decide +kernel)) (fun _ _ _ _ _ => pg_name (i := 3) scPut.nd rfl (Or.inl rfl)) (fun _ _ _ _ _ => pts_nil) (fun _ _ _ _ _ => (pe_callB (id := "min") (r := rMin K) (by exact cr_min rfl) (by rfl) T0.min (by decide +kernel) (pa_cons (pe_call GF (hr.mono hk) rfl gFolk FF.kp bFF .nil pass0 (pa_cons (pv 3) pa_nil)) pa_nil)))) pa_nil)) (pe_op op_sub pe_int (pv 1)) (nomark _)) (pss_one (ps_ret (pe_tup (pa_cons (pv 0) (pa_cons (pv 2) pa_nil))))) pss_nil)
      (pss_one (ps_ret (pe_callTy call_tuple_of (by rfl) T.tuple (by decide +kernel) (pa_cons (pe_lc (own := [("half", 3)]) (g := gName 3) (tt := tYes) rfl scPut.nd (pi_tup (pv 0)) (blkOk_by (own := [("half", 3)]) (N := ["nest", "item", "fresh", "half"]) (sc := defScope sPut) (by decide +kernel)) (fun _ _ _ _ _ => pg_name (i := 3) scPut.nd rfl (Or.inl rfl)) (fun _ _ _ _ _ => pts_nil) (fun _ _ _ _ _ => (pe_call G0 hr rfl gPut F.kp bF .nil pass0 (pa_cons (pv 3) (pa_cons (pv 1) (pa_cons (pv 2) pa_nil)))))) pa_nil)))))), ?_⟩
    cases nv with
    | leaf i =>
      refine ⟨_, rfl, _, _, _, _, true, rfl, .ty "int", .base (.int i), kit_ty (by decide +kernel), true, rfl, iteT ⟨_, rfl, _, rfl, rfl, _, rfl, ?_⟩⟩
      refine ite2 (fun e => ?_) (fun e => ?_)
      · have e' : i = item := by simpa using e
        refine ⟨_, rfl, _, rfl, (by show 2 ≤ sizeLine; decide), fun t ht => kq (.ref t) _ (Grows.new ht) ?_⟩
        show NV K _ _ (if i = item then _ else _)
        rw [if_pos e']
        exact .node upd_same (.leaf i) (.leaf fresh)
      · have e' : ¬ i = item := by simpa using e
        refine ⟨_, rfl, kq (.int i) H .refl ?_⟩
        show NV K _ _ (if i = item then _ else _)
        rw [if_neg e']
        exact .leaf i
    | @node t x y l r at_t nl nr =>
      have hlz : l.sz + r.sz ≤ 600000 := hz
      have hlh : max l.ht r.ht + 1 ≤ d := ht
      let hv : Nat → Nest := fun j => if j = 0 then l else r
      have half : ∀ (i : Nat) (z : V) (H' : Hp), [x, y][i]? = some z → Grows H H' → NV K H' z (hv i) ∧ (hv i).ht < d ∧ (hv i).sz ≤ 600000 := fun i z H' e s => by
        match i, e with
        | 0, e =>
          obtain rfl : x = z := Option.some.inj e
          exact ⟨nl.keep s, (show l.ht < d by omega), (show l.sz ≤ 600000 by omega)⟩
        | 1, e =>
          obtain rfl : y = z := Option.some.inj e
          exact ⟨nr.keep s, (show r.ht < d by omega), (show r.sz ≤ 600000 by omega)⟩
      refine ⟨_, rfl, _, _, _, _, false, rfl, .ty "int", .base (.tup at_t), kit_ty (by decide +kernel), false, rfl, iteF ?_⟩
      refine ⟨_, rfl, t, rfl, ⟨_, SqT.of at_t⟩, fun D hD => lc_tupX (K := K) (fun j z _ => z = .int (hv j).mn) (fun _ _ _ _ _ h => h) (fun _ _ _ _ h _ _ => h) hD (SqT.of at_t) (by show 2 ≤ 1000000; decide) (fun i z H' Rk ez sm _ kR => ?_) fun H1 ys m => ?_⟩
      · obtain ⟨n1, n2, n3⟩ := half i z H' ez sm
        refine ⟨rfl, _, rfl, z, hv i, rfl, n1, Nat.le_of_lt n2, n3, fun p H2 s2 _ e2 => ⟨p, (hv i).folk, rfl, SqL.of e2, ?_, fun m hm hle => kR (.int m) H2 s2 (by rw [Nest.mn_eq hm hle])⟩⟩
        exact List.length_pos_of_mem (hv i).mn_ok.1
      · have two : ys = [.int l.mn, .int r.mn] := by
          have len : ys.length = 2 := m.len
          match ys, len, m.rel with
          | [u, v], _, rel =>
            have a := rel 0 u rfl
            have b := rel 1 v rfl
            rw [a, b]
            rfl
        have top := m.top
        rw [two] at top
        refine ⟨D, [l.mn, r.mn], rfl, SqL.of top, (by show 0 < 2; decide), fun mx hmx hge => ⟨_, rfl, _, _, rfl, rfl, rfl, _, rfl, ?_⟩⟩
        have emx : mx = max l.mn r.mn := by
          have g1 := hge l.mn (List.mem_cons_self)
          have g2 := hge r.mn (List.mem_cons_of_mem _ List.mem_cons_self)
          have g3 : mx = l.mn ∨ mx = r.mn := by simpa using hmx
          omega
        have s1 := m.grow
        refine ite2 (fun e => ?_) (fun e => ?_)
        · have e' : max l.mn r.mn = 0 - item := by
            rw [← emx]
            simpa using e
          refine ⟨_, rfl, _, rfl, (by show 2 ≤ sizeLine; decide), fun q hq => kq (.ref q) _ (s1.trans (Grows.new hq)) ?_⟩
          show NV K _ _ (if max l.mn r.mn = 0 - item then _ else _)
          rw [if_pos e']
          have s2 : Grows H (upd H1 q (.tup [.ref t, .int fresh])) := s1.trans (Grows.new hq)
          exact .node upd_same (.node (s2 _ _ at_t) (nl.keep s2) (nr.keep s2)) (.leaf fresh)
        · have e' : ¬ max l.mn r.mn = 0 - item := by
            rw [← emx]
            simpa using e
          refine ⟨_, rfl, t, rfl, ⟨_, SqT.of (s1 _ _ at_t)⟩, fun D2 hD2 => lc_tupX (K := K) (fun j z G => NV K G z ((hv j).put item fresh)) (fun _ _ _ _ s h => h.keep s) (fun _ _ _ _ h e u => h.free e u) hD2 (SqT.of (s1 _ _ at_t)) (by show 2 ≤ 1000000; decide) (fun i z H' Rk ez sm _ kR => ?_) fun H2 ys2 m2 => ?_⟩
          · obtain ⟨n1, n2, n3⟩ := half i z H' ez (s1.trans sm)
            exact ⟨rfl, _, rfl, _, rfl, _, rfl, inner z item fresh (hv i) H' _ _ n1 n2 n3 fun y' H3 s3 nv3 => kR y' H3 s3 nv3⟩
          · have len2 : ys2.length = 2 := m2.len
            refine ⟨D2, ys2, rfl, .inl ⟨SqL.of m2.top, fun q hq => kq (.ref q) _ ((s1.trans m2.grow).trans (Grows.new hq)) ?_⟩⟩
            show NV K _ _ (if max l.mn r.mn = 0 - item then _ else _)
            rw [if_neg e']
            match ys2, len2, m2.rel, hq with
            | [u, v], _, rel, hq => exact .node upd_same ((rel 0 u rfl).keep (Grows.new hq)) ((rel 1 v rfl).keep (Grows.new hq))
theorem ok_put {f fF : Addr} {fd dF : FuncData} (F : Fun K "_law_put" "_law_put" sPut f fd) (T : TxtP mg) (T0 : Txt0 mg) (gPut : mg "_law_put" = some (.ref f)) (bF : Binds K fd ["nest", "item", "fresh"] []) (FF : Fun K "_law_folk" "_law_folk" sFolk fF dF) (gFolk : mg "_law_folk" = some (.ref fF)) (bFF : Binds K dF ["nest"] []) : ∀ d, FnOk P w K mg base CX0 (d + 3) f fd ["nest", "item", "fresh"] (spPut K d)
  | 0 => put_body F T T0 gPut bF FF gFolk bFF (Nat.le_refl _) ((fn_no (f := f) (fd := fd)).mono (by decide)) fun _ _ _ _ _ _ _ _ h _ _ => absurd h (Nat.not_lt_zero _)
  | d + 1 => put_body F T T0 gPut bF FF gFolk bFF (Nat.le_refl _) (ok_put F T T0 gPut bF FF gFolk bFF d) fun x i j t H Q E nv h hz kq => ⟨x, i, j, t, rfl, nv, Nat.le_of_lt_succ h, hz, kq⟩
end
end K05

namespace K05
open PySem PySem.Spec PyProof.Rows L2 SortR LcM
abbrev sNest : Stmt := top 34
abbrev sLots : Stmt := top 35
theorem Nest.put_ht (i j : Int) : ∀ t : Nest, (t.put i j).ht ≤ t.ht + 1
  | .leaf k => by
    unfold Nest.put
    split
    · show max (0 : Nat) 0 + 1 ≤ 0 + 1
      omega
    · exact Nat.zero_le _
  | .node l r => by
    have a := Nest.put_ht i j l
    have b := Nest.put_ht i j r
    unfold Nest.put
    split
    · show max (max l.ht r.ht + 1) 0 + 1 ≤ max l.ht r.ht + 1 + 1
      omega
    · show max (l.put i j).ht (r.put i j).ht + 1 ≤ max l.ht r.ht + 1 + 1
      omega
theorem Nest.sz_pos : ∀ t : Nest, 1 ≤ t.sz
  | .leaf _ => Nat.le_refl _
  | .node l r => by
    have := Nest.sz_pos l
    show 1 ≤ l.sz + r.sz
    omega
theorem Nest.put_sz (i j : Int) : ∀ t : Nest, (t.put i j).sz ≤ 2 * t.sz
  | .leaf k => by
    unfold Nest.put
    split
    · exact Nat.le_refl _
    · show 1 ≤ 2 * 1
      decide
  | .node l r => by
    have a := Nest.put_sz i j l
    have b := Nest.put_sz i j r
    have c := Nest.sz_pos l
    have d := Nest.sz_pos r
    unfold Nest.put
    split
    · show l.sz + r.sz + 1 ≤ 2 * (l.sz + r.sz)
      omega
    · show (l.put i j).sz + (r.put i j).sz ≤ 2 * (l.sz + r.sz)
      omega
/-- the first n newcomers come -/
def nestN (is : List Int) : Nat → Nest
  | 0 => .leaf 0
  | n + 1 => (nestN is n).put (is.getD n 0) (n + 1)
theorem nestN_ht (is : List Int) : ∀ n, (nestN is n).ht ≤ n
  | 0 => Nat.le_refl _
  | n + 1 => Nat.le_trans (Nest.put_ht _ _ _) (Nat.succ_le_succ (nestN_ht is n))
theorem nestN_sz (is : List Int) : ∀ n, (nestN is n).sz ≤ 2 ^ n
  | 0 => Nat.le_refl _
  | n + 1 => by
    have := nestN_sz is n
    have := Nest.put_sz (is.getD n 0) (n + 1) (nestN is n)
    show ((nestN is n).put (is.getD n 0) (n + 1)).sz ≤ 2 ^ (n + 1)
    rw [Nat.pow_succ]
    omega
def spNest (K : PySem.W.Frag) : Sp := fun vs H Q _ => ∃ (a : Addr) (is : List Int), vs = [.ref a] ∧ SqL K H a (is.map V.int) ∧ is.length ≤ 19 ∧ ∀ (y : V) (H' : Hp), Grows H H' → NV K H' y (nestN is is.length) → Q y H'
/-- all groups of two persons or more -/
def Nest.lots : Nest → List (List Int)
  | .leaf _ => []
  | .node l r => ((Nest.node l r).folk :: (l.lots ++ r.lots)).mergeSort fun p q => decide (p ≤ q)
theorem Nest.lots_len : ∀ t : Nest, t.lots.length + 1 = t.sz
  | .leaf _ => rfl
  | .node l r => by
    have a := Nest.lots_len l
    have b := Nest.lots_len r
    show (((Nest.node l r).folk :: (l.lots ++ r.lots)).mergeSort _).length + 1 = l.sz + r.sz
    rw [List.length_mergeSort, List.length_cons, List.length_append]
    omega
def spLots (K : PySem.W.Frag) (d : Nat) : Sp := fun vs H Q _ => ∃ (x : V) (t : Nest), vs = [x] ∧ NV K H x t ∧ t.ht ≤ d ∧ t.sz ≤ 600000 ∧
  ∀ (p : Addr) (cs : List (Addr × List Int)) (H' : Hp), cs.map (·.2) = t.lots → Grows H H' → H p = none → Nw H H' cs → (∀ c ∈ cs, c.1 ≠ p) → H' p = some (.lst (cs.map fun c => V.ref c.1)) → Q (.ref p) H'
section
variable {P : Program} {w : World} {K : PySem.W.Frag} {mg : Str → Option Value} {base : Heap}
theorem scNest : FnScope ["items", "nest", "spot", "item"] ["items"] (defScope sNest) := ⟨rfl, rfl, rfl, by decide +kernel, rfl, by decide +kernel, by decide +kernel⟩
theorem scLots : FnScope ["nest"] ["nest"] (defScope sLots) := ⟨rfl, rfl, rfl, by decide +kernel, rfl, by decide +kernel, by decide +kernel⟩
theorem ok_nest {f fP : Addr} {fd dP : FuncData} (F : Fun K "_law_nest" "_law_nest" sNest f fd) (T : TxtP mg) (gPut : mg "_law_put" = some (.ref fP)) (FP : Fun K "_law_put" "_law_put" sPut fP dP) (bFP : Binds K dP ["nest", "item", "fresh"] [])
    (GP : FnOk P w K mg base CX0 22 fP dP ["nest", "item", "fresh"] (spPut K 19)) : FnOk P w K mg base CX0 23 f fd ["items"] (spNest K) := by
  refine F.ok scNest (fun vs H Q E h => ?_) (fun cdv A outer s H vs Q E hr h => ?_)
  · obtain ⟨a, is, rfl, _⟩ := h
    rfl
  · obtain ⟨a, is, rfl, hS, hn, kq⟩ := h
    refine ⟨_, (pss_cons (ps_set (i := 1) scNest.nd rfl (.inl rfl) pe_int)
      (pss_cons (ps_for PassesOwn.never rfl (pi_enum (by rfl) T.enumerate (pa_cons (pv 0) pa_nil)) (pg_tup (by rfl) (pgs_cons (pg_name (i := 2) scNest.nd rfl (.inl rfl)) (pgs_cons (pg_name (i := 3) scNest.nd rfl (.inl rfl)) pgs_nil)))
      (pss_one (ps_set (i := 1) scNest.nd rfl (.inl rfl) (pe_call GP (hr.mono (by decide)) rfl gPut FP.kp bFP .nil pass0 (pa_cons (pv 1) (pa_cons (pv 3) (pa_cons (pe_op op_add (pv 2) pe_int) pa_nil)))))))
      (pss_one (ps_ret (pv 1))))), ?_⟩
    refine ⟨_, rfl, a, _, rfl, hS, for_enumL (K := K) (xs := is.map V.int) (fun i σ H' => ∃ (y : V) (o1 o2 : Option V), σ = [some (.ref a), some y, o1, o2] ∧ Grows H H' ∧ NV K H' y (nestN is i)) ⟨.int 0, none, none, rfl, .refl, .leaf 0⟩ (fun i σ H' ⟨_, _, _, _, s, _⟩ => s.seq hS) (fun i x Tp σ H' hx ⟨y, o1, o2, e, s, nv⟩ hT => ?_) fun σ H' ⟨y, o1, o2, e, s, nv⟩ => ?_⟩
    · subst e
      have il := (List.getElem?_eq_some_iff.mp hx).1
      rw [List.length_map] at il
      obtain rfl := at_map (d := 0) hx
      have h1 := nestN_ht is i
      have h2 := nestN_sz is i
      have h3 : (2 : Nat) ^ i ≤ 2 ^ 19 := Nat.pow_le_pow_right (by decide) (by omega)
      have h4 : (2 : Nat) ^ 19 = 524288 := by decide
      refine ⟨Tp, _, rfl, SqT.of upd_same, rfl, _, _, rfl, _, _, rfl, rfl, _, rfl, _, rfl, _, rfl, _, _, rfl, rfl, y, _, _, nestN is i, rfl, nv.keep (Grows.new hT), by omega, by omega, fun z H2 s2 nv2 => ?_⟩
      exact ⟨z, _, _, rfl, (s.trans (Grows.new hT)).trans s2, nv2⟩
    · subst e
      rw [List.length_map] at nv
      exact ⟨_, rfl, kq y H' s nv⟩
end
end K05

namespace K05
open PySem PySem.Spec PyProof.Rows L2 SortR LcM
section
variable {P : Program} {w : World} {K : PySem.W.Frag} {mg : Str → Option Value} {base : Heap}
theorem lots_body {k d : Nat} {sp0 : Sp} {f fF : Addr} {fd dF : FuncData} (F : Fun K "_law_lots" "_law_lots" sLots f fd) (T : TxtP mg) (gLots : mg "_law_lots" = some (.ref f)) (bF : Binds K fd ["nest"] []) (FF : Fun K "_law_folk" "_law_folk" sFolk fF dF) (gFolk : mg "_law_folk" = some (.ref fF)) (bFF : Binds K dF ["nest"] [])
    (hk : d + 2 ≤ k) (G0 : FnOk P w K mg base CX0 k f fd ["nest"] sp0)
    (inner : ∀ (x : V) (t : Nest) (H : Hp) (Q : VK) (E : XK), NV K H x t → t.ht < d → t.sz ≤ 600000 → (∀ (p : Addr) (cs : List (Addr × List Int)) (H' : Hp), cs.map (·.2) = t.lots → Grows H H' → H p = none → Nw H H' cs → (∀ c ∈ cs, c.1 ≠ p) → H' p = some (.lst (cs.map fun c => V.ref c.1)) → Q (.ref p) H') → sp0 [x] H Q E) :
    FnOk P w K mg base CX0 (k + 1) f fd ["nest"] (spLots K d) := by
  have GF : FnOk P w K mg base CX0 (d + 2) fF dF ["nest"] (spFolk K d) := ok_folk FF T gFolk bFF d
  refine F.ok scLots (fun vs H Q E h => ?_) (fun cdv A outer s H vs Q E hr h => ?_)
  · obtain ⟨x, t, rfl, _⟩ := h
    rfl
  · obtain ⟨x, t, rfl, nv, ht, hz, kq⟩ := h
    refine ⟨_, (pss_cons (ps_if (pt_val (pe_callB call_isi (by rfl) T.isi (by decide +kernel) (pa_cons (pv 0) (pa_cons (pe_bltn (v := .ty "int") (u := .type "int") (by rfl) T.int (by decide +kernel) rfl) pa_nil)))) (pss_one (ps_ret (pe_lst pa_nil))) pss_nil)
      (pss_one (ps_ret (pe_callB (call_sortedR hr.units) (by rfl) T.sorted (by decide +kernel) (pa_cons (pe_op op_cat (pe_op op_cat (pe_lst (pa_cons (pe_call GF (hr.mono hk) rfl gFolk FF.kp bFF .nil pass0 (pa_cons (pv 0) pa_nil)) pa_nil)) (pe_call G0 hr rfl gLots F.kp bF .nil pass0 (pa_cons (pe_ix (r := rIxT K) ix_tup (pv 0) pe_int (fun _ _ => rfl)) pa_nil))) (pe_call G0 hr rfl gLots F.kp bF .nil pass0 (pa_cons (pe_ix (r := rIxT K) ix_tup (pv 0) pe_int (fun _ _ => rfl)) pa_nil))) pa_nil))))), ?_⟩
    cases nv with
    | leaf i =>
      refine ⟨_, rfl, _, _, _, _, true, rfl, .ty "int", .base (.int i), kit_ty (by decide +kernel), true, rfl, iteT ⟨(by show 0 ≤ sizeLine; decide), fun l hl => ?_⟩⟩
      exact kq l [] _ rfl (Grows.new hl) hl ⟨(fun _ m => nomatch m), (fun _ m => nomatch m), List.Pairwise.nil⟩ (fun _ m => nomatch m) upd_same
    | @node t x y l r at_t nl nr =>
      have hlz : l.sz + r.sz ≤ 600000 := hz
      have hlh : max l.ht r.ht + 1 ≤ d := ht
      have zl := l.lots_len
      have zr := r.lots_len
      refine ⟨_, rfl, _, _, _, _, false, rfl, .ty "int", .base (.tup at_t), kit_ty (by decide +kernel), false, rfl, iteF ?_⟩
      refine ⟨_, rfl, .ref t, .node l r, rfl, .node at_t nl nr, ht, hz, fun pF H1 s1 n1 e1 => ⟨(by show 1 ≤ sizeLine; decide), fun L1 nL1 => ?_⟩⟩
      have g1 : Grows H (upd H1 L1 (.lst [.ref pF])) := s1.trans (Grows.new nL1)
      refine ⟨_, rfl, t, _, 0, x, rfl, rfl, SqT.of (g1 _ _ at_t), rfl, inner x l _ _ _ (nl.keep g1) (by omega) (by omega) fun p1 cs1 H2 m2 s2 n2 nw2 ap2 top2 => ?_⟩
      have len1 : cs1.length = l.lots.length := by rw [← m2, List.length_map]
      refine ⟨L1, p1, _, _, rfl, rfl, s2 _ _ upd_same, top2, ?_, fun L2 nL2 => ?_⟩
      · rw [List.length_map, len1]
        have : (600001 : Nat) ≤ sizeLine := by decide
        show 1 + _ ≤ sizeLine
        omega
      have g2 : Grows H (upd H2 L2 (.lst ([V.ref pF] ++ cs1.map fun c => V.ref c.1))) := (g1.trans s2).trans (Grows.new nL2)
      refine ⟨_, rfl, t, _, 1, y, rfl, rfl, SqT.of (g2 _ _ at_t), rfl, inner y r _ _ _ (nr.keep g2) (by omega) (by omega) fun p3 cs3 H3 m3 s3 n3 nw3 ap3 top3 => ?_⟩
      have len3 : cs3.length = r.lots.length := by rw [← m3, List.length_map]
      refine ⟨L2, p3, _, _, rfl, rfl, s3 _ _ upd_same, top3, ?_, fun L4 nL4 => ?_⟩
      · rw [List.length_append, List.length_map, List.length_map, len1, len3]
        have : (600001 : Nat) ≤ sizeLine := by decide
        show 1 + _ + _ ≤ sizeLine
        omega
      obtain ⟨G, eG⟩ : ∃ G, G = upd H3 L4 (.lst (([V.ref pF] ++ cs1.map fun c => V.ref c.1) ++ cs3.map fun c => V.ref c.1)) := ⟨_, rfl⟩
      rw [← eG]
      have s4 : Grows H3 G := eG ▸ Grows.new nL4
      obtain ⟨bs, ebs⟩ : ∃ bs : List (Addr × List Int), bs = (pF, (Nest.node l r).folk) :: (cs1 ++ cs3) := ⟨_, rfl⟩
      have c1H2 : Grows (upd H1 L1 (.lst [.ref pF])) H2 := s2
      have toG2 : Grows H2 G := ((Grows.new nL2).trans s3).trans s4
      have pF_at : (upd H1 L1 (.lst [.ref pF])) pF = some (.lst ((Nest.node l r).folk.map V.int)) := Grows.new nL1 _ _ e1
      have each : ∀ b ∈ bs, G b.1 = some (.lst (b.2.map V.int)) := fun b m => by
        rw [ebs] at m
        rcases List.mem_cons.mp m with z | z
        · rw [z]
          exact toG2 _ _ (s2 _ _ pF_at)
        · rcases List.mem_append.mp z with z | z
          · exact toG2 _ _ (nw2.lists b z)
          · exact s4 _ _ (nw3.lists b z)
      have fresh : ∀ b ∈ bs, H b.1 = none := fun b m => by
        rw [ebs] at m
        rcases List.mem_cons.mp m with z | z
        · rw [z]
          exact n1
        · rcases List.mem_append.mp z with z | z
          · exact none_back g1 (nw2.new b z)
          · exact none_back g2 (nw3.new b z)
      have nod : (bs.map (·.1)).Nodup := by
        rw [ebs, List.map_cons, List.map_append]
        refine List.nodup_cons.mpr ⟨fun z => ?_, List.nodup_append.mpr ⟨nw2.nodup, nw3.nodup, fun a ma b mb => ?_⟩⟩
        · rcases List.mem_append.mp z with z | z
          · obtain ⟨c, mc, e⟩ := List.mem_map.mp z
            exact ne_of_none pF_at (nw2.new c mc) e.symm
          · obtain ⟨c, mc, e⟩ := List.mem_map.mp z
            exact ne_of_none (Grows.new nL2 _ _ (s2 _ _ pF_at)) (nw3.new c mc) e.symm
        · obtain ⟨c, mc, rfl⟩ := List.mem_map.mp ma
          obtain ⟨c', mc', rfl⟩ := List.mem_map.mp mb
          exact ne_of_none (Grows.new nL2 _ _ (nw2.lists c mc)) (nw3.new c' mc')
      have topG : G L4 = some (.lst (bs.map fun b => V.ref b.1)) := by
        rw [eG, upd_same, ebs, List.map_cons, List.map_append]
        rfl
      refine ⟨L4, bs, rfl, SqL.of topG, fun b m => SqL.of (each b m), fun p np => ?_⟩
      have mem : ∀ b, b ∈ bs.mergeSort rowLe → b ∈ bs := fun b m => List.mem_mergeSort.mp m
      have gG : Grows H G := (g2.trans s3).trans s4
      refine kq p (bs.mergeSort rowLe) _ ?_ (gG.trans (Grows.new np)) (none_back gG np) ⟨fun b m => ?_, fun b m => fresh b (mem b m), ?_⟩ (fun b m e => ?_) upd_same
      · rw [sort_rows, ebs, List.map_cons, List.map_append, m2, m3]
        rfl
      · exact Grows.new np _ _ (each b (mem b m))
      · exact (((List.mergeSort_perm bs rowLe).map (·.1)).nodup_iff).mpr nod
      · have z := each b (mem b m)
        rw [e, np] at z
        cases z
theorem ok_lots {f fF : Addr} {fd dF : FuncData} (F : Fun K "_law_lots" "_law_lots" sLots f fd) (T : TxtP mg) (gLots : mg "_law_lots" = some (.ref f)) (bF : Binds K fd ["nest"] []) (FF : Fun K "_law_folk" "_law_folk" sFolk fF dF) (gFolk : mg "_law_folk" = some (.ref fF)) (bFF : Binds K dF ["nest"] []) : ∀ d, FnOk P w K mg base CX0 (d + 3) f fd ["nest"] (spLots K d)
  | 0 => lots_body F T gLots bF FF gFolk bFF (Nat.le_refl _) ((fn_no (f := f) (fd := fd)).mono (by decide)) fun _ _ _ _ _ _ h _ _ => absurd h (Nat.not_lt_zero _)
  | d + 1 => lots_body F T gLots bF FF gFolk bFF (Nat.le_refl _) (ok_lots F T gLots bF FF gFolk bFF d) fun x t H Q E nv h hz kq => ⟨x, t, rfl, nv, Nat.le_of_lt_succ h, hz, kq⟩
end
end K05

namespace K05
open PySem PySem.Spec PyProof.Rows L2 SortR LcM
theorem plist_of {n : Int} {ks : List Int} (up : ks.Pairwise (· < ·)) (rng : ∀ x ∈ ks, 0 ≤ x ∧ x < n) : plist n ks = true := by
  unfold plist inR ascI
  rw [Bool.and_eq_true]
  refine ⟨List.all_eq_true.mpr fun i hi => ?_, List.all_eq_true.mpr fun i hi => ?_⟩
  · have il := List.mem_range.mp hi
    have e : ks.getD i 0 = ks[i] := by rw [List.getD_eq_getElem?_getD, List.getElem?_eq_getElem il]; rfl
    have := rng _ (List.getElem_mem il)
    rw [e, decide_eq_true this.1, decide_eq_true this.2]
    rfl
  · have il := List.mem_range.mp hi
    have l1 : i < ks.length := by omega
    have l2 : i + 1 < ks.length := by omega
    have e1 : ks.getD i 0 = ks[i] := by rw [List.getD_eq_getElem?_getD, List.getElem?_eq_getElem l1]; rfl
    have e2 : ks.getD (i + 1) 0 = ks[i + 1] := by rw [List.getD_eq_getElem?_getD, List.getElem?_eq_getElem l2]; rfl
    rw [e1, e2]
    exact decide_eq_true (List.pairwise_iff_getElem.mp up i (i + 1) l1 l2 (Nat.lt_succ_self i))
theorem gr_none {p a : Addr} {H H' : Hp} (g : Gr p H H') (h : H' a = none) (n : a ≠ p) : H a = none := by
  rcases Option.eq_none_or_eq_some (H a) with z | ⟨o, z⟩
  · exact z
  · rw [g a o n z] at h
    cases h
theorem rg_ints (n : Int) : rgV 0 n = ((List.range n.toNat).map fun i => (0 + (i : Nat) : Int)).map V.int := by
  unfold rgV
  rw [List.map_map, Int.sub_zero]
  rfl
theorem rg_up (n : Nat) : ((List.range n).map fun i => (0 + (i : Nat) : Int)).Pairwise (· < ·) := by
  rw [List.pairwise_map]
  exact List.pairwise_lt_range.imp fun {a b} h => by omega
theorem rg_in (n : Nat) : ∀ x ∈ (List.range n).map fun i => (0 + (i : Nat) : Int), 0 ≤ x ∧ x < n := fun x hx => by
  obtain ⟨i, hi, e⟩ := List.mem_map.mp hx
  have := List.mem_range.mp hi
  omega
theorem inV_ints (i : Int) (ns : List Int) : inV (.int i) (ns.map V.int) = decide (i ∈ ns) := by
  unfold inV
  induction ns with
  | nil => rfl
  | cons x ns ih =>
    rw [List.map_cons, List.any_cons, ih]
    show ((x == i) || decide (i ∈ ns)) = decide (i ∈ x :: ns)
    by_cases e : x = i
    · rw [e, beq_self_eq_true, Bool.true_or, decide_eq_true List.mem_cons_self]
    · rw [beq_eq_false_iff_ne.mpr e, Bool.false_or]
      by_cases m : i ∈ ns
      · rw [decide_eq_true m, decide_eq_true (List.mem_cons_of_mem _ m)]
      · rw [decide_eq_false m, decide_eq_false fun z => (List.mem_cons.mp z).elim (fun q => e q.symm) m]
theorem flat_ints (ns : List Int) : (ns.map V.int).all flatV = true := by
  rw [List.all_map]
  exact List.all_eq_true.mpr fun _ _ => rfl
end K05

namespace K05
open PySem PySem.Spec PyProof.Rows L2 SortR LcM RepA
/-! ### data that lasts -/
theorem grows_seqT {K : PySem.W.Frag} {H H' : Hp} (s : Grows H H') {a : Addr} {xs : List V} (h : SqT K H a xs) : SqT K H' a xs := by
  rcases h with (h | ⟨o, h⟩) | h
  · exact .inl (.inl (s _ _ h))
  · exact .inl (.inr ⟨o, s _ _ h⟩)
  · exact .inr h
theorem Dp.grow {K : PySem.W.Frag} {H H' : Hp} (s : Grows H H') {x : V} {d : PyData} (h : Dp K H x d) : Dp K H' x d := by
  refine Dp.rec (motive_1 := fun x d _ => Dp K H' x d) (motive_2 := fun xs ds _ => DpAll K H' xs ds) ?_ ?_ ?_ ?_ ?_ ?_ ?_ ?_ h
  · exact .non
  · exact fun b => .bl b
  · exact fun i => .int i
  · exact fun x => .str x
  · exact fun q _ ih => .lst (s.seq q) ih
  · exact fun q _ ih => .tup (grows_seqT s q) ih
  · exact .nil
  · exact fun _ _ a b => .cons a b
theorem DpAll.grow {K : PySem.W.Frag} {H H' : Hp} (s : Grows H H') : ∀ {xs : List V} {ds : List PyData}, DpAll K H xs ds → DpAll K H' xs ds
  | _, _, .nil => .nil
  | _, _, .cons a b => .cons (Dp.grow s a) (DpAll.grow s b)
theorem Dd.grow {K : PySem.W.Frag} {H H' : Hp} (s : Grows H H') {x : V} {d : PyData} (h : Dd K H x d) : Dd K H' x d := by
  rcases h with h | ⟨a, e, q, ed⟩
  · exact .inl (Dp.grow s h)
  · exact .inr ⟨a, e, s _ _ q, ed⟩
theorem DpAll.len {K : PySem.W.Frag} {H : Hp} : ∀ {xs : List V} {ds : List PyData}, DpAll K H xs ds → xs.length = ds.length
  | _, _, .nil => rfl
  | _, _, .cons _ b => congrArg (· + 1) (DpAll.len b)
theorem DpAll.at {K : PySem.W.Frag} {H : Hp} : ∀ {ds : List PyData} {xs : List V} {i : Nat} {x : V}, DpAll K H xs ds → xs[i]? = some x → ∃ d, ds[i]? = some d ∧ Dp K H x d
  | [], _, _, _, .nil, h => nomatch h
  | d :: ds, _, i, x, .cons (vs := vs) a b, h => by
    cases i with
    | zero =>
      cases h
      exact ⟨_, rfl, a⟩
    | succ i =>
      have h' : vs[i]? = some x := h
      obtain ⟨e, he, q⟩ := DpAll.at b h'
      exact ⟨e, he, q⟩
def tyName : PyData → String
  | .none => "NoneType"
  | .bool _ => "bool"
  | .int _ => "int"
  | .str _ => "str"
  | .list _ => "list"
  | .tuple _ => "tuple"
  | .dict _ => "dict"
theorem dd_ty {K : PySem.W.Frag} {H : Hp} {x : V} {d : PyData} (h : Dd K H x d) : TyX K H x (.type (tyName d)) := by
  rcases h with h | ⟨a, rfl, q, rfl⟩
  · cases h with
    | non => exact .base .non
    | bl b => exact .base (.bl b)
    | int i => exact .base (.int i)
    | str s => exact .base (.str s)
    | lst q _ => exact ty_list q
    | tup q _ =>
      rcases q with (q | ⟨o, q⟩) | ⟨o, its, n, q, hc, _⟩
      · exact .base (.tup q)
      · exact .fTuple q
      · exact .kTuple q hc
  · exact .base (.dK q)
theorem ty_kinds (d : PyData) : tyName d ∈ kinds := by
  cases d <;> simp [tyName, kinds]
/-- is_coming, on data -/
def itemOk (i : Nat) : PyData → Bool
  | .int v => decide (-(i : Int) ≤ v) && decide (v ≤ (i : Int))
  | _ => false
def isC : PyData → Bool
  | .list ds => decide ((ds.length : Int) < 20) && (List.range ds.length).all fun i => itemOk i (ds.getD i .none)
  | _ => false
theorem isC_list (ds : List PyData) : isC (.list ds) = (decide ((ds.length : Int) < 20) && (List.range ds.length).all fun i => itemOk i (ds.getD i .none)) := rfl
abbrev sComing : Stmt := top 21
abbrev sBoth : Stmt := top 18
abbrev sItem : Stmt := top 22
abbrev sComOf : Stmt := top 23
abbrev sGrown : Stmt := top 24
abbrev sPlace : Stmt := top 25
abbrev sCome : Stmt := top 26
abbrev sPB : Stmt := top 27
structure ComF (K : PySem.W.Frag) (mg : Str → Option Value) where
  (fCut fComing fBoth fItem fComOf fGrown fPlace fCome fPB : Addr)
  (dCut dComing dBoth dItem dComOf dGrown dPlace dCome dPB : FuncData)
  FCut : Fun K "cut" "cut" sCut fCut dCut
  FComing : Fun K "is_coming" "is_coming" sComing fComing dComing
  FBoth : Fun K "both_parts" "both_parts" sBoth fBoth dBoth
  FItem : Fun K "item_of" "item_of" sItem fItem dItem
  FComOf : Fun K "coming_of" "coming_of" sComOf fComOf dComOf
  FGrown : Fun K "grown" "grown" sGrown fGrown dGrown
  FPlace : Fun K "place_of" "place_of" sPlace fPlace dPlace
  FCome : Fun K "come_into" "come_into" sCome fCome dCome
  FPB : Fun K "parting_by" "parting_by" sPB fPB dPB
  gCut : mg "cut" = some (.ref fCut)
  gComing : mg "is_coming" = some (.ref fComing)
  gBoth : mg "both_parts" = some (.ref fBoth)
  gItem : mg "item_of" = some (.ref fItem)
  gComOf : mg "coming_of" = some (.ref fComOf)
  gGrown : mg "grown" = some (.ref fGrown)
  gPlace : mg "place_of" = some (.ref fPlace)
  gCome : mg "come_into" = some (.ref fCome)
  gPB : mg "parting_by" = some (.ref fPB)
  bCut : Binds K dCut ["parting", "some"] []
  bComing : Binds K dComing ["thing"] []
  bBoth : Binds K dBoth ["parting", "group"] []
  bItem : Binds K dItem ["parting", "person"] []
  bComOf : Binds K dComOf ["parting"] []
  bGrown : Binds K dGrown ["group", "place", "person"] []
  bPlace : Binds K dPlace ["made", "item"] []
  bCome : Binds K dCome ["made", "item", "person"] []
  bPB : Binds K dPB ["coming"] []
/-- rows, as plain lists -/
structure Rl (H : Hp) (a : Addr) (cs : List (Addr × List Int)) : Prop where
  top : H a = some (.lst (cs.map fun c => V.ref c.1))
  each : ∀ c ∈ cs, H c.1 = some (.lst (c.2.map V.int))
theorem Rl.keep {H H' : Hp} {a : Addr} {cs : List (Addr × List Int)} (r : Rl H a cs) (g : Grows H H') : Rl H' a cs := ⟨g _ _ r.top, fun c m => g _ _ (r.each c m)⟩
theorem Rl.rw {K : PySem.W.Frag} {H : Hp} {a : Addr} {cs : List (Addr × List Int)} (r : Rl H a cs) : Rw K H a cs := ⟨SqL.of r.top, fun c m => SqL.of (r.each c m)⟩
theorem Rl.at {H : Hp} {a : Addr} {cs : List (Addr × List Int)} (r : Rl H a cs) {i : Nat} (hi : i < cs.length) : H (cs.getD i (0, [])).1 = some (.lst ((cs.getD i (0, [])).2.map V.int)) := by
  rw [List.getD_eq_getElem?_getD, List.getElem?_eq_getElem hi]
  exact r.each _ (List.getElem_mem hi)
def spComing (K : PySem.W.Frag) : Sp := fun vs H Q _ => ∃ (x : V) (d : PyData), vs = [x] ∧ Dd K H x d ∧ ∀ H', Grows H H' → Q (.bl (isC d)) H'
def growR (pl : List Int) (q : Int) (r : List Int) : List Int := if pl.length < r.length ∧ pl.getD 0 0 ∈ r then r ++ [q] else r
def spGrown : Sp := fun vs H Q _ => ∃ (a b : Addr) (r pl : List Int) (q : Int), vs = [.ref a, .ref b, .int q] ∧ H a = some (.lst (r.map V.int)) ∧ H b = some (.lst (pl.map V.int)) ∧ pl ≠ [] ∧ r.length ≤ 1000 ∧
  (growR pl q r = r → Q (.ref a) H) ∧ ∀ p H', Grows H H' → H p = none → H' p = some (.lst ((growR pl q r).map V.int)) → Q (.ref p) H'
def placeR (ms : List (List Int)) (i : Int) : List Int := if 0 ≤ i then [i] else ms.getD (-i - 1).toNat []
def spPlace : Sp := fun vs H Q _ => ∃ (a : Addr) (bs : List (Addr × List Int)) (i : Int), vs = [.ref a, .int i] ∧ Rl H a bs ∧ -(bs.length : Int) ≤ i ∧ bs.length ≤ 1000 ∧
  ∀ (p : Addr) (H' : Hp), Grows H H' → H' p = some (.lst ((placeR (bs.map (·.2)) i).map V.int)) → Q (.ref p) H'
section
variable {P : Program} {w : World} {K : PySem.W.Frag} {mg : Str → Option Value} {base : Heap}
theorem scComing : FnScope ["thing", "at", "item"] ["thing"] (defScope sComing) := ⟨rfl, rfl, rfl, by decide +kernel, rfl, by decide +kernel, by decide +kernel⟩
theorem scGrown : FnScope ["group", "place", "person"] ["group", "place", "person"] (defScope sGrown) := ⟨rfl, rfl, rfl, by decide +kernel, rfl, by decide +kernel, by decide +kernel⟩
theorem scPlace : FnScope ["made", "item"] ["made", "item"] (defScope sPlace) := ⟨rfl, rfl, rfl, by decide +kernel, rfl, by decide +kernel, by decide +kernel⟩
theorem ok_coming (Z : ProgF K mg) (T : TxtP mg) (Y : ComF K mg) : FnOk P w K mg base CX0 2 Y.fComing Y.dComing ["thing"] (spComing K) := by
  have GNum : FnOk P w K mg base CX0 1 Z.fNum Z.dNum ["thing"] (spNumber K) := ok_number Z.FNum T
  refine Y.FComing.ok scComing (fun vs H Q E h => ?_) (fun cdv A outer s H vs Q E hr h => ?_)
  · obtain ⟨x, d, rfl, _⟩ := h
    rfl
  · obtain ⟨x, d, rfl, hd, k⟩ := h
    refine ⟨_, (pss_cons (ps_if (PW.pt (pw_or (pt_not (pt_val (pe_callB call_isi (by rfl) T.isi (by decide +kernel) (pa_cons (pv 0) (pa_cons (pe_bltn (v := .ty "list") (u := .type "list") (by rfl) T.list (by decide +kernel) rfl) pa_nil))))) (pw_or1 (pt_cmpR op_ge (pe_callB call_len_seq (by rfl) T.len (by decide +kernel) (pa_cons (pv 0) pa_nil)) (pe_glob (v := .int 20) rfl Z.gMost ⟨_, rfl⟩) (nomark _))))) (pss_one (ps_ret pe_bl)) pss_nil)
      (pss_one (ps_ret (pe_callB (cr_all rfl) (by rfl) T.all (by decide +kernel) (pa_cons (pe_lc (own := [("at", 1), ("item", 2)]) (g := gTup K 2 (gCons (gName 1) (gCons (gName 2) gNil))) (tt := tYes) rfl scComing.nd (pi_enum (by rfl) T.enumerate (pa_cons (pv 0) pa_nil)) (blkOk_by (own := [("at", 1), ("item", 2)]) (N := ["thing", "at", "item"]) (sc := defScope sComing) (by decide +kernel)) (fun _ _ _ _ _ => pg_tup rfl (pgs_cons (pg_name (i := 1) scComing.nd rfl (Or.inl rfl)) (pgs_cons (pg_name (i := 2) scComing.nd rfl (Or.inl rfl)) pgs_nil))) (fun _ _ _ _ _ => pts_nil) (fun _ _ _ _ _ => (pe_and (pe_call GNum (hr.mono (by decide)) rfl Z.gNum Z.FNum.kp Z.bNum .nil pass0 (pa_cons (pv 2) pa_nil)) (pe_one (pe_chain op_le op_le (pe_un un_neg (pv 1)) (pv 2) (pv 1)))))) pa_nil))))), ?_⟩
    have ty := dd_ty hd
    by_cases isl : ∃ ds, d = .list ds
    · obtain ⟨ds, rfl⟩ := isl
      obtain ⟨a, xs, rfl, hS, hA⟩ : ∃ a xs, x = .ref a ∧ SqL K H a xs ∧ DpAll K H xs ds := by
        rcases hd with hd | ⟨_, _, _, z⟩
        · cases hd with | lst q r => exact ⟨_, _, rfl, q, r⟩
        · cases z
      have len := DpAll.len hA
      have tyl : TyX K H (.ref a) (.type "list") := ty_list hS
      refine ⟨_, rfl, _, _, _, _, true, rfl, .ty "list", tyl, kit_ty (by decide +kernel), true, rfl, ?_⟩
      refine iteF ⟨_, rfl, a, _, rfl, .inl hS, _, _, rfl, rfl, _, rfl, ?_⟩
      by_cases big : (ds.length : Int) < 20
      · rw [decide_eq_false (by rw [len]; omega)]
        refine iteF ⟨_, rfl, a, _, rfl, hS, fun D hD => lc_enumM (K := K) (fun i => V.bl (itemOk i (ds.getD i .none))) hD hS (by omega) (fun i x T' H' R hx sm hT kR => ?_) fun H' sm eD => ?_⟩
        · obtain ⟨d, ed, hdx⟩ := DpAll.at hA hx
          have eg : ds.getD i .none = d := by rw [List.getD_eq_getElem?_getD, ed]; rfl
          refine ⟨T', _, rfl, SqT.of upd_same, rfl, _, _, rfl, _, _, rfl, rfl, ?_⟩
          have dx' := Dp.grow (sm.trans (Grows.new (o := .tup [V.int (i : Nat), x]) hT)) hdx
          refine ⟨rfl, _, rfl, _, tyName d, rfl, dd_ty (.inl dx'), ty_kinds d, ?_⟩
          rw [eg] at kR
          cases hdx with
          | int v =>
            refine ⟨_, rfl, _, rfl, _, rfl, _, rfl, _, _, rfl, rfl, _, rfl, ?_⟩
            have kv : R (V.bl (decide (-(i : Int) ≤ v) && decide (v ≤ (i : Int)))) (upd H' T' (.tup [V.int (i : Nat), V.int v])) := kR _ .refl
            by_cases l : -(i : Int) ≤ v
            · rw [if_pos (decide_eq_true l)]
              rw [decide_eq_true l, Bool.true_and] at kv
              exact ⟨_, rfl, _, _, rfl, rfl, kv⟩
            · rw [if_neg (by rw [decide_eq_false l]; exact Bool.false_ne_true)]
              rw [decide_eq_false l, Bool.false_and] at kv
              exact kv
          | non => exact ⟨_, rfl, kR _ .refl⟩
          | bl b => exact ⟨_, rfl, kR _ .refl⟩
          | str b => exact ⟨_, rfl, kR _ .refl⟩
          | lst _ _ => exact ⟨_, rfl, kR _ .refl⟩
          | tup _ _ => exact ⟨_, rfl, kR _ .refl⟩
        · refine ⟨D, (List.range xs.length).map fun i => itemOk i (ds.getD i .none), rfl, SqL.of (by rw [eD, List.map_map]; rfl), ?_⟩
          rw [all_rng, len]
          have q := k H' sm
          rw [isC_list, decide_eq_true big, Bool.true_and] at q
          exact q
      · rw [decide_eq_true (by rw [len]; omega)]
        have q := k H .refl
        rw [isC_list, decide_eq_false big, Bool.false_and] at q
        exact iteT q
    · have no : isC d = false := by
        cases d <;> first | rfl | exact absurd ⟨_, rfl⟩ isl
      have q := k H .refl
      rw [no] at q
      refine ⟨_, rfl, _, _, _, _, false, rfl, .ty "list", ty, kit_ty ?_, false, rfl, iteT q⟩
      cases d <;> first | exact absurd ⟨_, rfl⟩ isl | (simp only [tyName]; decide +kernel)
theorem ok_grown (T : TxtP mg) (Y : ComF K mg) : FnOk P w K mg base CX0 1 Y.fGrown Y.dGrown ["group", "place", "person"] spGrown := by
  refine Y.FGrown.ok scGrown (fun vs H Q E h => ?_) (fun cdv A outer s H vs Q E hr h => ?_)
  · obtain ⟨a, b, r, pl, q, rfl, _⟩ := h
    rfl
  · obtain ⟨a, b, r, pl, q, rfl, hA, hB, hne, hl, k1, k2⟩ := h
    refine ⟨_, (pss_cons (ps_if (PW.pt (pw_and (pt_cmpR op_gt (pe_callB call_len_seq (by rfl) T.len (by decide +kernel) (pa_cons (pv 0) pa_nil)) (pe_callB call_len_seq (by rfl) T.len (by decide +kernel) (pa_cons (pv 1) pa_nil)) (nomark _)) (pw_and1 (pt_cmpR op_in_seq (pe_ix (r := rIxL K) ix_list (pv 1) pe_int (fun _ _ => rfl)) (pv 0) (by rfl))))) (pss_one (ps_ret (pe_op op_cat (pv 0) (pe_lst (pa_cons (pv 2) pa_nil))))) pss_nil)
      (pss_one (ps_ret (pv 0)))), ?_⟩
    refine ⟨_, rfl, a, _, rfl, .inl (SqL.of hA), _, rfl, b, _, rfl, .inl (SqL.of hB), _, _, rfl, rfl, _, rfl, ?_⟩
    rw [List.length_map, List.length_map]
    have pz : 0 < pl.length := List.length_pos_iff.mpr hne
    by_cases l : pl.length < r.length
    · rw [decide_eq_true (show ((pl.length : Nat) : Int) < (r.length : Nat) by omega)]
      have at0 : atI (pl.map V.int) 0 = some (V.int (pl.getD 0 0)) := by
        refine atI_nat (j := 0) ?_
        rw [List.getElem?_map, List.getD_eq_getElem?_getD, List.getElem?_eq_getElem pz]
        rfl
      refine iteT ⟨_, rfl, b, _, 0, _, rfl, rfl, SqL.of hB, at0, _, rfl, a, _, rfl, .inl (SqL.of hA), rfl, flat_ints r, _, rfl, ?_⟩
      show if (inV (V.int (pl.getD 0 0)) (r.map V.int)) = true then _ else _
      rw [inV_ints]
      by_cases m : pl.getD 0 0 ∈ r
      · have e : growR pl q r = r ++ [q] := if_pos ⟨l, m⟩
        rw [if_pos (decide_eq_true m)]
        refine ⟨_, rfl, _, rfl, (by show 1 ≤ sizeLine; decide), fun z hz => ⟨a, z, _, _, rfl, rfl, Grows.new hz _ _ hA, upd_same, ?_, fun p hp => ?_⟩⟩
        · rw [List.length_map]
          show r.length + 1 ≤ sizeLine
          exact Nat.le_trans (Nat.succ_le_succ hl) (by decide)
        · have g1 : Grows H (upd H z (.lst [V.int q])) := Grows.new hz
          refine k2 p _ (g1.trans (Grows.new hp)) (none_back g1 hp) ?_
          rw [upd_same, e, List.map_append]
          rfl
      · have e : growR pl q r = r := if_neg fun z => m z.2
        rw [if_neg (by rw [decide_eq_false m]; exact Bool.false_ne_true)]
        exact ⟨_, rfl, k1 e⟩
    · have e : growR pl q r = r := if_neg fun z => l z.1
      rw [decide_eq_false (show ¬ ((pl.length : Nat) : Int) < (r.length : Nat) by omega)]
      exact iteF (iteF ⟨_, rfl, k1 e⟩)
theorem ok_place (Y : ComF K mg) : FnOk P w K mg base CX0 1 Y.fPlace Y.dPlace ["made", "item"] spPlace := by
  refine Y.FPlace.ok scPlace (fun vs H Q E h => ?_) (fun cdv A outer s H vs Q E hr h => ?_)
  · obtain ⟨a, bs, i, rfl, _⟩ := h
    rfl
  · obtain ⟨a, bs, i, rfl, hB, hi, hl, k⟩ := h
    refine ⟨_, (pss_one (ps_ret (pe_ifExp (pt_cmpR op_ge (pv 1) pe_int (nomark _)) (pe_lst (pa_cons (pv 1) pa_nil)) (pe_ix (r := rIxL K) ix_list (pv 0) (pe_op op_sub (pe_un un_neg (pv 1)) pe_int) (fun _ _ => rfl))))), ?_⟩
    refine ⟨_, rfl, _, _, rfl, rfl, _, rfl, ?_⟩
    by_cases h0 : 0 ≤ i
    · have k' := k
      rw [show placeR (bs.map (·.2)) i = [i] from if_pos h0] at k'
      rw [decide_eq_true h0]
      refine iteT ⟨_, rfl, (by show 1 ≤ sizeLine; decide), fun p hp => k' p _ (Grows.new hp) upd_same⟩
    · have e : placeR (bs.map (·.2)) i = (bs.map (·.2)).getD (-i - 1).toNat [] := if_neg h0
      rw [decide_eq_false h0]
      have jl : (-i - 1).toNat < bs.length := by omega
      obtain ⟨z, _, ez⟩ := at_in (xs := bs.map fun b => V.ref b.1) (v := -i - 1) (by omega) (by rw [List.length_map]; omega)
      refine iteF ⟨_, rfl, _, rfl, _, rfl, _, _, rfl, rfl, a, _, _, V.ref (bs.getD (-i - 1).toNat (0, [])).1, rfl, rfl, SqL.of hB.top, ?_, k _ H .refl ?_⟩
      · have q : (bs.map fun b => V.ref b.1)[(-i - 1).toNat]? = some (V.ref (bs.getD (-i - 1).toNat (0, [])).1) := by
          rw [List.getElem?_map, List.getElem?_eq_getElem jl, List.getD_eq_getElem?_getD, List.getElem?_eq_getElem jl]
          rfl
        have q2 := atI_nat q
        rw [Int.toNat_of_nonneg (by omega)] at q2
        exact q2
      · rw [e, snd_at]
        exact hB.at jl
end
end K05

namespace K05
open PySem PySem.Spec PyProof.Rows L2 SortR LcM RepA
def comeR (ms : List (List Int)) (i q : Int) : List (List Int) := ms.map (growR (placeR ms i) q) ++ [placeR ms i ++ [q]]
def madeR (is : List Int) : Nat → List (List Int)
  | 0 => []
  | n + 1 => comeR (madeR is n) (is.getD n 0) (1 + (n : Nat))
def pbR (is : List Int) : List (List Int) := (madeR is is.length).mergeSort fun p q => decide (p ≤ q)
theorem madeR_len (is : List Int) : ∀ n, (madeR is n).length = n
  | 0 => rfl
  | n + 1 => by
    show (comeR (madeR is n) _ _).length = n + 1
    unfold comeR
    rw [List.length_append, List.length_map, madeR_len is n]
    rfl
theorem rngm {α β : Type} (ns : List α) (d : α) (f : α → β) : (List.range ns.length).map (fun i => f (ns.getD i d)) = ns.map f := by
  refine List.ext_getElem (by rw [List.length_map, List.length_map, List.length_range]) fun j j1 j2 => ?_
  rw [List.length_map] at j2
  rw [List.getElem_map, List.getElem_map, List.getElem_range, List.getD_eq_getElem?_getD, List.getElem?_eq_getElem j2]
  rfl
theorem growR_ok (pl : List Int) (q : Int) (r : List Int) : (growR pl q r).length ≤ r.length + 1 ∧ (r ≠ [] → growR pl q r ≠ []) := by
  unfold growR
  split
  · exact ⟨by rw [List.length_append]; exact Nat.le_refl _, fun _ z => by simp at z⟩
  · exact ⟨Nat.le_succ _, id⟩
theorem placeR_ok {ms : List (List Int)} {i : Int} {n : Nat} (h : ∀ r ∈ ms, r ≠ [] ∧ r.length ≤ n + 1) (hi : -(ms.length : Int) ≤ i) : placeR ms i ≠ [] ∧ (placeR ms i).length ≤ n + 1 := by
  unfold placeR
  split
  · exact ⟨(fun z => nomatch z), Nat.succ_le_succ (Nat.zero_le _)⟩
  · have jl : (-i - 1).toNat < ms.length := by omega
    rw [List.getD_eq_getElem?_getD, List.getElem?_eq_getElem jl]
    exact h _ (List.getElem_mem jl)
/-- a coming list -/
def Bd (is : List Int) : Prop := ∀ n, n < is.length → -(n : Int) ≤ is.getD n 0
theorem madeR_ok {is : List Int} (h : Bd is) : ∀ n, n ≤ is.length → ∀ r ∈ madeR is n, r ≠ [] ∧ r.length ≤ n + 1
  | 0, _, r, hr => nomatch hr
  | n + 1, hn, r, hr => by
    have ih := madeR_ok h n (Nat.le_of_succ_le hn)
    have p := placeR_ok (i := is.getD n 0) ih (by rw [madeR_len]; exact h n hn)
    have hr' : r ∈ comeR (madeR is n) (is.getD n 0) (1 + (n : Nat)) := hr
    unfold comeR at hr'
    rcases List.mem_append.mp hr' with m | m
    · obtain ⟨s, hs, rfl⟩ := List.mem_map.mp m
      obtain ⟨a, b⟩ := ih s hs
      have g := growR_ok (placeR (madeR is n) (is.getD n 0)) (1 + (n : Nat)) s
      exact ⟨g.2 a, by omega⟩
    · rw [List.mem_singleton.mp m]
      exact ⟨fun z => by simp at z, by rw [List.length_append]; exact Nat.succ_le_succ p.2⟩
theorem bd_of {is : List Int} (h : isC (.list (is.map .int)) = true) : Bd is ∧ is.length < 20 := by
  rw [isC_list, Bool.and_eq_true, List.length_map] at h
  have l := of_decide_eq_true h.1
  refine ⟨fun n hn => ?_, by omega⟩
  have q := List.all_eq_true.mp h.2 n (List.mem_range.mpr hn)
  have e : (is.map PyData.int).getD n .none = .int (is.getD n 0) := by
    rw [List.getD_eq_getElem?_getD, List.getD_eq_getElem?_getD, List.getElem?_map, List.getElem?_eq_getElem hn]
    rfl
  rw [e] at q
  unfold itemOk at q
  rw [Bool.and_eq_true] at q
  exact of_decide_eq_true q.1
theorem pick_rows {H : Hp} {R : Nat → List Int} {Pp : Addr → Prop} : ∀ (ys : List V) (k : Nat), (∀ j y, ys[j]? = some y → ∃ p, y = .ref p ∧ H p = some (.lst ((R (k + j)).map V.int)) ∧ Pp p) →
    ∃ cs : List (Addr × List Int), ys = cs.map (fun c => V.ref c.1) ∧ cs.map (·.2) = (List.range ys.length).map (fun j => R (k + j)) ∧ ∀ c ∈ cs, H c.1 = some (.lst (c.2.map V.int)) ∧ Pp c.1
  | [], k, _ => ⟨[], rfl, rfl, fun _ h => nomatch h⟩
  | y :: ys, k, h => by
    obtain ⟨p, rfl, e, pp⟩ := h 0 y rfl
    obtain ⟨cs, e1, e2, e3⟩ := pick_rows (R := R) (Pp := Pp) ys (k + 1) fun j z hz => by
      obtain ⟨q, a, b, c⟩ := h (j + 1) z hz
      refine ⟨q, a, ?_, c⟩
      rw [show k + 1 + j = k + (j + 1) by omega]
      exact b
    refine ⟨(p, R (k + 0)) :: cs, by rw [List.map_cons, ← e1], ?_, fun c hc => ?_⟩
    · rw [List.map_cons, e2, List.length_cons, List.range_succ_eq_map, List.map_cons, List.map_map]
      refine congrArg _ (List.map_congr_left fun j _ => ?_)
      show R (k + 1 + j) = R (k + (j + 1))
      rw [show k + 1 + j = k + (j + 1) by omega]
    · rcases List.mem_cons.mp hc with q | q
      · rw [q]
        exact ⟨e, pp⟩
      · exact e3 c q
def spCome : Sp := fun vs H Q _ => ∃ (a : Addr) (bs : List (Addr × List Int)) (i q : Int), vs = [.ref a, .int i, .int q] ∧ Rl H a bs ∧ -(bs.length : Int) ≤ i ∧ bs.length ≤ 900 ∧ (∀ r ∈ bs.map (·.2), r ≠ [] ∧ r.length ≤ 900 + 1) ∧
  ∀ (p : Addr) (cs : List (Addr × List Int)) (H' : Hp), cs.map (·.2) = comeR (bs.map (·.2)) i q → Grows H H' → H p = none → Rl H' p cs → (∀ c ∈ cs, (∃ b ∈ bs, c.1 = b.1) ∨ H c.1 = none) → Q (.ref p) H'
def spPB (K : PySem.W.Frag) : Sp := fun vs H Q _ => ∃ (a : Addr) (is : List Int), vs = [.ref a] ∧ SqL K H a (is.map V.int) ∧ isC (.list (is.map .int)) = true ∧
  ∀ (p : Addr) (cs : List (Addr × List Int)) (H' : Hp), cs.map (·.2) = pbR is → Grows H H' → H p = none → Rl H' p cs → (∀ c ∈ cs, c.1 ≠ p ∧ H c.1 = none) → Q (.ref p) H'
section
variable {P : Program} {w : World} {K : PySem.W.Frag} {mg : Str → Option Value} {base : Heap}
theorem scCome : FnScope ["made", "item", "person", "place", "group"] ["made", "item", "person"] (defScope sCome) := ⟨rfl, rfl, rfl, by decide +kernel, rfl, by decide +kernel, by decide +kernel⟩
theorem scPB : FnScope ["coming", "made", "person", "item"] ["coming"] (defScope sPB) := ⟨rfl, rfl, rfl, by decide +kernel, rfl, by decide +kernel, by decide +kernel⟩
theorem ok_come (T : TxtP mg) (Y : ComF K mg) : FnOk P w K mg base CX0 2 Y.fCome Y.dCome ["made", "item", "person"] spCome := by
  have GPlace : FnOk P w K mg base CX0 1 Y.fPlace Y.dPlace ["made", "item"] spPlace := ok_place Y
  have GGrown : FnOk P w K mg base CX0 1 Y.fGrown Y.dGrown ["group", "place", "person"] spGrown := ok_grown T Y
  refine Y.FCome.ok scCome (fun vs H Q E h => ?_) (fun cdv A outer s H vs Q E hr h => ?_)
  · obtain ⟨a, bs, i, q, rfl, _⟩ := h
    rfl
  · obtain ⟨a, bs, i, q, rfl, hB, hi, hl, hr1, k⟩ := h
    refine ⟨_, (pss_cons (ps_set (i := 3) scCome.nd rfl (.inr rfl) (pe_call GPlace (hr.mono (by decide)) rfl Y.gPlace Y.FPlace.kp Y.bPlace .nil pass0 (pa_cons (pv 0) (pa_cons (pv 1) pa_nil))))
      (pss_one (ps_ret (pe_op op_cat (pe_lc (own := [("group", 4)]) (g := gName 4) (tt := tYes) rfl scCome.nd (pi_list (pv 0)) (blkOk_by (own := [("group", 4)]) (N := ["made", "item", "person", "place", "group"]) (sc := defScope sCome) (by decide +kernel)) (fun _ _ _ _ _ => pg_name (i := 4) scCome.nd rfl (Or.inl rfl)) (fun _ _ _ _ _ => pts_nil) (fun _ _ _ _ _ => (pe_call GGrown (hr.mono (by decide)) rfl Y.gGrown Y.FGrown.kp Y.bGrown .nil pass0 (pa_cons (pv 4) (pa_cons (pv 3) (pa_cons (pv 2) pa_nil)))))) (pe_lst (pa_cons (pe_op op_cat (pv 3) (pe_lst (pa_cons (pv 2) pa_nil))) pa_nil)))))), ?_⟩
    refine ⟨_, rfl, _, rfl, a, bs, i, rfl, hB, hi, by omega, fun b H1 s1 eb => ?_⟩
    have pk := placeR_ok (n := 900) hr1 (by rw [List.length_map]; exact hi)
    generalize epl : placeR (bs.map (·.2)) i = pl at eb pk
    have B1 := hB.keep s1
    refine ⟨_, rfl, a, rfl, ⟨_, SqL.of B1.top⟩, fun D hD => lc_listX (K := K) (fun j v G => ∃ p, p ≠ D ∧ v = .ref p ∧ G p = some (.lst ((growR pl q ((bs.map (·.2)).getD j [])).map V.int)) ∧ ((∃ b ∈ bs, p = b.1) ∨ H p = none)) (fun j y G G' g ⟨p, np, e, ep, r⟩ => ⟨p, np, e, g _ _ ep, r⟩) (fun j y G zs ⟨p, np, e, ep, r⟩ _ u => ⟨p, np, e, (upd_ne np).trans ep, r⟩) hD (SqL.of B1.top) (by rw [List.length_map]; omega) (fun j x G Rk hx sm nD kR => ?_) fun G ys mx => ?_⟩
    · have jl := (List.getElem?_eq_some_iff.mp hx).1
      rw [List.length_map] at jl
      obtain rfl := at_map (d := (0, [])) hx
      have mem : bs.getD j (0, []) ∈ bs := by
        rw [List.getD_eq_getElem?_getD, List.getElem?_eq_getElem jl]
        exact List.getElem_mem jl
      have er : (bs.map (·.2)).getD j [] = (bs.getD j (0, [])).2 := snd_at bs j
      have eg := (B1.keep sm).at jl
      have nd : (bs.getD j (0, [])).1 ≠ D := fun z => by
        have := B1.at jl
        rw [z, hD] at this
        cases this
      refine ⟨rfl, _, rfl, _, rfl, _, rfl, _, b, _, pl, q, rfl, eg, sm _ _ eb, pk.1, ?_, fun e => ?_, fun p G' g' np' ep' => ?_⟩
      · have := (hr1 _ (mem_at jl)).2
        omega
      · exact kR _ G .refl ⟨_, nd, rfl, by rw [er, e]; exact eg, .inl ⟨_, mem, rfl⟩⟩
      · exact kR _ G' g' ⟨p, fun z => nD (z ▸ np'), rfl, by rw [er]; exact ep', .inr (none_back (s1.trans sm) np')⟩
    · obtain ⟨cs, e1, e2, e3⟩ := pick_rows (H := G) (R := fun j => growR pl q ((bs.map (·.2)).getD j [])) (Pp := fun p => p ≠ D ∧ ((∃ b ∈ bs, p = b.1) ∨ H p = none)) ys 0 fun j y hy => by
        obtain ⟨p, np, e, ep, r⟩ := mx.rel j y hy
        rw [Nat.zero_add]
        exact ⟨p, e, ep, np, r⟩
      have yl : ys.length = bs.length := by rw [mx.len, List.length_map]
      have e2' : cs.map (·.2) = (bs.map (·.2)).map (growR pl q) := by
        rw [e2, yl, ← List.length_map (f := (·.2)) (as := bs)]
        refine Eq.trans (List.map_congr_left fun j _ => ?_) (rngm (bs.map (·.2)) [] (growR pl q))
        rw [Nat.zero_add]
      have g1 := mx.grow
      have ebG := g1 _ _ eb
      refine ⟨_, rfl, _, rfl, (by show 1 ≤ sizeLine; decide), fun z hz => ⟨b, z, _, _, rfl, rfl, Grows.new hz _ _ ebG, upd_same, ?_, fun z2 hz2 => ⟨(by show 1 ≤ sizeLine; decide), fun z3 hz3 => ⟨D, z3, ys, _, rfl, rfl, ?_, upd_same, ?_, fun z4 hz4 => ?_⟩⟩⟩⟩
      · rw [List.length_map]
        show pl.length + 1 ≤ sizeLine
        exact Nat.le_trans (Nat.succ_le_succ pk.2) (by decide)
      · exact (((Grows.new (o := .lst [V.int q]) hz).trans (Grows.new hz2)).trans (Grows.new hz3)) _ _ mx.top
      · rw [yl]
        show bs.length + 1 ≤ sizeLine
        exact Nat.le_trans (Nat.succ_le_succ hl) (by decide)
      · have t3 : Grows (upd (upd G z (.lst [V.int q])) z2 (.lst (pl.map V.int ++ [V.int q]))) (upd (upd (upd (upd G z (.lst [V.int q])) z2 (.lst (pl.map V.int ++ [V.int q]))) z3 (.lst [V.ref z2])) z4 (.lst (ys ++ [V.ref z2]))) := (Grows.new hz3).trans (Grows.new hz4)
        have t2 := ((Grows.new (o := .lst [V.int q]) hz).trans (Grows.new (o := .lst (pl.map V.int ++ [V.int q])) hz2)).trans t3
        have gH : Grows H G := s1.trans g1
        refine k z4 (cs ++ [(z2, pl ++ [q])]) _ ?_ (gH.trans t2) (none_back (gH.trans ((Grows.new (o := .lst [V.int q]) hz).trans ((Grows.new (o := .lst (pl.map V.int ++ [V.int q])) hz2).trans (Grows.new (o := .lst [V.ref z2]) hz3)))) hz4) ⟨?_, fun c hc => ?_⟩ fun c hc => ?_
        · rw [List.map_append, e2']
          unfold comeR
          rw [epl]
          rfl
        · rw [upd_same, List.map_append, e1]
          rfl
        · rcases List.mem_append.mp hc with m | m
          · exact t2 _ _ (e3 c m).1
          · rw [List.mem_singleton.mp m]
            refine t3 _ _ ?_
            rw [upd_same, List.map_append]
            rfl
        · rcases List.mem_append.mp hc with m | m
          · exact (e3 c m).2.2
          · rw [List.mem_singleton.mp m]
            exact .inr (none_back (gH.trans (Grows.new (o := .lst [V.int q]) hz)) hz2)
theorem ok_pb (Z : ProgF K mg) (T : TxtP mg) (Y : ComF K mg) : FnOk P w K mg base CX0 3 Y.fPB Y.dPB ["coming"] (spPB K) := by
  have GComing : FnOk P w K mg base CX0 2 Y.fComing Y.dComing ["thing"] (spComing K) := ok_coming Z T Y
  have GCome : FnOk P w K mg base CX0 2 Y.fCome Y.dCome ["made", "item", "person"] spCome := ok_come T Y
  refine Y.FPB.ok scPB (fun vs H Q E h => ?_) (fun cdv A outer s H vs Q E hr h => ?_)
  · obtain ⟨a, is, rfl, _⟩ := h
    rfl
  · obtain ⟨a, is, rfl, hS, hC, k⟩ := h
    obtain ⟨bd, l20⟩ := bd_of hC
    refine ⟨_, (pss_cons (ps_if (pt_not (pt_val (pe_call GComing (hr.mono (by decide)) rfl Y.gComing Y.FComing.kp Y.bComing .nil pass0 (pa_cons (pv 0) pa_nil)))) (pss_one ps_never) pss_nil)
      (pss_cons (ps_set (i := 1) scPB.nd rfl (.inl rfl) (pe_lst pa_nil))
      (pss_cons (ps_for PassesOwn.never rfl (pi_enumS (by rfl) T.enumerate (by decide) (by decide) (pa_cons (pv 0) pa_nil) rfl) (pg_tup (by rfl) (pgs_cons (pg_name (i := 2) scPB.nd rfl (.inl rfl)) (pgs_cons (pg_name (i := 3) scPB.nd rfl (.inl rfl)) pgs_nil)))
      (pss_one (ps_set (i := 1) scPB.nd rfl (.inl rfl) (pe_call GCome (hr.mono (by decide)) rfl Y.gCome Y.FCome.kp Y.bCome .nil pass0 (pa_cons (pv 1) (pa_cons (pv 3) (pa_cons (pv 2) pa_nil)))))))
      (pss_one (ps_ret (pe_callB (call_sortedR hr.units) (by rfl) T.sorted (by decide +kernel) (pa_cons (pv 1) pa_nil))))))), ?_⟩
    refine ⟨_, rfl, _, _, rfl, .inl (.lst hS (rows_dp is)), fun H1 s1 => ?_⟩
    rw [hC]
    refine ⟨_, rfl, iteF ⟨(by show 0 ≤ sizeLine; decide), fun m0 hm0 => ?_⟩⟩
    have g0 : Grows H (upd H1 m0 (.lst [])) := s1.trans (Grows.new hm0)
    refine ⟨_, rfl, a, _, rfl, g0.seq hS, for_enumS (K := K) (xs := is.map V.int) (k := 1) (fun i σ G => ∃ m cs o2 o3, σ = [some (.ref a), some (.ref m), o2, o3] ∧ Grows H G ∧ Rl G m cs ∧ cs.map (·.2) = madeR is i ∧ ∀ c ∈ cs, H c.1 = none)
      ⟨m0, [], none, none, rfl, g0, ⟨upd_same, fun _ h => nomatch h⟩, rfl, fun _ h => nomatch h⟩ (fun i σ G ⟨_, _, _, _, _, g, _⟩ => g.seq hS) (fun i x T' σ G hx ⟨m, cs, o2, o3, e, g, rl, ec, nw⟩ hT => ?_) fun σ G ⟨m, cs, o2, o3, e, g, rl, ec, nw⟩ => ?_⟩
    · subst e
      have il := (List.getElem?_eq_some_iff.mp hx).1
      rw [List.length_map] at il
      obtain rfl := at_map (d := 0) hx
      have cl : cs.length = i := by
        have := congrArg List.length ec
        rw [List.length_map, madeR_len] at this
        exact this
      have gT : Grows G (upd G T' (.tup [V.int (1 + (i : Nat)), V.int (is.getD i 0)])) := Grows.new hT
      refine ⟨T', _, rfl, SqT.of upd_same, rfl, _, _, rfl, _, _, rfl, rfl, _, rfl, _, rfl, _, rfl, m, cs, is.getD i 0, 1 + (i : Nat), rfl, rl.keep gT, by rw [cl]; exact bd i il, by omega, fun r hr2 => ?_, fun p cs' G' ec' g' np rl' own => ?_⟩
      · rw [ec] at hr2
        have q := madeR_ok bd i (Nat.le_of_lt il) r hr2
        exact ⟨q.1, by omega⟩
      · refine ⟨p, cs', _, _, rfl, (g.trans gT).trans g', rl', ?_, fun c hc => ?_⟩
        · rw [ec', ec]
          rfl
        · rcases own c hc with ⟨b, hb, z⟩ | z
          · rw [z]
            exact nw b hb
          · exact none_back (g.trans gT) z
    · subst e
      rw [List.length_map] at ec
      refine ⟨_, rfl, m, cs, rfl, SqL.of rl.top, fun b hb => SqL.of (rl.each b hb), fun p hp => ?_⟩
      refine k p (cs.mergeSort rowLe) _ ?_ (g.trans (Grows.new hp)) (none_back g hp) ⟨upd_same, fun c hc => Grows.new hp _ _ (rl.each c (List.mem_mergeSort.mp hc))⟩ fun c hc => ⟨fun z => ?_, nw c (List.mem_mergeSort.mp hc)⟩
      · rw [sort_rows, ec]
        rfl
      · have q := rl.each c (List.mem_mergeSort.mp hc)
        rw [z, hp] at q
        cases q
end
end K05

namespace K05
open PySem PySem.Spec PyProof.Rows L2 SortR LcM RepA
/-- the part with the least person: the greatest one that begins alike -/
def firstN (rs : List (List Int)) (g : List Int) : Nat → List Int
  | 0 => [g.getD 0 0]
  | n + 1 => let f := firstN rs g n; let r := rs.getD n []
    if r.getD 0 0 = g.getD 0 0 ∧ f.length < r.length ∧ r.length < g.length then r else f
def secR (rs : List (List Int)) (g : List Int) : List Int := g.filter fun x => decide (x ∉ firstN rs g rs.length)
def spBoth : Sp := fun vs H Q _ => ∃ (a b : Addr) (bs : List (Addr × List Int)) (g : List Int), vs = [.ref a, .ref b] ∧ Rl H a bs ∧ H b = some (.lst (g.map V.int)) ∧ g ≠ [] ∧ (∀ r ∈ bs.map (·.2), r ≠ []) ∧ g.length ≤ 1000 ∧ bs.length ≤ 1000 ∧
  ∀ (p q1 q2 : Addr) (H' : Hp), Grows H H' → H' p = some (.lst [.ref q1, .ref q2]) → H' q2 = some (.lst ((secR (bs.map (·.2)) g).map V.int)) → Q (.ref p) H'
section
variable {P : Program} {w : World} {K : PySem.W.Frag} {mg : Str → Option Value} {base : Heap}
theorem scBoth : FnScope ["parting", "group", "first", "inner", "person"] ["parting", "group"] (defScope sBoth) := ⟨rfl, rfl, rfl, by decide +kernel, rfl, by decide +kernel, by decide +kernel⟩
theorem at_head {r : List Int} (h : r ≠ []) : atI (r.map V.int) 0 = some (V.int (r.getD 0 0)) := by
  have pz : 0 < r.length := List.length_pos_iff.mpr h
  refine atI_nat (j := 0) ?_
  rw [List.getElem?_map, List.getD_eq_getElem?_getD, List.getElem?_eq_getElem pz]
  rfl
theorem ok_both (T : TxtP mg) (Y : ComF K mg) : FnOk P w K mg base CX0 1 Y.fBoth Y.dBoth ["parting", "group"] spBoth := by
  refine Y.FBoth.ok scBoth (fun vs H Q E h => ?_) (fun cdv A outer s H vs Q E hr h => ?_)
  · obtain ⟨a, b, bs, g, rfl, _⟩ := h
    rfl
  · obtain ⟨a, b, bs, g, rfl, hB, hb, hne, hrs, hgl, hbl, k⟩ := h
    refine ⟨_, (pss_cons (ps_set (i := 2) scBoth.nd rfl (.inr rfl) (pe_lst (pa_cons (pe_ix (r := rIxL K) ix_list (pv 1) pe_int (fun _ _ => rfl)) pa_nil)))
      (pss_cons (ps_for PassesOwn.never rfl (pi_list (pv 0)) (pg_name (i := 3) scBoth.nd rfl (.inl rfl))
      (pss_one (ps_if (PW.pt (pw_and (pt_cmpR op_eq (pe_ix (r := rIxL K) ix_list (pv 3) pe_int (fun _ _ => rfl)) (pe_ix (r := rIxL K) ix_list (pv 1) pe_int (fun _ _ => rfl)) (nomark _)) (pw_and1 (pt_chain op_lt op_lt (pe_callB call_len_seq (by rfl) T.len (by decide +kernel) (pa_cons (pv 2) pa_nil)) (pe_callB call_len_seq (by rfl) T.len (by decide +kernel) (pa_cons (pv 3) pa_nil)) (pe_callB call_len_seq (by rfl) T.len (by decide +kernel) (pa_cons (pv 1) pa_nil)))))) (pss_one (ps_set (i := 2) scBoth.nd rfl (.inr rfl) (pv 3))) pss_nil)))
      (pss_one (ps_ret (pe_lst (pa_cons (pe_callTy call_list_of (by rfl) T.list (by decide +kernel) (pa_cons (pv 2) pa_nil)) (pa_cons (pe_lc (own := [("person", 4)]) (g := gName 4)  rfl scBoth.nd (pi_list (pv 1)) (blkOk_by (own := [("person", 4)]) (N := ["parting", "group", "first", "inner", "person"]) (sc := defScope sBoth) (by decide +kernel)) (fun _ _ _ _ _ => pg_name (i := 4) scBoth.nd rfl (Or.inl rfl)) (fun _ _ _ _ _ => (pts_one (pt_cmpR (r := rIn K true) (by exact op_notIn_seq) (pv 4) (pv 2) (by rfl)))) (fun _ _ _ _ _ => (pv 4))) pa_nil))))))), ?_⟩
    refine ⟨_, rfl, b, _, 0, _, rfl, rfl, SqL.of hb, at_head hne, (by show 1 ≤ sizeLine; decide), fun f0 hf0 => ?_⟩
    have g0 : Grows H (upd H f0 (.lst [V.int (g.getD 0 0)])) := Grows.new hf0
    refine ⟨_, rfl, a, rfl, ⟨_, SqL.of (hB.keep g0).top⟩, for_list (K := K) (a := a) (xs := bs.map fun b => V.ref b.1) (fun i σ G => ∃ f o, σ = [some (.ref a), some (.ref b), some (.ref f), o, none] ∧ Grows H G ∧ G f = some (.lst ((firstN (bs.map (·.2)) g i).map V.int)))
      ⟨f0, none, rfl, g0, upd_same⟩ (fun i σ G _ ⟨_, _, _, g', _⟩ => SqL.of (g' _ _ hB.top)) (fun i x σ G hx ⟨f, o, e, g', ef⟩ => ?_) fun σ G ⟨f, o, e, g', ef⟩ => ?_⟩
    · subst e
      have il := (List.getElem?_eq_some_iff.mp hx).1
      rw [List.length_map] at il
      obtain rfl := at_map (d := (0, [])) hx
      have ei := (hB.keep g').at il
      have ne := hrs _ (mem_at il)
      have eb := g' _ _ hb
      refine ⟨_, rfl, _, _, 0, _, rfl, rfl, SqL.of ei, at_head ne, _, rfl, b, _, 0, _, rfl, rfl, SqL.of eb, at_head hne, rfl, _, rfl, ?_⟩
      have same : ¬ ((bs.getD i (0, [])).2.getD 0 0 = g.getD 0 0 ∧ (firstN (bs.map (·.2)) g i).length < (bs.getD i (0, [])).2.length ∧ (bs.getD i (0, [])).2.length < g.length) → firstN (bs.map (·.2)) g (i + 1) = firstN (bs.map (·.2)) g i := fun z => by
        show (if _ then _ else _) = _
        rw [snd_at]
        exact if_neg z
      by_cases h1 : (bs.getD i (0, [])).2.getD 0 0 = g.getD 0 0
      · rw [decide_eq_true (congrArg V.int h1)]
        refine iteT ⟨_, rfl, f, _, rfl, .inl (SqL.of ef), _, rfl, _, _, rfl, .inl (SqL.of ei), _, _, rfl, rfl, _, rfl, ?_⟩
        rw [List.length_map, List.length_map]
        by_cases h2 : (firstN (bs.map (·.2)) g i).length < (bs.getD i (0, [])).2.length
        · rw [if_pos (decide_eq_true (show (((firstN (bs.map (·.2)) g i).length : Nat) : Int) < ((bs.getD i (0, [])).2.length : Nat) by omega))]
          refine ⟨_, rfl, b, _, rfl, .inl (SqL.of eb), _, _, rfl, rfl, _, rfl, ?_⟩
          rw [List.length_map]
          by_cases h3 : (bs.getD i (0, [])).2.length < g.length
          · rw [decide_eq_true (show (((bs.getD i (0, [])).2.length : Nat) : Int) < (g.length : Nat) by omega)]
            refine iteT ⟨_, rfl, _, _, rfl, g', ?_⟩
            have e : firstN (bs.map (·.2)) g (i + 1) = (bs.getD i (0, [])).2 := by
              show (if _ then _ else _) = _
              rw [snd_at]
              exact if_pos ⟨h1, h2, h3⟩
            rw [e]
            exact ei
          · rw [decide_eq_false (show ¬ (((bs.getD i (0, [])).2.length : Nat) : Int) < (g.length : Nat) by omega)]
            exact iteF ⟨f, _, rfl, g', by rw [same fun z => h3 z.2.2]; exact ef⟩
        · rw [if_neg (by rw [decide_eq_false (show ¬ (((firstN (bs.map (·.2)) g i).length : Nat) : Int) < ((bs.getD i (0, [])).2.length : Nat) by omega)]; exact Bool.false_ne_true)]
          refine ⟨_, rfl, iteF ⟨f, _, rfl, g', by rw [same fun z => h2 z.2.1]; exact ef⟩⟩
      · rw [decide_eq_false fun z => h1 (V.int.inj z)]
        exact iteF (iteF ⟨f, _, rfl, g', by rw [same fun z => h1 z.1]; exact ef⟩)
    · subst e
      rw [List.length_map] at ef
      have eb := g' _ _ hb
      refine ⟨_, rfl, f, _, rfl, .inl (SqL.of ef), fun q1 hq1 => ?_⟩
      have g1 : Grows G (upd G q1 (.lst ((firstN (bs.map (·.2)) g bs.length).map V.int))) := Grows.new hq1
      refine ⟨_, rfl, b, rfl, ⟨_, SqL.of (g1 _ _ eb)⟩, fun D hD => lc_listT (K := K) (fun i => decide (g.getD i 0 ∉ firstN (bs.map (·.2)) g bs.length)) (fun i => V.int (g.getD i 0)) hD (SqL.of (g1 _ _ eb)) (by rw [List.length_map]; omega) (fun i x G2 Ry Rn hx sm ky kn => ?_) fun G2 sm eD => ?_⟩
      · obtain rfl := at_map (d := 0) hx
        refine ⟨rfl, _, rfl, _, rfl, f, _, rfl, .inl (SqL.of (sm _ _ (g1 _ _ ef))), rfl, flat_ints _, _, rfl, ?_⟩
        show if (!inV (V.int (g.getD i 0)) ((firstN (bs.map (·.2)) g bs.length).map V.int)) = true then _ else _
        rw [inV_ints]
        by_cases m : g.getD i 0 ∈ firstN (bs.map (·.2)) g bs.length
        · rw [decide_eq_true m]
          exact iteF (kn (decide_eq_false fun z => z m) _ .refl)
        · rw [decide_eq_false m]
          exact iteT ⟨_, rfl, ky (decide_eq_true m) _ .refl⟩
      · rw [List.length_map] at eD
        have ek : kept (fun i => decide (g.getD i 0 ∉ firstN (bs.map (·.2)) g bs.length)) (fun i => V.int (g.getD i 0)) g.length = (secR (bs.map (·.2)) g).map V.int := by
          unfold kept secR
          rw [List.length_map]
          have e := (rngm g 0 id).trans (List.map_id g)
          have e2 : g.filter (fun x => decide (x ∉ firstN (bs.map (·.2)) g bs.length)) = ((List.range g.length).map fun i => g.getD i 0).filter fun x => decide (x ∉ firstN (bs.map (·.2)) g bs.length) := by
            rw [show ((List.range g.length).map fun i => g.getD i 0) = g from e]
          rw [e2, List.filter_map, List.map_map]
          rfl
        rw [ek] at eD
        refine ⟨(by show 2 ≤ sizeLine; decide), fun p hp => k p q1 D _ ((g'.trans g1).trans (sm.trans (Grows.new hp))) upd_same (Grows.new hp _ _ eD)⟩
end
end K05

namespace K05
open PySem PySem.Spec PyProof.Rows L2 SortR LcM RepA
def upto (n : Nat) : List Int := (List.range n).map fun i => (0 + (i : Nat) : Int)
def isMinB (js : List (List Int)) (i : Nat) : Bool := (List.range js.length).all fun j => decide ((js.getD i []).length ≤ (js.getD j []).length) && (!decide (j < i) || decide ((js.getD i []).length < (js.getD j []).length))
def itemAt (come : List (List Int)) (r : List Int) : Option Int :=
  if r.dropLast.length = 1 then some (r.dropLast.getD 0 0) else if r.dropLast = [] then none else (secR come r.dropLast).head?.map fun x => -x
def itemC (come : List (List Int)) (p : Int) (v : Int) : Bool :=
  let js := come.filter fun r => decide (p ∈ r)
  !js.isEmpty && (List.range js.length).all fun i => !isMinB js i || decide (itemAt come (js.getD i []) = some v)
def itemB (rs : List (List Int)) (p : Nat) (v : Int) : Bool := itemC (cutR rs (upto (p + 1))) p v
theorem cutR_row {rs : List (List Int)} {ns q : List Int} (h : q ∈ cutR rs ns) : 2 ≤ q.length ∧ ∃ r ∈ rs, q = meet ns r := by
  unfold cutR at h
  rw [List.mem_mergeSort] at h
  obtain ⟨i, il, hp, rfl⟩ := firsts_of _ _ _ _ h
  unfold two at hp
  have := of_decide_eq_true hp
  refine ⟨by omega, rs.getD i [], ?_, rfl⟩
  rw [List.getD_eq_getElem?_getD, List.getElem?_eq_getElem il]
  exact List.getElem_mem il
theorem meet_le (ns r : List Int) : (meet ns r).length ≤ r.length := by
  unfold meet
  rw [List.length_map]
  exact Nat.le_trans (List.length_filter_le _ _) (Nat.le_of_eq (List.length_range))
theorem cutR_len (rs : List (List Int)) (ns : List Int) : (cutR rs ns).length ≤ rs.length := by
  unfold cutR
  rw [List.length_mergeSort]
  exact firsts_le _ _ _
theorem upto_V (n : Nat) : rgV 0 ((0 : Int) + (n : Nat)) = (upto n).map V.int := by
  unfold rgV upto
  rw [List.map_map]
  have e : (0 + (n : Nat) - 0 : Int).toNat = n := by omega
  rw [e]
  rfl
theorem filt {α : Type} (d : α) (p : α → Bool) (cs : List α) : ((List.range cs.length).filter fun i => p (cs.getD i d)).map (fun i => cs.getD i d) = cs.filter p := by
  have e := (rngm cs d id).trans (List.map_id cs)
  have e2 : cs.filter p = ((List.range cs.length).map fun i => cs.getD i d).filter p := by
    rw [show ((List.range cs.length).map fun i => cs.getD i d) = cs from e]
  rw [e2, List.filter_map]
  rfl
theorem cut_last {r : List Int} (h : r ≠ []) : cutV (r.map V.int) none (some (-1)) = r.dropLast.map V.int := by
  have pz : 0 < r.length := List.length_pos_iff.mpr h
  unfold cutV HT.sIx
  rw [List.length_map]
  show List.take ((if (-1 : Int) < 0 then ((-1 : Int) + (r.length : Nat)).toNat else _) - 0) (List.drop 0 (r.map V.int)) = _
  rw [if_pos (by decide), List.drop_zero, Nat.sub_zero, show ((-1 : Int) + (r.length : Nat)).toNat = r.length - 1 by omega, ← List.map_take, List.dropLast_eq_take]
def spItem (K : PySem.W.Frag) : Sp := fun vs H Q _ => ∃ (a : Addr) (bs : List (Addr × List Int)) (p : Nat) (v : Int), vs = [.ref a, .int (p : Nat)] ∧ Rw K H a bs ∧ Sz (bs.map (·.2)) ∧ p ≤ 100 ∧ itemB (bs.map (·.2)) p v = true ∧ ∀ H', Grows H H' → Q (.int v) H'
def spComOf (K : PySem.W.Frag) : Sp := fun vs H Q _ => ∃ (a : Addr) (bs : List (Addr × List Int)) (is : List Int), vs = [.ref a] ∧ Rw K H a bs ∧ Sz (bs.map (·.2)) ∧ isP (bs.map (·.2)) = true ∧ is.length = bs.length ∧ (∀ j, j < is.length → itemB (bs.map (·.2)) (j + 1) (is.getD j 0) = true) ∧
  ∀ (p : Addr) (H' : Hp), Grows H H' → H p = none → H' p = some (.lst (is.map V.int)) → Q (.ref p) H'
section
variable {P : Program} {w : World} {K : PySem.W.Frag} {mg : Str → Option Value} {base : Heap}
theorem scItem : FnScope ["parting", "person", "come", "joined", "place", "group"] ["parting", "person"] (defScope sItem) := ⟨rfl, rfl, rfl, by decide +kernel, rfl, by decide +kernel, by decide +kernel⟩
theorem ok_item (T : TxtP mg) (TC : Txt0 mg) (Y : ComF K mg) : FnOk P w K mg base CX0 2 Y.fItem Y.dItem ["parting", "person"] (spItem K) := by
  have GCut : FnOk P w K mg base CX0 1 Y.fCut Y.dCut ["parting", "some"] (spCut K) := ok_cut Y.FCut T
  have GBoth : FnOk P w K mg base CX0 1 Y.fBoth Y.dBoth ["parting", "group"] spBoth := ok_both T Y
  refine Y.FItem.ok scItem (fun vs H Q E h => ?_) (fun cdv A outer s H vs Q E hr h => ?_)
  · obtain ⟨a, bs, p, v, rfl, _⟩ := h
    rfl
  · obtain ⟨a, bs, p, v, rfl, hB, hz, hp, hi, k⟩ := h
    refine ⟨_, (pss_cons (ps_set (i := 2) scItem.nd rfl (.inl rfl) (pe_call GCut (hr.mono (by decide)) rfl Y.gCut Y.FCut.kp Y.bCut .nil pass0 (pa_cons (pv 0) (pa_cons (pe_listRg rfl (by rfl) T.list (prg_1 (by rfl) T.range (pe_op op_add (pv 1) pe_int))) pa_nil))))
      (pss_cons (ps_set (i := 3) scItem.nd rfl (.inl rfl) (pe_minLen rfl (by rfl) TC.min (by rfl) T.len (pe_lc (own := [("group", 5)]) (g := gName 5)  rfl scItem.nd (pi_list (pv 2)) (blkOk_by (own := [("group", 5)]) (N := ["parting", "person", "come", "joined", "place", "group"]) (sc := defScope sItem) (by decide +kernel)) (fun _ _ _ _ _ => pg_name (i := 5) scItem.nd rfl (Or.inl rfl)) (fun _ _ _ _ _ => (pts_one (pt_cmpR (r := rIn K false) (by exact op_in_seq) (pv 1) (pv 5) (by rfl)))) (fun _ _ _ _ _ => (pv 5)))))
      (pss_cons (ps_set (i := 4) scItem.nd rfl (.inl rfl) (pe_slice sl_list (pv 3) po_none (po_some (pe_un un_neg pe_int))))
      (pss_cons (ps_if (pt_cmpR op_eq (pe_callB call_len_seq (by rfl) T.len (by decide +kernel) (pa_cons (pv 4) pa_nil)) pe_int (nomark _)) (pss_one (ps_ret (pe_ix (r := rIxL K) ix_list (pv 4) pe_int (fun _ _ => rfl)))) pss_nil)
      (pss_one (ps_ret (pe_un un_neg (pe_ix (r := rIxL K) ix_list (pe_ix (r := rIxL K) ix_list (pe_call GBoth (hr.mono (by decide)) rfl Y.gBoth Y.FBoth.kp Y.bBoth .nil pass0 (pa_cons (pv 2) (pa_cons (pv 4) pa_nil))) pe_int (fun _ _ => rfl)) pe_int (fun _ _ => rfl))))))))), ?_⟩
    refine ⟨_, rfl, _, rfl, _, _, rfl, rfl, _, rfl, .of_le (by decide) (by omega) (by decide) (by omega), fun q1 hq1 => ?_⟩
    rw [show ((p : Nat) : Int) + 1 = 0 + ((p + 1 : Nat) : Int) by omega, upto_V]
    have g1 : Grows H (upd H q1 (.lst ((upto (p + 1)).map V.int))) := Grows.new hq1
    refine ⟨a, q1, bs, _, rfl, hB.keep g1, hz, SqL.of upd_same, ?_, fun c cs H2 ecs g2 nc nw ap top => ?_⟩
    · unfold upto
      rw [List.length_map, List.length_range]
      omega
    have ci : itemC (cs.map (·.2)) p v = true := by
      rw [ecs]
      exact hi
    have csl : cs.length ≤ 1000 := by
      have e := congrArg List.length ecs
      rw [List.length_map] at e
      rw [e]
      exact Nat.le_trans (cutR_len _ _) hz.1
    have row : ∀ r ∈ cs.map (·.2), 2 ≤ r.length ∧ r.length ≤ 1000 := fun r hr2 => by
      rw [ecs] at hr2
      obtain ⟨a1, s1, hs, e⟩ := cutR_row hr2
      refine ⟨a1, ?_⟩
      rw [e]
      exact Nat.le_trans (meet_le _ _) (hz.2 _ hs)
    have rl : Rl H2 c cs := ⟨top, nw.lists⟩
    refine ⟨_, rfl, c, rfl, ⟨_, SqL.of top⟩, fun D hD => lc_listT (K := K) (fun i => decide ((p : Int) ∈ (cs.getD i (0, [])).2)) (fun i => V.ref (cs.getD i (0, [])).1) hD (SqL.of top) (by rw [List.length_map]; omega) (fun i x G Ry Rn hx sm ky kn => ?_) fun G sm eD => ?_⟩
    · have il := (List.getElem?_eq_some_iff.mp hx).1
      rw [List.length_map] at il
      obtain rfl := at_map (d := (0, [])) hx
      refine ⟨rfl, _, rfl, _, rfl, _, _, rfl, .inl (SqL.of ((rl.keep sm).at il)), rfl, flat_ints _, _, rfl, ?_⟩
      show if (inV (V.int p) ((cs.getD i (0, [])).2.map V.int)) = true then _ else _
      rw [inV_ints]
      by_cases m : (p : Int) ∈ (cs.getD i (0, [])).2
      · rw [decide_eq_true m]
        exact iteT ⟨_, rfl, ky (decide_eq_true m) _ .refl⟩
      · rw [decide_eq_false m]
        exact iteF (kn (decide_eq_false m) _ .refl)
    · rw [List.length_map] at eD
      have ek : kept (fun i => decide ((p : Int) ∈ (cs.getD i (0, [])).2)) (fun i => V.ref (cs.getD i (0, [])).1) cs.length = (cs.filter fun c => decide ((p : Int) ∈ c.2)).map fun c => V.ref c.1 := by
        rw [← filt (0, []) (fun c => decide ((p : Int) ∈ c.2)) cs, List.map_map]
        rfl
      rw [ek] at eD
      generalize ejs : (cs.filter fun c => decide ((p : Int) ∈ c.2)) = js at eD
      have ejs2 : (cs.map (·.2)).filter (fun r => decide ((p : Int) ∈ r)) = js.map (·.2) := by
        rw [List.filter_map, ← ejs]
        rfl
      have mem : ∀ j ∈ js, j ∈ cs := fun j hj => by
        rw [← ejs] at hj
        exact (List.mem_filter.mp hj).1
      unfold itemC at ci
      rw [ejs2, Bool.and_eq_true] at ci
      obtain ⟨c1, c2⟩ := ci
      have jne : js ≠ [] := fun z => by
        rw [z] at c1
        cases c1
      refine ⟨D, js, rfl, SqL.of eD, fun b hb => SqL.of (sm _ _ (nw.lists b (mem b hb))), jne, fun i il fm => ?_⟩
      have hmin : isMinB (js.map (·.2)) i = true := by
        unfold isMinB
        refine List.all_eq_true.mpr fun j hj => ?_
        have jl := List.mem_range.mp hj
        rw [List.length_map] at jl
        have q := fm j jl
        unfold lenAt at q
        rw [snd_at, snd_at, Bool.and_eq_true]
        refine ⟨decide_eq_true (by omega), ?_⟩
        by_cases l : j < i
        · have := q.2 l
          rw [decide_eq_true l, decide_eq_true (show (js.getD i (0, [])).2.length < (js.getD j (0, [])).2.length by omega)]
          rfl
        · rw [decide_eq_false l]
          rfl
      have at_i := List.all_eq_true.mp c2 i (List.mem_range.mpr (by rw [List.length_map]; exact il))
      rw [hmin, Bool.not_true, Bool.false_or, snd_at] at at_i
      have at_i := of_decide_eq_true at_i
      have memi : js.getD i (0, []) ∈ js := by
        rw [List.getD_eq_getElem?_getD, List.getElem?_eq_getElem il]
        exact List.getElem_mem il
      have rowi := row _ (List.mem_map.mpr ⟨_, mem _ memi, rfl⟩)
      have lists := sm _ _ (nw.lists _ (mem _ memi))
      generalize hJ : js.getD i (0, []) = J at at_i memi rowi lists
      have ne2 : J.2 ≠ [] := fun z => by rw [z] at rowi; exact absurd rowi.1 (by decide)
      have dl : J.2.dropLast.length = J.2.length - 1 := List.length_dropLast
      refine ⟨_, rfl, 1, rfl, -1, rfl, J.1, _, rfl, SqL.of lists, fun pl hpl => ?_⟩
      rw [cut_last ne2]
      have gpl : Grows G (upd G pl (.lst (J.2.dropLast.map V.int))) := Grows.new hpl
      have gH := g1.trans (g2.trans sm)
      refine ⟨_, rfl, pl, _, rfl, .inl (SqL.of upd_same), rfl, _, rfl, ?_⟩
      rw [List.length_map]
      have plne : J.2.dropLast ≠ [] := fun z => by
        have := congrArg List.length z
        rw [dl] at this
        have := rowi.1
        simp at *
        omega
      by_cases h1 : J.2.dropLast.length = 1
      · rw [decide_eq_true (show V.int ((J.2.dropLast.length : Nat) : Int) = V.int 1 by rw [h1]; rfl)]
        unfold itemAt at at_i
        rw [if_pos h1] at at_i
        have ev := Option.some.inj at_i
        refine iteT ⟨_, rfl, pl, _, 0, _, rfl, rfl, SqL.of upd_same, at_head plne, ?_⟩
        rw [ev]
        exact k _ (gH.trans gpl)
      · rw [decide_eq_false fun z => h1 (by have := V.int.inj z; omega)]
        unfold itemAt at at_i
        rw [if_neg h1, if_neg plne] at at_i
        refine iteF ⟨_, rfl, _, rfl, c, pl, cs, J.2.dropLast, rfl, rl.keep (sm.trans gpl), upd_same, plne, fun r hr2 z => ?_, by have := rowi.2; omega, csl, fun r1 r2 r3 G3 g3 e1 e2 => ⟨_, _, 1, V.ref r3, rfl, rfl, SqL.of e1, rfl, ?_⟩⟩
        · have := (row r hr2).1
          rw [z] at this
          exact absurd this (by decide)
        · generalize secR (cs.map (·.2)) J.2.dropLast = sec at e2 at_i
          cases sec with
          | nil => cases at_i
          | cons x xs =>
            have ev : -x = v := Option.some.inj at_i
            refine ⟨_, _, 0, V.int x, rfl, rfl, SqL.of e2, at_head (r := x :: xs) (fun z => nomatch z), _, rfl, ?_⟩
            have kk := k _ (gH.trans (gpl.trans g3))
            rw [← ev] at kk
            exact kk
theorem scComOf : FnScope ["parting", "person"] ["parting"] (defScope sComOf) := ⟨rfl, rfl, rfl, by decide +kernel, rfl, by decide +kernel, by decide +kernel⟩
theorem ok_comOf (Z : ProgF K mg) (T : TxtP mg) (TC : Txt0 mg) (Y : ComF K mg) : FnOk P w K mg base CX0 7 Y.fComOf Y.dComOf ["parting"] (spComOf K) := by
  have GPs : FnOk P w K mg base CX0 6 Z.fPs Z.dPs ["parting"] (spPs K) := ok_persons Z T
  have GItem : FnOk P w K mg base CX0 2 Y.fItem Y.dItem ["parting", "person"] (spItem K) := ok_item T TC Y
  refine Y.FComOf.ok scComOf (fun vs H Q E h => ?_) (fun cdv A outer s H vs Q E hr h => ?_)
  · obtain ⟨a, bs, is, rfl, _⟩ := h
    rfl
  · obtain ⟨a, bs, is, rfl, hB, hz, hP, hl, hi, k⟩ := h
    refine ⟨_, (pss_one (ps_ret (pe_lc (own := [("person", 1)]) (g := gName 1) (tt := tYes) rfl scComOf.nd (pi_range2 (by rfl) T.range (pa_cons pe_int (pa_cons (pe_call GPs (hr.mono (by decide)) rfl Z.gPs Z.FPs.kp Z.bPs .nil pass0 (pa_cons (pv 0) pa_nil)) pa_nil))) (blkOk_by (own := [("person", 1)]) (N := ["parting", "person"]) (sc := defScope sComOf) (by decide +kernel)) (fun _ _ _ _ _ => pg_name (i := 1) scComOf.nd rfl (Or.inl rfl)) (fun _ _ _ _ _ => pts_nil) (fun _ _ _ _ _ => (pe_call GItem (hr.mono (by decide)) rfl Y.gItem Y.FItem.kp Y.bItem .nil pass0 (pa_cons (pv 0) (pa_cons (pv 1) pa_nil))))))), ?_⟩
    have l20 : bs.length < 20 := by
      have q := hP
      unfold isP at q
      simp only [Bool.and_eq_true, decide_eq_true_eq] at q
      have := q.1.1.1
      rw [List.length_map] at this
      omega
    refine ⟨_, rfl, a, bs, rfl, hB, hz, hP, fun H1 s1 => ?_⟩
    have en : ((bs.length : Int) + 1 - 1).toNat = is.length := by omega
    refine ⟨1, _, rfl, by omega, fun D hD => lc_range (lo := 1) (n := ((bs.length : Int) + 1 - 1).toNat) (fun i G => Grows H1 G ∧ G D = some (.lst ((is.take i).map V.int))) ⟨Grows.new hD, upd_same⟩ (fun i G il ⟨g, e⟩ => ?_) fun G ⟨g, e⟩ => ?_⟩
    · rw [en] at il
      refine ⟨rfl, _, rfl, _, rfl, a, bs, i + 1, is.getD i 0, ?_, (hB.keep s1).keep g, hz, by omega, hi i il, fun G2 g2 => ⟨_, g2 _ _ e, ?_, fun c o q => ?_, ?_⟩⟩
      · show [V.ref a, V.int (1 + (i : Nat))] = [V.ref a, V.int ((i + 1 : Nat) : Int)]
        rw [show (1 + (i : Nat) : Int) = ((i + 1 : Nat) : Int) by omega]
      · rw [List.length_map, List.length_take]
        exact small1000 (by omega)
      · rw [upd_ne (ne_of_none q hD)]
        exact g2 _ _ (g c o q)
      · rw [upd_same, List.take_succ, List.map_append, List.getD_eq_getElem?_getD, List.getElem?_eq_getElem il]
        rfl
    · rw [en, List.take_length] at e
      exact k D G (s1.trans g) (none_back s1 hD) e
end
end K05

namespace K05
open PySem PySem.Spec PyProof.Rows L2 SortR LcM RepA
/-! ### sorting that the kernel can do -/
def ins {α : Type} (le : α → α → Bool) (x : α) : List α → List α
  | [] => [x]
  | y :: ys => if le x y = true then x :: y :: ys else y :: ins le x ys
def isort {α : Type} (le : α → α → Bool) : List α → List α
  | [] => []
  | x :: xs => ins le x (isort le xs)
theorem ins_perm {α : Type} (le : α → α → Bool) (x : α) : ∀ ys : List α, (ins le x ys).Perm (x :: ys)
  | [] => .refl _
  | y :: ys => by
    unfold ins
    split
    · exact .refl _
    · exact ((ins_perm le x ys).cons y).trans (List.Perm.swap _ _ _)
theorem isort_perm {α : Type} (le : α → α → Bool) : ∀ xs : List α, (isort le xs).Perm xs
  | [] => .refl _
  | x :: xs => (ins_perm le x _).trans ((isort_perm le xs).cons x)
theorem ins_up {α : Type} {le : α → α → Bool} (tr : ∀ a b c, le a b = true → le b c = true → le a c = true) (tot : ∀ a b, le a b = true ∨ le b a = true) (x : α) : ∀ ys : List α, ys.Pairwise (fun a b => le a b = true) → (ins le x ys).Pairwise (fun a b => le a b = true)
  | [], _ => List.pairwise_singleton _ _
  | y :: ys, h => by
    obtain ⟨h1, h2⟩ := List.pairwise_cons.mp h
    unfold ins
    by_cases e : le x y = true
    · rw [if_pos e]
      refine List.pairwise_cons.mpr ⟨fun z hz => ?_, h⟩
      rcases List.mem_cons.mp hz with q | q
      · rw [q]; exact e
      · exact tr _ _ _ e (h1 z q)
    · rw [if_neg e]
      refine List.pairwise_cons.mpr ⟨fun z hz => ?_, ins_up tr tot x ys h2⟩
      rcases List.mem_cons.mp ((ins_perm le x ys).mem_iff.mp hz) with q | q
      · rw [q]; exact (tot x y).resolve_left e
      · exact h1 z q
theorem isort_up {α : Type} {le : α → α → Bool} (tr : ∀ a b c, le a b = true → le b c = true → le a c = true) (tot : ∀ a b, le a b = true ∨ le b a = true) : ∀ xs : List α, (isort le xs).Pairwise (fun a b => le a b = true)
  | [] => .nil
  | x :: xs => ins_up tr tot x _ (isort_up tr tot xs)
theorem sort_is {α : Type} {le : α → α → Bool} (tr : ∀ a b c, le a b = true → le b c = true → le a c = true) (tot : ∀ a b, le a b = true ∨ le b a = true) (anti : ∀ a b, le a b = true → le b a = true → a = b) (xs : List α) : xs.mergeSort le = isort le xs :=
  List.Perm.eq_of_pairwise (le := fun a b => le a b = true) (fun a b _ _ => anti a b) (List.pairwise_mergeSort tr (fun a b => by
    rcases tot a b with h | h
    · rw [h]; rfl
    · rw [h, Bool.or_true]) xs) (isort_up tr tot xs) ((List.mergeSort_perm _ _).trans (isort_perm le xs).symm)
def rowB (p q : List Int) : Bool := decide (p ≤ q)
theorem sort_rowsI (xs : List (List Int)) : (xs.mergeSort fun p q => decide (p ≤ q)) = isort rowB xs :=
  sort_is (le := rowB) (fun a b c h1 h2 => decide_eq_true (List.le_trans (of_decide_eq_true h1) (of_decide_eq_true h2))) (fun a b => (List.le_total a b).imp decide_eq_true decide_eq_true) (fun a b h1 h2 => List.le_antisymm (of_decide_eq_true h1) (of_decide_eq_true h2)) xs
theorem sort_intsI (xs : List Int) : xs.mergeSort intLe = isort intLe xs :=
  sort_is (fun a b c h1 h2 => by
    unfold intLe at *
    simp only [decide_eq_true_eq] at *
    omega) (fun a b => by
    unfold intLe
    simp only [decide_eq_true_eq]
    omega) (fun a b h1 h2 => by
    unfold intLe at *
    simp only [decide_eq_true_eq] at *
    omega) xs
def folkS : Nest → List Int
  | .leaf i => [i]
  | .node l r => isort intLe (folkS l ++ folkS r)
theorem folkS_eq : ∀ t : Nest, t.folk = folkS t
  | .leaf _ => rfl
  | .node l r => by
    show (l.folk ++ r.folk).mergeSort intLe = isort intLe (folkS l ++ folkS r)
    rw [sort_intsI, folkS_eq l, folkS_eq r]
def lotsS : Nest → List (List Int)
  | .leaf _ => []
  | .node l r => isort rowB (folkS (.node l r) :: (lotsS l ++ lotsS r))
theorem lotsS_eq : ∀ t : Nest, t.lots = lotsS t
  | .leaf _ => rfl
  | .node l r => by
    show ((Nest.node l r).folk :: (l.lots ++ r.lots)).mergeSort _ = isort rowB (folkS (.node l r) :: (lotsS l ++ lotsS r))
    rw [sort_rowsI, folkS_eq, lotsS_eq l, lotsS_eq r]
def cutS (rs : List (List Int)) (ns : List Int) : List (List Int) := isort rowB (firsts (fun i => two (meet ns (rs.getD i []))) (fun i => meet ns (rs.getD i [])) rs.length)
theorem cutS_eq (rs : List (List Int)) (ns : List Int) : cutR rs ns = cutS rs ns := sort_rowsI _
/-- all coming lists of k + 1 persons -/
def itsR (k : Nat) : List Int := (List.range (2 * k + 1)).map fun (i : Nat) => (i : Int) - k
def rowsR : Nat → List (List Int)
  | 0 => [[]]
  | k + 1 => (rowsR k).flatMap fun row => (itsR k).map fun i => row ++ [i]
def goodRow (r : List Int) : Bool :=
  let L := lotsS (nestN r r.length)
  isC (.list (r.map .int)) && decide (isort rowB (madeR r r.length) = L) && decide (L.length = r.length) && (List.range r.length).all (fun j => itemC (cutS L (upto (j + 1 + 1))) ((j + 1 : Nat) : Int) (r.getD j 0)) && isP L && L.all (fun q => decide (q.length ≤ 20) && q.all fun x => decide (x.natAbs < 100)) && r.all (fun x => decide (x.natAbs < 100)) && decide (r.length ≤ 19)
theorem good_all : ((List.range 5).all fun k => (rowsR k).all goodRow) = true := by decide +kernel
def keyR (r : List Int) : List Nat := (PyData.list (rowD (lotsS (nestN r r.length)))).shown.cps.toList
theorem keys_all : ((List.range 5).all fun k => decide ((rowsR k).map keyR).Nodup) = true := by decide +kernel
end K05

namespace K05
open PySem PySem.Spec PyProof.Rows L2 SortR LcM RepA
abbrev sRows : Stmt := top 36
abbrev sFew : Stmt := top 40
theorem grows_own {H0 H : Hp} {p : Addr} (g : Grows H0 H) (e : H0 p = none) (o : HO) : Grows H0 (upd H p o) := fun b u h => by
  have ne : b ≠ p := fun z => by rw [z, e] at h; cases h
  rw [upd_ne ne]
  exact g b u h
def spRows : Sp := fun vs H Q _ => ∃ (k : Nat), vs = [.int (k + 1)] ∧ k ≤ 4 ∧ ∀ (p : Addr) (cs : List (Addr × List Int)) (H' : Hp), cs.map (·.2) = rowsR k → Grows H H' → H p = none → Rl H' p cs → (∀ c ∈ cs, H c.1 = none) → Q (.ref p) H'
theorem rowsR_len : ∀ k, ∀ r ∈ rowsR k, r.length = k
  | 0, r, h => by
    have : r = [] := List.mem_singleton.mp h
    rw [this]
    rfl
  | k + 1, r, h => by
    obtain ⟨s, hs, m⟩ := List.mem_flatMap.mp h
    obtain ⟨i, _, rfl⟩ := List.mem_map.mp m
    rw [List.length_append, rowsR_len k s hs]
    rfl
theorem rowsR_few : ∀ k, k ≤ 4 → (rowsR k).length ≤ 1000 := by decide +kernel
section
variable {P : Program} {w : World} {K : PySem.W.Frag} {mg : Str → Option Value} {base : Heap}
theorem scRows : FnScope ["many", "found", "fresh", "longer", "row", "item"] ["many"] (defScope sRows) := ⟨rfl, rfl, rfl, by decide +kernel, rfl, by decide +kernel, by decide +kernel⟩
theorem ok_rows {f : Addr} {fd : FuncData} (F : Fun K "_law_rows" "_law_rows" sRows f fd) (T : TxtP mg) : FnOk P w K mg base CX0 1 f fd ["many"] spRows := by
  refine F.ok scRows (fun vs H Q E h => ?_) (fun cdv A outer s H vs Q E hr h => ?_)
  · obtain ⟨k, rfl, _⟩ := h
    rfl
  · obtain ⟨k, rfl, hk, kq⟩ := h
    refine ⟨_, (pss_cons (ps_set (i := 1) scRows.nd rfl (.inl rfl) (pe_lst (pa_cons (pe_lst pa_nil) pa_nil)))
      (pss_cons (ps_for PassesOwn.never rfl (pi_range2 (by rfl) T.range (pa_cons pe_int (pa_cons (pv 0) pa_nil))) (pg_name (i := 2) scRows.nd rfl (.inl rfl))
      (pss_cons (ps_set (i := 3) scRows.nd rfl (.inl rfl) (pe_lst pa_nil))
      (pss_cons (ps_for PassesOwn.never rfl (pi_list (pv 1)) (pg_name (i := 4) scRows.nd rfl (.inr rfl))
      (pss_one (ps_expr (pe_bm PySem.F.plainAttrs_list PySem.F.slot_list_extend PySem.F.type_list_extend mt_extend (pv 3) (pa_cons (pe_lc (own := [("item", 5)]) (g := gName 5) (tt := tYes) rfl scRows.nd (pi_range2 (by rfl) T.range (pa_cons (pe_op op_sub pe_int (pv 2)) (pa_cons (pv 2) pa_nil))) (blkOk_by (own := [("item", 5)]) (N := ["many", "found", "fresh", "longer", "row", "item"]) (sc := defScope sRows) (by decide +kernel)) (fun _ _ _ _ _ => pg_name (i := 5) scRows.nd rfl (Or.inl rfl)) (fun _ _ _ _ _ => pts_nil) (fun _ _ _ _ _ => (pe_op op_cat (pv 4) (pe_lst (pa_cons (pv 5) pa_nil))))) pa_nil)))))
      (pss_one (ps_set (i := 1) scRows.nd rfl (.inl rfl) (pv 3))))))
      (pss_one (ps_ret (pv 1))))), ?_⟩
    refine ⟨(by show 0 ≤ sizeLine; decide), fun e0 he0 => ⟨(by show 1 ≤ sizeLine; decide), fun f0 hf0 => ?_⟩⟩
    have g0 : Grows H (upd (upd H e0 (.lst [])) f0 (.lst [V.ref e0])) := (Grows.new he0).trans (Grows.new hf0)
    have en : (((k : Nat) : Int) + 1 - 1).toNat = k := by omega
    refine ⟨_, rfl, 1, _, rfl, by omega, for_range (lo := 1) (n := (((k : Nat) : Int) + 1 - 1).toNat) (fun i σ G => ∃ f cs o2 o3 o4, σ = [some (.int (((k : Nat) : Int) + 1)), some (.ref f), o2, o3, o4, none] ∧ H f = none ∧ Grows H G ∧ Rl G f cs ∧ cs.map (·.2) = rowsR i ∧ ∀ c ∈ cs, H c.1 = none)
      ⟨f0, [(e0, [])], none, none, none, rfl, none_back (Grows.new he0) hf0, g0, ⟨upd_same, fun c hc => ?_⟩, rfl, fun c hc => ?_⟩ (fun i σ G hi ⟨f, cs, o2, o3, o4, e, hf, g, rl, ec, nw⟩ => ?_) fun σ G ⟨f, cs, o2, o3, o4, e, hf, g, rl, ec, nw⟩ => ?_⟩
    · rw [List.mem_singleton.mp hc]
      exact Grows.new hf0 _ _ upd_same
    · rw [List.mem_singleton.mp hc]
      exact he0
    · subst e
      rw [en] at hi
      refine ⟨(by show 0 ≤ sizeLine; decide), fun l hl => ?_⟩
      have gl : Grows G (upd G l (.lst [])) := Grows.new hl
      have fl : f ≠ l := fun z => by
        have := rl.top
        rw [z, hl] at this
        cases this
      have cl : ∀ c ∈ cs, c.1 ≠ l := fun c hc z => by
        have := rl.each c hc
        rw [z, hl] at this
        cases this
      have Hl : H l = none := none_back g hl
      have clen : cs.length = (rowsR i).length := by
        have := congrArg List.length ec
        rw [List.length_map] at this
        exact this
      have cfew := rowsR_few i (by omega)
      have cfew2 := rowsR_few (i + 1) (by omega)
      refine ⟨_, rfl, f, rfl, ⟨_, SqL.of (rl.keep gl).top⟩, for_list (K := K) (a := f) (xs := cs.map fun c => V.ref c.1) (fun j σ G' => ∃ ds o4, σ = [some (.int (((k : Nat) : Int) + 1)), some (.ref f), some (.int (1 + (i : Nat))), some (.ref l), o4, none] ∧ Grows H G' ∧ Rl G' f cs ∧ Rl G' l ds ∧ ds.map (·.2) = ((rowsR i).take j).flatMap (fun row => (itsR i).map fun x => row ++ [x]) ∧ ∀ c ∈ ds, H c.1 = none ∧ c.1 ≠ l)
        ⟨[], _, rfl, g.trans gl, rl.keep gl, ⟨upd_same, fun _ h => nomatch h⟩, rfl, fun _ h => nomatch h⟩ (fun j σ G' _ ⟨_, _, _, _, r, _⟩ => SqL.of r.top) (fun j x σ G' hx ⟨ds, o, e, g', rl', rd, ed, nwd⟩ => ?_) fun σ G' ⟨ds, o, e, g', rl', rd, ed, nwd⟩ => ?_⟩
      · subst e
        have jl := (List.getElem?_eq_some_iff.mp hx).1
        rw [List.length_map] at jl
        obtain rfl := at_map (d := (0, [])) hx
        have ej := rl'.at jl
        refine ⟨_, rfl, .inl ⟨rfl, _, SqL.of rd.top⟩, ?_⟩
        have en2 : ((1 + (i : Nat) : Int) - (1 - (1 + (i : Nat)))).toNat = 2 * i + 1 := by omega
        have il : (itsR i).length = 2 * i + 1 := by
          unfold itsR
          rw [List.length_map, List.length_range]
        generalize hr : (cs.getD j (0, [])) = rc at ej
        have rlen : rc.2.length = i := by
          have m : rc.2 ∈ rowsR i := by
            rw [← ec, ← hr]
            exact mem_at jl
          exact rowsR_len i _ m
        refine ⟨_, rfl, _, _, rfl, rfl, _, rfl, _, _, rfl, by omega, fun D hD => lc_range (lo := 1 - (1 + (i : Nat))) (n := ((1 + (i : Nat) : Int) - (1 - (1 + (i : Nat)))).toNat) (fun m G2 => ∃ es : List (Addr × List Int), Grows G' G2 ∧ G2 D = some (.lst (es.map fun c => V.ref c.1)) ∧ es.map (·.2) = ((itsR i).take m).map (fun x => rc.2 ++ [x]) ∧ ∀ c ∈ es, G2 c.1 = some (.lst (c.2.map V.int)) ∧ G' c.1 = none ∧ c.1 ≠ D)
          ⟨[], Grows.new hD, upd_same, rfl, fun _ h => nomatch h⟩ (fun m G2 ml ⟨es, g2, eD, ee, le⟩ => ?_) fun G2 ⟨es, g2, eD, ee, le⟩ => ?_⟩
        · rw [en2] at ml
          have nDz : ∀ {z}, G2 z = none → z ≠ D := fun hz q => by rw [q, eD] at hz; cases hz
          refine ⟨rfl, _, rfl, _, rfl, (by show 1 ≤ sizeLine; decide), fun z hz => ⟨rc.1, z, _, _, rfl, rfl, Grows.new hz _ _ (g2 _ _ ej), upd_same, ?_, fun w hw => ?_⟩⟩
          · rw [List.length_map, rlen]
            show i + 1 ≤ sizeLine
            exact Nat.le_trans (show i + 1 ≤ 5 by omega) (by decide)
          · have t : Grows G2 (upd (upd G2 z (.lst [V.int (1 - (1 + (i : Nat)) + (m : Nat))])) w (.lst (rc.2.map V.int ++ [V.int (1 - (1 + (i : Nat)) + (m : Nat))]))) := (Grows.new hz).trans (Grows.new hw)
            have eD2 := t _ _ eD
            have wD : w ≠ D := nDz (none_back (Grows.new (o := .lst [V.int (1 - (1 + (i : Nat)) + (m : Nat))]) hz) hw)
            have emlen : es.length = m := by
              have := congrArg List.length ee
              rw [List.length_map, List.length_map, List.length_take] at this
              omega
            have own : ∀ c o, G' c = some o → c ≠ D := fun c o q z2 => by rw [z2, hD] at q; cases q
            refine ⟨_, eD2, ?_, es ++ [(w, rc.2 ++ [(1 - (1 + (i : Nat)) + (m : Nat) : Int)])], fun c o q => ?_, ?_, ?_, fun c hc => ?_⟩
            · rw [List.length_map, emlen]
              exact small1000 (by omega)
            · rw [upd_ne (own c o q)]
              exact t _ _ (g2 c o q)
            · rw [upd_same, List.map_append]
              rfl
            · have ei : (itsR i)[m]? = some ((1 : Int) - (1 + ((i : Nat) : Int)) + ((m : Nat) : Int)) := by
                unfold itsR
                rw [List.getElem?_map, List.getElem?_range ml]
                show some ((m : Int) - (i : Nat)) = _
                exact congrArg some (by omega)
              rw [List.map_append, ee, List.take_succ, ei, List.map_append]
              rfl
            · rcases List.mem_append.mp hc with q | q
              · obtain ⟨a1, a2, a3⟩ := le c q
                rw [upd_ne a3]
                exact ⟨t _ _ a1, a2, a3⟩
              · rw [List.mem_singleton.mp q]
                show (upd _ D _) w = _ ∧ G' w = none ∧ w ≠ D
                rw [upd_ne wD, upd_same, List.map_append]
                exact ⟨rfl, none_back (g2.trans (Grows.new (o := .lst [V.int (1 - (1 + (i : Nat)) + (m : Nat))]) hz)) hw, wD⟩
        · rw [en2, ← il, List.take_length] at ee
          have eslen : es.length = 2 * i + 1 := by
            have := congrArg List.length ee
            rw [List.length_map, List.length_map, il] at this
            exact this
          have dslen : ds.length ≤ 1000 := by
            have e1 := congrArg List.length ed
            rw [List.length_map] at e1
            have e2 : ((rowsR i).take j).flatMap (fun row => (itsR i).map fun x => row ++ [x]) = ((rowsR i).take j).flatMap (fun row => (itsR i).map fun x => row ++ [x]) := rfl
            have sub : (((rowsR i).take j).flatMap (fun row => (itsR i).map fun x => row ++ [x])).length ≤ (rowsR (i + 1)).length := by
              show _ ≤ ((rowsR i).flatMap (fun row => (itsR i).map fun x => row ++ [x])).length
              conv => rhs; rw [← List.take_append_drop j (rowsR i), List.flatMap_append, List.length_append]
              exact Nat.le_add_right _ _
            omega
          have lD : l ≠ D := fun z => by
            have := rd.top
            rw [z, hD] at this
            cases this
          have t2 := g2 _ _ rd.top
          refine ⟨l, D, _, _, rfl, rfl, t2, eD, ?_, ds ++ es, _, rfl, grows_own (g'.trans g2) Hl _, ⟨?_, fun c hc => ?_⟩, ⟨?_, fun c hc => ?_⟩, ?_, fun c hc => ?_⟩
          · rw [List.length_map, List.length_map]
            exact Nat.le_trans (show ds.length + es.length ≤ 1009 by omega) (by decide)
          · rw [upd_ne fl]
            exact g2 _ _ rl'.top
          · rw [upd_ne (cl c hc)]
            exact g2 _ _ (rl'.each c hc)
          · rw [upd_same, List.map_append]
          · rcases List.mem_append.mp hc with q | q
            · rw [upd_ne (nwd c q).2]
              exact g2 _ _ (rd.each c q)
            · obtain ⟨a1, a2, a3⟩ := le c q
              have nl : c.1 ≠ l := fun z => by
                have := rd.top
                rw [← z, a2] at this
                cases this
              rw [upd_ne nl]
              exact a1
          · have ej' : (rowsR i)[j]? = some rc.2 := by
              rw [← ec, List.getElem?_map, List.getElem?_eq_getElem jl, ← hr, List.getD_eq_getElem?_getD, List.getElem?_eq_getElem jl]
              rfl
            rw [List.map_append, ed, ee, List.take_succ, ej', List.flatMap_append]
            simp
          · rcases List.mem_append.mp hc with q | q
            · exact nwd c q
            · obtain ⟨a1, a2, a3⟩ := le c q
              exact ⟨none_back g' a2, fun z => by
                have := rd.top
                rw [← z, a2] at this
                cases this⟩
      · subst e
        refine ⟨_, rfl, l, ds, _, _, _, rfl, Hl, g', rd, ?_, fun c hc => (nwd c hc).1⟩
        rw [ed, List.length_map, clen, List.take_length]
        rfl
    · subst e
      rw [en] at ec
      exact ⟨_, rfl, kq f cs G ec g hf rl nw⟩
end
end K05

namespace K05
open PySem PySem.Spec PyProof.Rows L2 SortR LcM RepA
structure TxtW (mg : Str → Option Value) : Prop extends TxtP mg, Txt0 mg where
  repr : mg "repr" = none
structure LawF (K : PySem.W.Frag) (mg : Str → Option Value) where
  Z : ProgF K mg
  T : TxtW mg
  Y : ComF K mg
  (fPouch fDip fItems fFolk fPut fNest fLots fRows : Addr)
  (dPouch dDip dItems dFolk dPut dNest dLots dRows : FuncData)
  FPouch : Fun K "_law_pouch" "_law_pouch" sPouch fPouch dPouch
  FDip : Fun K "_law_dip" "_law_dip" sDip fDip dDip
  FItems : Fun K "_law_items" "_law_items" sItems fItems dItems
  FFolk : Fun K "_law_folk" "_law_folk" sFolk fFolk dFolk
  FPut : Fun K "_law_put" "_law_put" sPut fPut dPut
  FNest : Fun K "_law_nest" "_law_nest" sNest fNest dNest
  FLots : Fun K "_law_lots" "_law_lots" sLots fLots dLots
  FRows : Fun K "_law_rows" "_law_rows" sRows fRows dRows
  gPouch : mg "_law_pouch" = some (.ref fPouch)
  gDip : mg "_law_dip" = some (.ref fDip)
  gItems : mg "_law_items" = some (.ref fItems)
  gFolk : mg "_law_folk" = some (.ref fFolk)
  gPut : mg "_law_put" = some (.ref fPut)
  gNest : mg "_law_nest" = some (.ref fNest)
  gLots : mg "_law_lots" = some (.ref fLots)
  gRows : mg "_law_rows" = some (.ref fRows)
  bPouch : Binds K dPouch ["script", "at"] []
  bDip : Binds K dDip ["pouch", "wide"] []
  bItems : Binds K dItems ["pouch", "many"] []
  bFolk : Binds K dFolk ["nest"] []
  bPut : Binds K dPut ["nest", "item", "fresh"] []
  bNest : Binds K dNest ["items"] []
  bLots : Binds K dLots ["nest"] []
  bRows : Binds K dRows ["many"] []
  kbPB : KBinds K Y.dPB ["coming"] ["coming"] (fun us ws => us ++ ws) (fun vs zs => vs ++ zs)
  kbComOf : KBinds K Y.dComOf ["parting"] ["parting"] (fun us ws => us ++ ws) (fun vs zs => vs ++ zs)
  kbComing : KBinds K Y.dComing ["thing"] ["thing"] (fun us ws => us ++ ws) (fun vs zs => vs ++ zs)
section
variable {P : Program} {w : World} {K : PySem.W.Frag} {mg : Str → Option Value} {base : Heap}
theorem LawF.TD (W : LawF K mg) : TxtD mg W.fDip := ⟨W.T.toTxt0, W.gDip⟩
theorem LawF.pouch (W : LawF K mg) : FnOk P w K mg base CX0 1 W.fPouch W.dPouch ["script", "at"] (spPouch K) := ok_pouch W.FPouch W.T.toTxt0
theorem LawF.dip (W : LawF K mg) : FnOk P w K mg base CX0 1 W.fDip W.dDip ["pouch", "wide"] spDip := ok_dip W.FDip W.T.toTxt0
theorem LawF.items (W : LawF K mg) : FnOk P w K mg base CX0 2 W.fItems W.dItems ["pouch", "many"] spItems := ok_items W.FItems W.TD W.FDip W.bDip
theorem LawF.nest (W : LawF K mg) : FnOk P w K mg base CX0 23 W.fNest W.dNest ["items"] (spNest K) := ok_nest W.FNest W.T.toTxtP W.gPut W.FPut W.bPut (ok_put W.FPut W.T.toTxtP W.T.toTxt0 W.gPut W.bPut W.FFolk W.gFolk W.bFolk 19)
theorem LawF.lots (W : LawF K mg) : FnOk P w K mg base CX0 22 W.fLots W.dLots ["nest"] (spLots K 19) := ok_lots W.FLots W.T.toTxtP W.gLots W.bLots W.FFolk W.gFolk W.bFolk 19
theorem LawF.rows (W : LawF K mg) : FnOk P w K mg base CX0 1 W.fRows W.dRows ["many"] spRows := ok_rows W.FRows W.T.toTxtP
theorem LawF.coming (W : LawF K mg) : FnOk P w K mg base CX0 2 W.Y.fComing W.Y.dComing ["thing"] (spComing K) := ok_coming W.Z W.T.toTxtP W.Y
theorem LawF.pb (W : LawF K mg) : FnOk P w K mg base CX0 3 W.Y.fPB W.Y.dPB ["coming"] (spPB K) := ok_pb W.Z W.T.toTxtP W.Y
theorem LawF.comOf (W : LawF K mg) : FnOk P w K mg base CX0 7 W.Y.fComOf W.Y.dComOf ["parting"] (spComOf K) := ok_comOf W.Z W.T.toTxtP W.T.toTxt0 W.Y
end
/-! ### a dict that changes, all else stands -/
theorem lst_ne {H : Hp} {sd a : Addr} {kv : List (L2.Key × V)} {xs : List V} (hd : H sd = some (.dK kv)) (h : H a = some (.lst xs)) : a ≠ sd := fun z => by
  rw [z, hd] at h
  cases h
theorem Rl.grd {H H' : Hp} {sd a : Addr} {kv : List (L2.Key × V)} {cs : List (Addr × List Int)} (r : Rl H a cs) (hd : H sd = some (.dK kv)) (g : Gr sd H H') : Rl H' a cs :=
  ⟨g _ _ (lst_ne hd r.top) r.top, fun c hc => g _ _ (lst_ne hd (r.each c hc)) (r.each c hc)⟩
def MineD (sd : Addr) (H0 H : Hp) (ds : List (Addr × List Int)) (n : Nat) : Prop := Gr sd H0 H ∧ ∀ c ∈ ds, H0 c.1 = none ∧ ∃ zs, H c.1 = some (.lst zs) ∧ zs.length ≤ n
theorem gr_own {sd p : Addr} {H0 H : Hp} (g : Gr sd H0 H) (e : H0 p = none) (o : HO) : Gr sd H0 (upd H p o) := fun b u nb h => by
  have ne : b ≠ p := fun z => by rw [z, e] at h; cases h
  rw [upd_ne ne]
  exact g b u nb h
theorem MineD.step {sd : Addr} {H0 H : Hp} {ds : List (Addr × List Int)} {n : Nat} (h : MineD sd H0 H ds n) {c : Addr × List Int} (hc : c ∈ ds) {zs : List V} (e : H c.1 = some (.lst zs)) (x : V) : MineD sd H0 (upd H c.1 (.lst (zs ++ [x]))) ds (n + 1) := by
  obtain ⟨e0, zs', e', l'⟩ := h.2 c hc
  rw [e] at e'
  cases e'
  refine ⟨gr_own h.1 e0 _, fun d hd => ⟨(h.2 d hd).1, ?_⟩⟩
  by_cases q : d.1 = c.1
  · rw [q, upd_same]
    exact ⟨_, rfl, by rw [List.length_append]; exact Nat.succ_le_succ l'⟩
  · rw [upd_ne q]
    obtain ⟨_, us, eu, lu⟩ := h.2 d hd
    exact ⟨us, eu, Nat.le_succ_of_le lu⟩
theorem val_no {kvs : List (L2.Key × V)} {k : L2.Key} (h : k ∉ kvs.map (·.1)) : valV kvs k = none := by
  unfold valV
  rw [List.find?_eq_none.mpr fun q hq z => h (List.mem_map.mpr ⟨q, hq, of_decide_eq_true z⟩)]
  rfl
theorem eqv_rowD (rs qs : List (List Int)) : PyData.eqv (PyData.list (rowD rs)) (PyData.list (rowD qs)) = decide (rs = qs) := eqv_rows rs qs
def keyS (r : List Int) : Str := (PyData.list (rowD (lotsS (nestN r r.length)))).shown
theorem keyS_inj {r s : List Int} (h : keyS r = keyS s) : keyR r = keyR s := by
  unfold keyS at h
  unfold keyR
  rw [h]
/-- what the kernel has seen of one row -/
structure Good (r : List Int) : Prop where
  is : isC (.list (r.map .int)) = true
  pb : pbR r = (nestN r r.length).lots
  len : (nestN r r.length).lots.length = r.length
  items : ∀ j, j < r.length → itemB (nestN r r.length).lots (j + 1) (r.getD j 0) = true
  isp : isP (nestN r r.length).lots = true
  row : ∀ q ∈ (nestN r r.length).lots, Smalls q ∧ q.length ≤ 20
  small : Smalls r
  few : r.length ≤ 19
theorem good_of {k : Nat} (hk : k ≤ 4) {r : List Int} (h : r ∈ rowsR k) : Good r := by
  have g := List.all_eq_true.mp (List.all_eq_true.mp good_all k (List.mem_range.mpr (by omega))) r h
  unfold goodRow at g
  simp only [Bool.and_eq_true, decide_eq_true_eq] at g
  obtain ⟨⟨⟨⟨⟨⟨⟨g1, g2⟩, g3⟩, g4⟩, g5⟩, g6⟩, g7⟩, g8⟩ := g
  have sm : ∀ {x : Int}, x.natAbs < 100 → x.natAbs < 10 ^ 12 := fun h => Nat.lt_trans h (by decide)
  refine ⟨g1, ?_, ?_, fun j hj => ?_, ?_, fun q hq => ?_, fun x hx => ?_, g8⟩
  · unfold pbR
    rw [sort_rowsI, g2, lotsS_eq]
  · rw [lotsS_eq, g3]
  · have z := List.all_eq_true.mp g4 j (List.mem_range.mpr hj)
    unfold itemB
    rw [cutS_eq, lotsS_eq]
    exact z
  · rw [lotsS_eq]
    exact g5
  · rw [lotsS_eq] at hq
    have z := List.all_eq_true.mp g6 q hq
    rw [Bool.and_eq_true] at z
    exact ⟨fun x hx => sm (of_decide_eq_true (List.all_eq_true.mp z.2 x hx)), of_decide_eq_true z.1⟩
  · exact sm (of_decide_eq_true (List.all_eq_true.mp g7 x hx))
theorem keys_nd {k : Nat} (hk : k ≤ 4) : ((rowsR k).map keyR).Nodup := of_decide_eq_true (List.all_eq_true.mp keys_all k (List.mem_range.mpr (by omega)))
theorem rows_nd {k : Nat} (hk : k ≤ 4) {i j : Nat} (hi : i < (rowsR k).length) (hj : j < (rowsR k).length) (ne : i < j) : keyS (rowsR k)[i] ≠ keyS (rowsR k)[j] := fun z => by
  have nd := List.pairwise_iff_getElem.mp (keys_nd hk) i j (by rw [List.length_map]; exact hi) (by rw [List.length_map]; exact hj) ne
  rw [List.getElem_map, List.getElem_map] at nd
  exact nd (keyS_inj z)
theorem Good.brief {r : List Int} (g : Good r) : Brief 20000 (PyData.list (rowD (nestN r r.length).lots)) := by
  have b := brief_rows g.row
  refine ⟨b.sh, b.dp, b.lv, Nat.le_trans b.wt ?_⟩
  rw [g.len]
  have : r.length * (20 * 42 + 1) ≤ 19 * (20 * 42 + 1) := Nat.mul_le_mul_right _ g.few
  omega
theorem Good.brief2 {r : List Int} (g : Good r) : Brief 20000 (PyData.list (r.map .int)) := by
  have b := brief_ints g.small
  have := g.few
  exact ⟨b.sh, b.dp, b.lv, Nat.le_trans b.wt (by omega)⟩
theorem Good.sz {r : List Int} (g : Good r) : Sz (nestN r r.length).lots := ⟨by rw [g.len]; have := g.few; omega, fun q hq => Nat.le_trans (g.row q hq).2 (by decide)⟩
theorem brief_one {a : PyData} {ds : List PyData} {m : Nat} (e : a = .list ds) (x : Brief m a) (l : m ≤ 100000) : PyData.showableAll ds = true ∧ PyData.depthAll ds ≤ 40 ∧ (listText (PyData.shownAll ds)).length ≤ sizeLine := by
  subst e
  refine ⟨?_, ?_, ?_⟩
  · have := x.sh
    simpa only [PyData.showable] using this
  · have := x.dp
    simp only [PyData.depth] at this
    omega
  · have e : (PyData.list ds).shown = listText (PyData.shownAll ds) := by simp only [PyData.shown]
    rw [← e]
    exact PyData.shown_fits (B := 13) (by decide) (by decide) x.lv (Nat.le_trans x.wt (by omega))
theorem brief_three {a b c : PyData} {m n p : Nat} (x : Brief m a) (y : Brief n b) (z : Brief p c) (l : m + n + p ≤ 100000) :
    PyData.showableAll [a, b, c] = true ∧ PyData.depthAll [a, b, c] ≤ 40 ∧ (listText (PyData.shownAll [a, b, c])).length ≤ sizeLine := by
  refine ⟨?_, ?_, ?_⟩
  · simp only [PyData.showableAll, x.sh, y.sh, z.sh, Bool.and_self]
  · have := x.dp
    have := y.dp
    have := z.dp
    simp only [PyData.depthAll]
    omega
  · have e : (PyData.list [a, b, c]).shown = listText (PyData.shownAll [a, b, c]) := by simp only [PyData.shown]
    rw [← e]
    refine PyData.shown_fits (B := 13) (by decide) (by decide) ?_ ?_
    · simp only [PyData.leavesShort, PyData.leavesShortAll, x.lv, y.lv, z.lv, Bool.and_self]
    · have := x.wt
      have := y.wt
      have := z.wt
      simp only [PyData.weight, PyData.weightAll]
      omega
theorem Rw.dp {K : PySem.W.Frag} {H : Hp} {a : Addr} {bs : List (Addr × List Int)} (r : Rw K H a bs) : Dp K H (.ref a) (PyData.list (rowD (bs.map (·.2)))) := .lst r.top (rows_data r.each)
theorem gr_grows {sd : Addr} {H H0 H1 G : Hp} (g0 : Grows H H0) (n : H sd = none) (g : Gr sd H1 G) (g1 : Grows H0 H1) : Grows H G := fun b o e => g b o (fun z => by rw [z, n] at e; cases e) (g1 _ _ (g0 b o e))
def spFew : Sp := fun vs H Q _ => ∃ (k : Nat), vs = [.int (k + 1)] ∧ k ≤ 4 ∧ ∀ H', Grows H H' → Q (.bl true) H'
section
variable {P : Program} {w : World} {K : PySem.W.Frag} {mg : Str → Option Value} {base : Heap}
theorem scFew : FnScope ["many", "seen", "row", "lots", "before", "found", "lot"] ["many"] (defScope sFew) := ⟨rfl, rfl, rfl, by decide +kernel, rfl, by decide +kernel, by decide +kernel⟩
theorem ok_few {f : Addr} {fd : FuncData} (F : Fun K "_law_few_right" "_law_few_right" sFew f fd) (W : LawF K mg) : FnG P w K mg base CX0 24 f fd ["many"] spFew := by
  have TW := W.T
  refine okG F scFew (fun vs H Q E h => ?_) (fun cdv A outer s H vs Q E hr noG h => ?_)
  · obtain ⟨k, rfl, _⟩ := h
    rfl
  · obtain ⟨k, rfl, hk, kq⟩ := h
    refine ⟨_, (pss_cons (ps_set (i := 1) scFew.nd rfl (.inl rfl) pe_dnewK)
      (pss_cons (ps_for PassesOwn.never rfl (pi_list (pe_call W.rows (hr.mono (by decide)) rfl W.gRows W.FRows.kp W.bRows .nil pass0 (pa_cons (pv 0) pa_nil))) (pg_name (i := 2) scFew.nd rfl (.inl rfl))
      (pss_cons (ps_par (i := 3) (j := 4) (by rfl) scFew.nd rfl rfl (by decide) rfl rfl (pa_cons (pe_call W.lots (hr.mono (by decide)) rfl W.gLots W.FLots.kp W.bLots .nil pass0 (pa_cons (pe_call W.nest (hr.mono (by decide)) rfl W.gNest W.FNest.kp W.bNest .nil pass0 (pa_cons (pv 2) pa_nil)) pa_nil)) (pa_cons (pe_callB (call_reprL noG hr.units) (by rfl) TW.repr (by decide +kernel) (pa_cons (pv 2) pa_nil)) pa_nil)) (by rfl))
      (pss_cons (ps_set (i := 5) scFew.nd rfl (.inl rfl) (pe_lst (pa_cons (pe_call W.pb (hr.mono (by decide)) rfl W.Y.gPB W.Y.FPB.kp W.Y.bPB .nil pass0 (pa_cons (pv 2) pa_nil)) (pa_cons (pe_call W.comOf (hr.mono (by decide)) rfl W.Y.gComOf W.Y.FComOf.kp W.Y.bComOf .nil pass0 (pa_cons (pv 3) pa_nil)) pa_nil))))
      (pss_cons (ps_if (PW.pt (pw_or (pt_cmpR op_ne (pe_callB (call_reprL noG hr.units) (by rfl) TW.repr (by decide +kernel) (pa_cons (pv 5) pa_nil)) (pe_callB (call_reprL noG hr.units) (by rfl) TW.repr (by decide +kernel) (pa_cons (pe_lst (pa_cons (pv 3) (pa_cons (pv 2) pa_nil))) pa_nil)) (nomark _)) (pw_or (pt_cmp (pc_din (hu_of hr) (pe_callB (call_reprL noG hr.units) (by rfl) TW.repr (by decide +kernel) (pa_cons (pv 3) pa_nil)) (pv 1))) (pw_or1 (pt_not (pt_val (pe_call W.coming (hr.mono (by decide)) rfl W.Y.gComing W.Y.FComing.kp W.Y.bComing .nil pass0 (pa_cons (pv 2) pa_nil)))))))) (pss_one (ps_ret pe_bl)) pss_nil)
      (pss_cons (ps_dput (hu_of hr) (pv 1) (pe_callB (call_reprL noG hr.units) (by rfl) TW.repr (by decide +kernel) (pa_cons (pv 3) pa_nil)) pe_bl rfl)
      (pss_cons (ps_if (pt_cmpR op_ne (pe_callB (call_reprL noG hr.units) (by rfl) TW.repr (by decide +kernel) (pa_cons (pe_lst (pa_cons (pe_callKw W.pb (hr.mono (by decide)) rfl W.Y.gPB W.Y.FPB.kp W.kbPB pass0 (pk_cons (pv 2) pk_nil)) (pa_cons (pe_callKw W.comOf (hr.mono (by decide)) rfl W.Y.gComOf W.Y.FComOf.kp W.kbComOf pass0 (pk_cons (pv 3) pk_nil)) (pa_cons (pv 2) pa_nil)))) pa_nil)) (pe_callB (call_reprL noG hr.units) (by rfl) TW.repr (by decide +kernel) (pa_cons (pe_lst (pa_cons (pv 3) (pa_cons (pv 2) (pa_cons (pv 2) pa_nil)))) pa_nil)) (nomark _)) (pss_one (ps_ret pe_bl)) pss_nil)
      (pss_cons (ps_for PassesOwn.never rfl (pi_list (pe_ix (r := rIxL K) ix_list (pv 5) pe_int (fun _ _ => rfl))) (pg_name (i := 6) scFew.nd rfl (.inl rfl))
      (pss_one (ps_expr (pe_bm PySem.F.plainAttrs_list PySem.F.slot_list_append PySem.F.type_list_append mt_append (pv 6) (pa_cons pe_non pa_nil)))))
      (pss_cons (ps_expr (pe_bm PySem.F.plainAttrs_list PySem.F.slot_list_append PySem.F.type_list_append mt_append (pe_ix (r := rIxL K) ix_list (pv 5) pe_int (fun _ _ => rfl)) (pa_cons pe_non pa_nil)))
      (pss_cons (ps_expr (pe_bm PySem.F.plainAttrs_list PySem.F.slot_list_append PySem.F.type_list_append mt_append (pe_ix (r := rIxL K) ix_list (pv 5) pe_int (fun _ _ => rfl)) (pa_cons pe_non pa_nil)))
      (pss_one (ps_if (PW.pt (pw_or (pt_cmpR (op_neD hr.units) (pe_call W.pb (hr.mono (by decide)) rfl W.Y.gPB W.Y.FPB.kp W.Y.bPB .nil pass0 (pa_cons (pv 2) pa_nil)) (pv 3) (nomark _)) (pw_or (pt_cmpR (op_neD hr.units) (pe_call W.comOf (hr.mono (by decide)) rfl W.Y.gComOf W.Y.FComOf.kp W.Y.bComOf .nil pass0 (pa_cons (pv 3) pa_nil)) (pv 2) (nomark _)) (pw_or1 (pt_cmpR op_ne (pe_callB (call_reprL noG hr.units) (by rfl) TW.repr (by decide +kernel) (pa_cons (pv 2) pa_nil)) (pv 4) (nomark _)))))) (pss_one (ps_ret pe_bl)) pss_nil)))))))))))
      (pss_one (ps_ret pe_bl)))), ?_⟩
    refine fun sd hsd => ?_
    have g0 : Grows H (upd H sd (.dK [])) := Grows.new hsd
    refine ⟨_, rfl, k, rfl, hk, fun p cs H1 ec g1 np rl nw => ?_⟩
    have e0 : H1 sd = some (.dK []) := g1 _ _ upd_same
    refine ⟨p, rfl, ⟨_, SqL.of rl.top⟩, for_list (K := K) (a := p) (xs := cs.map fun c => V.ref c.1) (fun i σ G => ∃ kv o2 o3 o4 o5 o6, σ = [some (.int (((k : Nat) : Int) + 1)), some (.ref sd), o2, o3, o4, o5, o6] ∧ G sd = some (.dK kv) ∧ kv.map (·.1) = ((rowsR k).take i).map (fun r => (Sum.inr (keyS r) : L2.Key)) ∧ Gr sd H1 G)
      ⟨[], none, none, none, none, none, rfl, e0, rfl, Gr.refl⟩ (fun i σ G _ ⟨_, _, _, _, _, _, _, _, _, g⟩ => SqL.of (rl.grd e0 g).top) (fun i x σ G hx ⟨kv, o2, o3, o4, o5, o6, e, ed, ek, g⟩ => ?_) fun σ G ⟨kv, o2, o3, o4, o5, o6, e, ed, ek, g⟩ => ?_⟩
    · subst e
      have il := (List.getElem?_eq_some_iff.mp hx).1
      rw [List.length_map] at il
      obtain rfl := at_map (d := (0, [])) hx
      have mem : cs.getD i (0, []) ∈ cs := by
        rw [List.getD_eq_getElem?_getD, List.getElem?_eq_getElem il]
        exact List.getElem_mem il
      have ilr : i < (rowsR k).length := by
        rw [← ec, List.length_map]
        exact il
      have er : (cs.getD i (0, [])).2 = (rowsR k)[i] := by
        have z := snd_at cs i
        rw [← z, ec, List.getD_eq_getElem?_getD, List.getElem?_eq_getElem ilr]
        rfl
      have rlG := rl.grd e0 g
      have gd : Good (cs.getD i (0, [])).2 := good_of hk (by rw [er]; exact List.getElem_mem ilr)
      have eR := rlG.each _ mem
      have key : keyS (cs.getD i (0, [])).2 = keyS (rowsR k)[i] := by rw [er]
      generalize (cs.getD i (0, [])).1 = ra at eR
      generalize (cs.getD i (0, [])).2 = r at eR gd key
      have kl : kv.length = i := by
        have z := congrArg List.length ek
        rw [List.length_map, List.length_map, List.length_take] at z
        omega
      -- lots
      refine ⟨_, rfl, ra, r, rfl, SqL.of eR, gd.few, fun y G1 s1 nv => ?_⟩
      have fz : (nestN r r.length).sz ≤ 600000 := Nat.le_trans (nestN_sz r r.length) (Nat.le_trans (Nat.pow_le_pow_right (by decide) gd.few) (by decide))
      refine ⟨y, nestN r r.length, rfl, nv, Nat.le_trans (nestN_ht r r.length) gd.few, fz, fun a ls G2 els s2 na nwl apl topl => ?_⟩
      have s12 := s1.trans s2
      have ll : Rl G2 a ls := ⟨topl, nwl.lists⟩
      have eR2 := s12 _ _ eR
      have ed2 := s12 _ _ ed
      obtain ⟨b1, b2, b3⟩ := brief_one rfl gd.brief2 (by decide)
      refine ⟨_, rfl, ra, _, r.map .int, rfl, SqL.of eR2, .of_dp (rows_dp r), b1, b2, b3, ⟨_, _, rfl, ?_⟩⟩
      have len2 : ls.length = r.length := by
        have z := congrArg List.length els
        rw [List.length_map, gd.len] at z
        exact z
      have sz : Sz (ls.map (·.2)) := by rw [els]; exact gd.sz
      have isp : isP (ls.map (·.2)) = true := by rw [els]; exact gd.isp
      have its : ∀ j, j < r.length → itemB (ls.map (·.2)) (j + 1) (r.getD j 0) = true := by rw [els]; exact gd.items
      -- found
      refine ⟨_, rfl, ra, r, rfl, SqL.of eR2, gd.is, fun p1 c1 G3 e1 s3 n1 r1 w1 => ?_⟩
      rw [gd.pb] at e1
      refine ⟨_, rfl, a, ls, r, rfl, (ll.keep s3).rw, sz, isp, len2.symm, its, fun p2 G4 s4 n2 e2 => ?_⟩
      refine ⟨(by show 2 ≤ sizeLine; decide), fun fo hfo => ?_⟩
      have gfo : Grows G4 (upd G4 fo (.lst [V.ref p1, V.ref p2])) := Grows.new hfo
      have s2o : Grows G2 (upd G4 fo (.lst [V.ref p1, V.ref p2])) := (s3.trans s4).trans gfo
      obtain ⟨c1', c2', c3'⟩ := brief_two gd.brief gd.brief2 (by decide)
      have d1 : Dp K (upd G4 fo (.lst [V.ref p1, V.ref p2])) (.ref p1) (PyData.list (rowD (nestN r r.length).lots)) := e1 ▸ ((r1.keep s4).keep gfo).rw.dp
      have d2 : Dp K (upd G4 fo (.lst [V.ref p1, V.ref p2])) (.ref p2) (PyData.list (r.map .int)) := .lst (SqL.of (gfo _ _ e2)) (rows_dp r)
      have dl : ∀ {G' : Hp}, Grows G2 G' → Dp K G' (.ref a) (PyData.list (rowD (nestN r r.length).lots)) := fun s => els ▸ (ll.keep s).rw.dp
      have dr : ∀ {G' : Hp}, Grows G2 G' → Dp K G' (.ref ra) (PyData.list (r.map .int)) := fun s => .lst (SqL.of (s _ _ eR2)) (rows_dp r)
      refine ⟨_, rfl, fo, _, [PyData.list (rowD (nestN r r.length).lots), PyData.list (r.map .int)], rfl, SqL.of upd_same, .of_dp (.cons d1 (.cons d2 .nil)), c1', c2', c3', ?_⟩
      refine ⟨_, rfl, _, rfl, (by show 2 ≤ sizeLine; decide), fun q3 hq3 => ⟨q3, _, [PyData.list (rowD (nestN r r.length).lots), PyData.list (r.map .int)], rfl, SqL.of upd_same, .of_dp (.cons (dl (s2o.trans (Grows.new hq3))) (.cons (dr (s2o.trans (Grows.new hq3))) .nil)), c1', c2', c3', rfl, _, rfl, ?_⟩⟩
      rw [decide_eq_true rfl]
      have s2q : Grows G2 (upd (upd G4 fo (.lst [V.ref p1, V.ref p2])) q3 (.lst [V.ref a, V.ref ra])) := s2o.trans (Grows.new hq3)
      have gq3 : Grows (upd G4 fo (.lst [V.ref p1, V.ref p2])) (upd (upd G4 fo (.lst [V.ref p1, V.ref p2])) q3 (.lst [V.ref a, V.ref ra])) := Grows.new hq3
      obtain ⟨m1, m2, m3⟩ := brief_one rfl gd.brief (by decide)
      have absent : (Sum.inr (PyData.list (rowD (nestN r r.length).lots)).shown : L2.Key) ∉ kv.map (·.1) := fun z => by
        rw [ek] at z
        obtain ⟨q, hq, eq⟩ := List.mem_map.mp z
        have eq2 : keyS q = (PyData.list (rowD (nestN r r.length).lots)).shown := Sum.inr.inj eq
        obtain ⟨j, jl, ej⟩ := List.getElem_of_mem hq
        rw [List.length_take] at jl
        rw [List.getElem_take] at ej
        have kk : keyS r = (PyData.list (rowD (nestN r r.length).lots)).shown := by
          unfold keyS
          rw [lotsS_eq]
        exact rows_nd hk (show j < (rowsR k).length by omega) ilr (show j < i by omega) (by rw [ej, ← key, kk, eq2])
      have ldp : DpAll K (upd (upd G4 fo (.lst [V.ref p1, V.ref p2])) q3 (.lst [V.ref a, V.ref ra])) (ls.map fun c => V.ref c.1) (rowD (nestN r r.length).lots) := by
        rw [← els]
        exact rows_data fun b hb => SqL.of ((ll.keep s2q).each b hb)
      refine iteF ⟨_, rfl, a, _, rowD (nestN r r.length).lots, rfl, SqL.of (ll.keep s2q).top, .of_dp ldp, m1, m2, m3, _, rfl, sd, _, rfl, DGet.k (k := Sum.inr (PyData.list (rowD (nestN r r.length).lots)).shown) (s2q _ _ ed2), _, rfl, ?_⟩
      rw [val_no absent]
      refine iteF ⟨_, rfl, .ref ra, .list (r.map .int), rfl, .inl (.lst (SqL.of (s2q _ _ eR2)) (rows_dp r)), fun G6 s6 => ?_⟩
      rw [gd.is]
      have s26 := s2q.trans s6
      have ldp6 : DpAll K G6 (ls.map fun c => V.ref c.1) (rowD (nestN r r.length).lots) := by
        rw [← els]
        exact rows_data fun b hb => SqL.of ((ll.keep s26).each b hb)
      refine ⟨_, rfl, iteF ⟨_, rfl, _, rfl, a, _, rowD (nestN r r.length).lots, rfl, SqL.of (ll.keep s26).top, .of_dp ldp6, m1, m2, m3, sd, _, rfl, DPut.k (k := Sum.inr (PyData.list (rowD (nestN r r.length).lots)).shown) (s26 _ _ ed2) (small1000 (by have := rowsR_few k hk; omega)), ?_⟩⟩
      have ek2 : (putK kv (Sum.inr (PyData.list (rowD (nestN r r.length).lots)).shown) (V.bl true)).map (·.1) = ((rowsR k).take (i + 1)).map (fun r => (Sum.inr (keyS r) : L2.Key)) := by
        rw [put_keys, if_neg absent, ek, List.take_succ, List.getElem?_eq_getElem ilr, List.map_append]
        have kk : keyS (rowsR k)[i] = (PyData.list (rowD (nestN r r.length).lots)).shown := by
          rw [← key]
          unfold keyS
          rw [lotsS_eq]
        show _ = _ ++ [(Sum.inr (keyS (rowsR k)[i]) : L2.Key)]
        rw [kk]
      generalize putK kv (Sum.inr (PyData.list (rowD (nestN r r.length).lots)).shown) (V.bl true) = kv' at ek2
      have ed6 := s26 _ _ ed2
      have g67 : Gr sd G6 (upd G6 sd (.dK kv')) := Gr.at
      have g27 : Gr sd G2 (upd G6 sd (.dK kv')) := s26.gr.trans g67
      have ll7 := ll.grd ed2 g27
      have eR7 := g27 _ _ (lst_ne ed2 eR2) eR2
      refine ⟨_, rfl, ra, r, rfl, SqL.of eR7, gd.is, fun p3 c3 G8 e3 s8 n3 r3 w3 => ?_⟩
      rw [gd.pb] at e3
      refine ⟨_, rfl, a, ls, r, rfl, (ll7.keep s8).rw, sz, isp, len2.symm, its, fun p4 G9 s9 n4 e4 => ?_⟩
      have s79 := s8.trans s9
      obtain ⟨t1, t2, t3⟩ := brief_three gd.brief gd.brief2 gd.brief2 (by decide)
      have dl7 : ∀ {G' : Hp}, Grows (upd G6 sd (.dK kv')) G' → Dp K G' (.ref a) (PyData.list (rowD (nestN r r.length).lots)) := fun s => els ▸ (ll7.keep s).rw.dp
      have dr7 : ∀ {G' : Hp}, Grows (upd G6 sd (.dK kv')) G' → Dp K G' (.ref ra) (PyData.list (r.map .int)) := fun s => .lst (SqL.of (s _ _ eR7)) (rows_dp r)
      refine ⟨_, rfl, (by show 3 ≤ sizeLine; decide), fun q5 hq5 => ⟨q5, _, [PyData.list (rowD (nestN r r.length).lots), PyData.list (r.map .int), PyData.list (r.map .int)], rfl, SqL.of upd_same, .of_dp (.cons (e3 ▸ ((r3.keep s9).keep (Grows.new hq5)).rw.dp) (.cons (.lst (SqL.of (Grows.new hq5 _ _ e4)) (rows_dp r)) (.cons (dr7 (s79.trans (Grows.new hq5))) .nil))), t1, t2, t3, ?_⟩⟩
      have s710 := s79.trans (Grows.new (o := .lst [V.ref p3, V.ref p4, V.ref ra]) hq5)
      refine ⟨_, rfl, _, rfl, _, rfl, (by show 3 ≤ sizeLine; decide), fun q6 hq6 => ⟨q6, _, [PyData.list (rowD (nestN r r.length).lots), PyData.list (r.map .int), PyData.list (r.map .int)], rfl, SqL.of upd_same, .of_dp (.cons (dl7 (s710.trans (Grows.new hq6))) (.cons (dr7 (s710.trans (Grows.new hq6))) (.cons (dr7 (s710.trans (Grows.new hq6))) .nil))), t1, t2, t3, rfl, _, rfl, ?_⟩⟩
      rw [decide_eq_true rfl]
      have s711 := s710.trans (Grows.new (o := .lst [V.ref a, V.ref ra, V.ref ra]) hq6)
      have g4q := gq3.trans s6
      have ed4 : (upd G4 fo (.lst [V.ref p1, V.ref p2])) sd = some (.dK kv) := s2o _ _ ed2
      have fo6 := g4q _ _ (upd_same (H := G4) (a := fo) (o := .lst [V.ref p1, V.ref p2]))
      have fo11 := s711 _ _ (g67 _ _ (lst_ne ed6 fo6) fo6)
      have r11 := (((r1.keep s4).keep gfo).keep g4q).grd ed6 g67 |>.keep s711
      have p26 := g4q _ _ (gfo _ _ e2)
      have p211 := s711 _ _ (g67 _ _ (lst_ne ed6 p26) p26)
      have sd11 := s711 _ _ (upd_same (H := G6) (a := sd) (o := .dK kv'))
      have c_p1 : ∀ c ∈ c1, c.1 ≠ p1 := fun c hc => (w1 c hc).1
      have c_fo : ∀ c ∈ c1, c.1 ≠ fo := fun c hc z => by
        have q := (r1.keep s4).each c hc
        rw [z, hfo] at q
        cases q
      have c_p2 : ∀ c ∈ c1, c.1 ≠ p2 := fun c hc z => by
        have q := r1.each c hc
        rw [z, n2] at q
        cases q
      have c1l : c1.length = r.length := by
        have z := congrArg List.length e1
        rw [List.length_map, gd.len] at z
        exact z
      have few := gd.few
      refine iteF ⟨_, rfl, fo, _, 0, .ref p1, rfl, rfl, SqL.of fo11, rfl, p1, rfl, ⟨_, SqL.of r11.top⟩, for_list (K := K) (a := p1) (xs := c1.map fun c => V.ref c.1) (fun j σ H' => ∃ o, σ = [some (.int (((k : Nat) : Int) + 1)), some (.ref sd), some (.ref ra), some (.ref a), some (.str (PyData.list (r.map .int)).shown), some (.ref fo), o] ∧ MineD sd G2 H' c1 (20 + j) ∧ H' p1 = some (.lst (c1.map fun c => V.ref c.1)) ∧ H' fo = some (.lst [V.ref p1, V.ref p2]) ∧ H' p2 = some (.lst (r.map V.int)) ∧ H' sd = some (.dK kv'))
        ⟨_, rfl, ⟨g27.trans s711.gr, fun c hc => ⟨(w1 c hc).2, _, r11.each c hc, ?_⟩⟩, r11.top, fo11, p211, sd11⟩ (fun j σ H' _ ⟨_, _, _, e, _⟩ => SqL.of e) (fun j x σ H' hx ⟨o, e, mi, q1, q2, q3, q4⟩ => ?_) fun σ H' ⟨o, e, mi, q1, q2, q3, q4⟩ => ?_⟩
      · rw [List.length_map]
        exact (gd.row _ (by rw [← e1]; exact List.mem_map.mpr ⟨c, hc, rfl⟩)).2
      · subst e
        obtain ⟨jl, ex⟩ := List.getElem?_eq_some_iff.mp hx
        rw [List.length_map] at jl
        rw [List.getElem_map] at ex
        subst ex
        have memj : c1[j] ∈ c1 := List.getElem_mem jl
        obtain ⟨_, zs, ez, lz⟩ := mi.2 _ memj
        refine ⟨_, rfl, .inl ⟨rfl, _, SqL.of ez⟩, _, zs, _, rfl, rfl, ez, small1000 (by omega), _, rfl, mi.step memj ez _, ?_, ?_, ?_, ?_⟩
        · rw [upd_ne (c_p1 _ memj).symm]; exact q1
        · rw [upd_ne (c_fo _ memj).symm]; exact q2
        · rw [upd_ne (c_p2 _ memj).symm]; exact q3
        · rw [upd_ne (lst_ne q4 ez).symm]; exact q4
      · subst e
        have p1fo : p1 ≠ fo := fun z => by
          have q := (r1.keep s4).top
          rw [z, hfo] at q
          cases q
        have p2fo : p2 ≠ fo := fun z => by
          rw [z, hfo] at e2
          cases e2
        have p2p1 : p2 ≠ p1 := fun z => by
          rw [z, r1.top] at n2
          cases n2
        refine ⟨_, rfl, fo, _, 0, .ref p1, rfl, rfl, SqL.of q2, rfl, .inl ⟨rfl, _, SqL.of q1⟩, p1, _, _, rfl, rfl, q1, small1000 (by rw [List.length_map]; omega), ?_⟩
        refine ⟨_, rfl, fo, _, 1, .ref p2, rfl, rfl, SqL.of ((upd_ne p1fo.symm).trans q2), rfl, .inl ⟨rfl, _, SqL.of ((upd_ne p2p1).trans q3)⟩, p2, _, _, rfl, rfl, (upd_ne p2p1).trans q3, small1000 (by rw [List.length_map]; omega), ?_⟩
        have gM := gr_own (gr_own mi.1 n1 (.lst ((c1.map fun c => V.ref c.1) ++ [V.non]))) (none_back s3 n2) (.lst (r.map V.int ++ [V.non]))
        have sdM : (upd (upd H' p1 (.lst ((c1.map fun c => V.ref c.1) ++ [V.non]))) p2 (.lst (r.map V.int ++ [V.non]))) sd = some (.dK kv') := by
          rw [upd_ne (lst_ne q4 q3).symm, upd_ne (lst_ne q4 q1).symm]
          exact q4
        generalize (upd (upd H' p1 (.lst ((c1.map fun c => V.ref c.1) ++ [V.non]))) p2 (.lst (r.map V.int ++ [V.non]))) = GM at gM sdM
        have llM := ll.grd ed2 gM
        have eRM := gM _ _ (lst_ne ed2 eR2) eR2
        refine ⟨_, rfl, ra, r, rfl, SqL.of eRM, gd.is, fun p5 c5 G13 e5 s13 n5 r5 w5 => ?_⟩
        rw [gd.pb] at e5
        refine ⟨_, rfl, _, _, r5.rw.dp, (llM.keep s13).rw.dp, shaped_rows _, shaped_rows _, _, rfl, ?_⟩
        rw [eqv_rowD, e5, els, decide_eq_true rfl]
        refine iteF ⟨_, rfl, a, ls, r, rfl, (llM.keep s13).rw, sz, isp, len2.symm, its, fun p6 G14 s14 n6 e6 => ?_⟩
        have sM := s13.trans s14
        refine ⟨_, rfl, PyData.list (r.map .int), PyData.list (r.map .int), .lst (SqL.of e6) (rows_dp r), .lst (SqL.of (sM _ _ eRM)) (rows_dp r), shaped_ints r, shaped_ints r, _, rfl, ?_⟩
        rw [eqv_ints, decide_eq_true rfl]
        refine iteF ⟨_, rfl, ra, _, r.map .int, rfl, SqL.of (sM _ _ eRM), .of_dp (rows_dp r), b1, b2, b3, _, rfl, rfl, _, rfl, ?_⟩
        rw [decide_eq_true rfl]
        exact iteF ⟨kv', _, _, _, _, _, rfl, sM _ _ sdM, ek2, g.trans (s12.gr.trans (gM.trans sM.gr))⟩
    · subst e
      exact kq G (gr_grows g0 hsd g g1)
end
end K05

namespace K05
open PySem PySem.Spec PyProof.Rows L2 SortR LcM RepA
abbrev sIsIt : Stmt := top 37
def notInt : PyData → Bool
  | .int _ => false
  | _ => true
/-- a list whose items may be compared -/
def Fine (d : PyData) : Prop := ∀ ds, d = .list ds → ds.length ≤ 6000 ∧ ∀ e ∈ ds, e.canLay0 = true ∧ e.depth ≤ 20
def spIsIt (K : PySem.W.Frag) : Sp := fun vs H Q _ => ∃ (x : V) (d : PyData), vs = [x] ∧ Dd K H x d ∧ Fine d ∧ ∀ H', Grows H H' → Q (.bl (isC d)) H'
theorem dp_map {K : PySem.W.Frag} {H : Hp} {f : Nat → V} {g : Nat → PyData} : ∀ is : List Nat, (∀ i ∈ is, Dp K H (f i) (g i)) → DpAll K H (is.map f) (is.map g)
  | [], _ => .nil
  | i :: is, h => .cons (h i List.mem_cons_self) (dp_map is fun j hj => h j (List.mem_cons_of_mem _ hj))
theorem lay_all : ∀ ds : List PyData, (∀ e ∈ ds, e.canLay0 = true ∧ e.depth ≤ 20) → PyData.canLayAll0 ds = true ∧ PyData.depthAll ds ≤ 20
  | [], _ => ⟨by simp only [PyData.canLayAll0], by simp only [PyData.depthAll]; omega⟩
  | d :: ds, h => by
    obtain ⟨a, b⟩ := lay_all ds fun e m => h e (List.mem_cons_of_mem _ m)
    obtain ⟨c, e⟩ := h d List.mem_cons_self
    refine ⟨by simp only [PyData.canLayAll0, a, c, Bool.and_self], ?_⟩
    simp only [PyData.depthAll]
    omega
theorem shaped_all {ds : List PyData} (h : ∀ e ∈ ds, e.canLay0 = true ∧ e.depth ≤ 20) : SeqAt.shaped (.list ds) = true := by
  obtain ⟨a, b⟩ := lay_all ds h
  unfold SeqAt.shaped
  have e : (PyData.list ds).depth ≤ 64 := by
    simp only [PyData.depth]
    omega
  rw [decide_eq_true e, Bool.and_true]
  simp only [PyData.canLay0, a]
theorem eqv_nil (ds : List PyData) : PyData.eqv (.list ds) (.list []) = decide (ds = []) := by
  cases ds with
  | nil =>
    rw [decide_eq_true rfl]
    have := eqv_ints [] []
    rw [decide_eq_true rfl] at this
    exact this
  | cons d ds =>
    rw [decide_eq_false (fun z => nomatch z)]
    simp [PyData.eqv, PyData.eqvAll]
theorem dp_grow_at {K : PySem.W.Frag} {H : Hp} {xs : List V} {ds : List PyData} (h : DpAll K H xs ds) {i : Nat} (il : i < ds.length) : Dp K H (xs.getD i .non) (ds.getD i .none) := by
  have l : i < xs.length := by rw [DpAll.len h]; exact il
  obtain ⟨d, e, q⟩ := DpAll.at h (List.getElem?_eq_getElem l)
  rw [List.getD_eq_getElem?_getD, List.getElem?_eq_getElem l, List.getD_eq_getElem?_getD, e]
  exact q
section
variable {P : Program} {w : World} {K : PySem.W.Frag} {mg : Str → Option Value} {base : Heap}
theorem scIsIt : FnScope ["item", "fresh", "spot"] ["item"] (defScope sIsIt) := ⟨rfl, rfl, rfl, by decide +kernel, rfl, by decide +kernel, by decide +kernel⟩
theorem ok_isIt {f : Addr} {fd : FuncData} (F : Fun K "_law_is_items" "_law_is_items" sIsIt f fd) (T : TxtP mg) : FnOk P w K mg base CX0 1 f fd ["item"] (spIsIt K) := by
  refine F.ok scIsIt (fun vs H Q E h => ?_) (fun cdv A outer s H vs Q E hr h => ?_)
  · obtain ⟨x, d, rfl, _⟩ := h
    rfl
  · obtain ⟨x, d, rfl, hd, fine, k⟩ := h
    refine ⟨_, (pss_cons (ps_if (PW.pt (pw_or (pt_not (pt_val (pe_callB (r := rIsi K) (by exact call_isi) (by rfl) T.isi (by decide +kernel) (pa_cons (pv 0) (pa_cons (pe_bltn (v := .ty "list") (u := .type "list") (by rfl) T.list (by decide +kernel) rfl) pa_nil))))) (pw_or1 (pt_cmpR op_gt (pe_callB call_len_seq (by rfl) T.len (by decide +kernel) (pa_cons (pv 0) pa_nil)) pe_int (nomark _))))) (pss_one (ps_ret pe_bl)) pss_nil)
      (pss_cons (ps_if (pt_cmpR (op_neD hr.units) (pe_lc (own := [("fresh", 1)]) (g := gName 1)  rfl scIsIt.nd (pi_list (pv 0)) (blkOk_by (own := [("fresh", 1)]) (N := ["item", "fresh", "spot"]) (sc := defScope sIsIt) (by decide +kernel)) (fun _ _ _ _ _ => pg_name (i := 1) scIsIt.nd rfl (Or.inl rfl)) (fun _ _ _ _ _ => (pts_one (PW.pt (pw_or (pt_val (pe_callB (r := rIsi K) (by exact call_isi) (by rfl) T.isi (by decide +kernel) (pa_cons (pv 1) (pa_cons (pe_bltn (v := .ty "bool") (u := .type "bool") (by rfl) T.bool (by decide +kernel) rfl) pa_nil)))) (pw_or1 (pt_not (pt_val (pe_callB (r := rIsi K) (by exact call_isi) (by rfl) T.isi (by decide +kernel) (pa_cons (pv 1) (pa_cons (pe_bltn (v := .ty "int") (u := .type "int") (by rfl) T.int (by decide +kernel) rfl) pa_nil)))))))))) (fun _ _ _ _ _ => (pv 1))) (pe_lst pa_nil) (nomark _)) (pss_one (ps_ret pe_bl)) pss_nil)
      (pss_one (ps_ret (pe_cmpR (op_eqD hr.units) (pe_lc (own := [("spot", 2)]) (g := gName 2)  rfl scIsIt.nd (pi_range1 (by rfl) T.range (pa_cons (pe_callB call_len_seq (by rfl) T.len (by decide +kernel) (pa_cons (pv 0) pa_nil)) pa_nil)) (blkOk_by (own := [("spot", 2)]) (N := ["item", "fresh", "spot"]) (sc := defScope sIsIt) (by decide +kernel)) (fun _ _ _ _ _ => pg_name (i := 2) scIsIt.nd rfl (Or.inl rfl)) (fun _ _ _ _ _ => (pts_one (pt_not (pt_chain op_le op_le (pe_op op_sub pe_int (pv 2)) (pe_ix (r := rIxL K) ix_list (pv 0) (pv 2) (fun _ _ => rfl)) (pv 2))))) (fun _ _ _ _ _ => (pv 2))) (pe_lst pa_nil) (nomark _)))))), ?_⟩
    have ty := dd_ty hd
    by_cases isl : ∃ ds, d = .list ds
    · obtain ⟨ds, rfl⟩ := isl
      obtain ⟨a, xs, rfl, hS, hA⟩ : ∃ a xs, x = .ref a ∧ SqL K H a xs ∧ DpAll K H xs ds := by
        rcases hd with hd | ⟨_, _, _, z⟩
        · cases hd with | lst q r => exact ⟨_, _, rfl, q, r⟩
        · cases z
      have len := DpAll.len hA
      obtain ⟨dl, lay⟩ := fine ds rfl
      have tyl : TyX K H (.ref a) (.type "list") := ty_list hS
      refine ⟨_, rfl, _, _, _, _, true, rfl, .ty "list", tyl, kit_ty (by decide +kernel), true, rfl, ?_⟩
      refine iteF ⟨_, rfl, a, _, rfl, .inl hS, _, _, rfl, rfl, _, rfl, ?_⟩
      by_cases big : (ds.length : Int) < 20
      · rw [decide_eq_false (by rw [len]; omega)]
        refine iteF ⟨_, rfl, a, rfl, ⟨_, hS⟩, fun D hD => lc_listT (K := K) (fun i => notInt (ds.getD i .none)) (fun i => xs.getD i .non) hD hS (by omega) (fun i x G Ry Rn hx sm ky kn => ?_) fun G sm eD => ?_⟩
        · have il := (List.getElem?_eq_some_iff.mp hx).1
          have ex : x = xs.getD i .non := by
            rw [List.getD_eq_getElem?_getD, hx]
            rfl
          have hdx := Dp.grow sm (dp_grow_at hA (by omega : i < ds.length))
          subst ex
          have tx := dd_ty (.inl hdx)
          generalize ds.getD i .none = e at hdx tx ky kn
          have other : (∀ v, e ≠ .int v) → (∀ v, e ≠ .bool v) → kitB (tyName e) "bool" = some false ∧ kitB (tyName e) "int" = some false ∧ notInt e = true := fun h1 h2 => by
            cases e with
            | int v => exact absurd rfl (h1 v)
            | bool v => exact absurd rfl (h2 v)
            | none => exact ⟨by simp only [tyName]; decide +kernel, by simp only [tyName]; decide +kernel, rfl⟩
            | str v => exact ⟨by simp only [tyName]; decide +kernel, by simp only [tyName]; decide +kernel, rfl⟩
            | list v => exact ⟨by simp only [tyName]; decide +kernel, by simp only [tyName]; decide +kernel, rfl⟩
            | tuple v => exact ⟨by simp only [tyName]; decide +kernel, by simp only [tyName]; decide +kernel, rfl⟩
            | dict v => exact ⟨by simp only [tyName]; decide +kernel, by simp only [tyName]; decide +kernel, rfl⟩
          by_cases hb : ∃ v, e = .bool v
          · obtain ⟨v, rfl⟩ := hb
            have tb : TyX K G (xs.getD i .non) (.type "bool") := tx
            exact ⟨rfl, _, rfl, _, _, _, _, true, rfl, .ty "bool", tb, kit_ty (by decide +kernel), true, rfl, iteT (iteT ⟨_, rfl, ky rfl _ .refl⟩)⟩
          · by_cases hi : ∃ v, e = .int v
            · obtain ⟨v, rfl⟩ := hi
              have ti : TyX K G (xs.getD i .non) (.type "int") := tx
              exact ⟨rfl, _, rfl, _, _, _, _, false, rfl, .ty "bool", ti, kit_ty (by decide +kernel), false, rfl, iteF ⟨_, rfl, _, _, _, _, true, rfl, .ty "int", ti, kit_ty (by decide +kernel), true, rfl, iteF (kn rfl _ .refl)⟩⟩
            · obtain ⟨o1, o2, o3⟩ := other (fun v z => hi ⟨v, z⟩) (fun v z => hb ⟨v, z⟩)
              exact ⟨rfl, _, rfl, _, _, _, _, false, rfl, .ty "bool", tx, kit_ty o1, false, rfl, iteF ⟨_, rfl, _, _, _, _, false, rfl, .ty "int", tx, kit_ty o2, false, rfl, iteT ⟨_, rfl, ky o3 _ .refl⟩⟩⟩
        · rw [len] at eD
          have kdp : DpAll K G (kept (fun i => notInt (ds.getD i .none)) (fun i => xs.getD i .non) ds.length) (((List.range ds.length).filter fun i => notInt (ds.getD i .none)).map fun i => ds.getD i .none) := by
            unfold kept
            refine dp_map _ fun i hi => Dp.grow sm (dp_grow_at hA (List.mem_range.mp (List.mem_filter.mp hi).1))
          have ef := filt PyData.none notInt ds
          rw [ef] at kdp
          generalize hks : ds.filter notInt = ks at kdp
          have ksl : ∀ e ∈ ks, e.canLay0 = true ∧ e.depth ≤ 20 := fun e he => by
            rw [← hks] at he
            exact lay e (List.mem_filter.mp he).1
          refine ⟨(by show 0 ≤ sizeLine; decide), fun n0 hn0 => ?_⟩
          have gn : Grows G (upd G n0 (.lst [])) := Grows.new hn0
          refine ⟨.list ks, .list [], .lst (SqL.of (gn _ _ eD)) (DpAll.grow gn kdp), .lst (SqL.of upd_same) .nil, shaped_all ksl, shaped_all (fun _ h => nomatch h), _, rfl, ?_⟩
          rw [eqv_nil]
          by_cases hk : ks = []
          · rw [decide_eq_true hk]
            have allInt : ∀ i, i < ds.length → notInt (ds.getD i .none) = false := fun i hi => by
              rcases Bool.eq_false_or_eq_true (notInt (ds.getD i .none)) with z | z
              · have m : ds.getD i .none ∈ ks := by
                  rw [← hks]
                  refine List.mem_filter.mpr ⟨?_, z⟩
                  rw [List.getD_eq_getElem?_getD, List.getElem?_eq_getElem hi]
                  exact List.getElem_mem hi
                rw [hk] at m
                cases m
              · exact z
            have hSn := (sm.trans gn).seq hS
            have en : ((xs.length : Nat) : Int).toNat = ds.length := by omega
            refine iteF ⟨_, rfl, a, _, rfl, .inl hSn, _, rfl, by omega, by omega, fun D2 hD2 => lc_range (lo := 0) (n := ((xs.length : Nat) : Int).toNat) (fun m G2 => Grows (upd G n0 (.lst [])) G2 ∧ G2 D2 = some (.lst (((List.range m).filter fun i => !itemOk i (ds.getD i .none)).map fun i => V.int ((i : Nat) : Int)))) ⟨Grows.new hD2, upd_same⟩ (fun m G2 ml ⟨g2, e2⟩ => ?_) fun G2 ⟨g2, e2⟩ => ?_⟩
            · rw [en] at ml
              obtain ⟨v, hv⟩ : ∃ v, ds.getD m .none = .int v := by
                have z := allInt m ml
                cases h : ds.getD m .none with
                | int v => exact ⟨v, rfl⟩
                | _ => rw [h] at z; cases z
              have dx := dp_grow_at hA ml
              rw [hv] at dx
              obtain ⟨x, hx⟩ : ∃ x, xs.getD m .non = x := ⟨_, rfl⟩
              rw [hx] at dx
              cases dx
              have at_m : atI xs (0 + (m : Nat)) = some (V.int v) := by
                rw [Int.zero_add]
                refine atI_nat ?_
                rw [List.getD_eq_getElem?_getD] at hx
                rw [List.getElem?_eq_getElem (by omega : m < xs.length)] at hx ⊢
                exact congrArg some hx
              have grow : ∀ (o : HO), Grows (upd G n0 (.lst [])) (upd G2 D2 o) := fun o c u q => by
                rw [upd_ne (ne_of_none q hD2)]
                exact g2 c u q
              have flt : (List.range (m + 1)).filter (fun i => !itemOk i (ds.getD i .none)) = (List.range m).filter (fun i => !itemOk i (ds.getD i .none)) ++ (if (!itemOk m (ds.getD m .none)) = true then [m] else []) := by
                rw [List.range_succ, List.filter_append]
                congr 1
                by_cases z : (!itemOk m (ds.getD m .none)) = true
                · rw [if_pos z, List.filter_cons, if_pos z]; rfl
                · rw [if_neg z, List.filter_cons, if_neg z]; rfl
              have ok : itemOk m (ds.getD m .none) = (decide (-(m : Int) ≤ v) && decide (v ≤ (m : Int))) := by rw [hv]; rfl
              have sml : ((List.range m).filter fun i => !itemOk i (ds.getD i .none)).length ≤ 1000 := Nat.le_trans (List.length_filter_le _ _) (by rw [List.length_range]; omega)
              have bad : itemOk m (ds.getD m .none) = false → ∃ acc, G2 D2 = some (.lst acc) ∧ acc.length < sizeLine ∧ Grows (upd G n0 (.lst [])) (upd G2 D2 (.lst (acc ++ [V.int (0 + (m : Nat))]))) ∧ (upd G2 D2 (.lst (acc ++ [V.int (0 + (m : Nat))]))) D2 = some (.lst (((List.range (m + 1)).filter fun i => !itemOk i (ds.getD i .none)).map fun i => V.int ((i : Nat) : Int))) := fun z => by
                refine ⟨_, e2, by rw [List.length_map]; exact small1000 sml, grow _, ?_⟩
                rw [upd_same, flt, z, Int.zero_add, List.map_append]
                rfl
              have good : itemOk m (ds.getD m .none) = true → Grows (upd G n0 (.lst [])) G2 ∧ G2 D2 = some (.lst (((List.range (m + 1)).filter fun i => !itemOk i (ds.getD i .none)).map fun i => V.int ((i : Nat) : Int))) := fun z => by
                refine ⟨g2, ?_⟩
                rw [flt, z]
                simpa using e2
              refine ⟨rfl, _, rfl, _, _, rfl, rfl, _, rfl, _, rfl, a, xs, _, V.int v, rfl, rfl, g2.seq hSn, at_m, _, _, rfl, rfl, _, rfl, ?_⟩
              by_cases l1 : (0 - (0 + (m : Nat)) : Int) ≤ v
              · rw [if_pos (decide_eq_true l1)]
                refine ⟨_, rfl, _, _, rfl, rfl, _, rfl, ?_⟩
                by_cases l2 : v ≤ (0 + (m : Nat) : Int)
                · rw [decide_eq_true l2]
                  exact iteF (good (by rw [ok, decide_eq_true (by omega), decide_eq_true (by omega)]; rfl))
                · rw [decide_eq_false l2]
                  exact iteT ⟨_, rfl, bad (by rw [ok, decide_eq_false (show ¬ v ≤ (m : Int) by omega), Bool.and_false])⟩
              · rw [if_neg (by rw [decide_eq_false l1]; exact Bool.false_ne_true)]
                exact ⟨_, rfl, iteT ⟨_, rfl, bad (by rw [ok, decide_eq_false (show ¬ -(m : Int) ≤ v by omega), Bool.false_and])⟩⟩
            · rw [en] at e2
              have e3 : G2 D2 = some (.lst ((((List.range ds.length).filter fun i => !itemOk i (ds.getD i .none)).map fun i => ((i : Nat) : Int)).map V.int)) := by
                rw [e2, List.map_map]
                rfl
              refine ⟨(by show 0 ≤ sizeLine; decide), fun n1 hn1 => ?_⟩
              have g3 : Grows G2 (upd G2 n1 (.lst [])) := Grows.new hn1
              refine ⟨_, .list [], .lst (SqL.of (g3 _ _ e3)) (rows_dp _), .lst (SqL.of upd_same) .nil, shaped_ints _, shaped_all (fun _ h => nomatch h), ?_⟩
              rw [eqv_nil]
              have q := k _ ((sm.trans gn).trans (g2.trans g3))
              have fin : isC (.list ds) = decide (((((List.range ds.length).filter fun i => !itemOk i (ds.getD i .none)).map fun i => ((i : Nat) : Int)).map PyData.int) = []) := by
                rw [isC_list, decide_eq_true big, Bool.true_and]
                rcases Bool.eq_false_or_eq_true ((List.range ds.length).all fun i => itemOk i (ds.getD i .none)) with z | z
                · rw [z, decide_eq_true]
                  rw [List.map_eq_nil_iff, List.map_eq_nil_iff, List.filter_eq_nil_iff]
                  intro i hi
                  rw [List.all_eq_true.mp z i hi]
                  exact Bool.false_ne_true
                · rw [z, decide_eq_false]
                  rw [List.map_eq_nil_iff, List.map_eq_nil_iff, List.filter_eq_nil_iff]
                  intro y
                  obtain ⟨i, hi, ni⟩ := List.all_eq_false.mp z
                  refine y i hi ?_
                  rw [Bool.not_eq_true'] 
                  exact Bool.eq_false_iff.mpr ni
              rw [fin] at q
              exact q
          · rw [decide_eq_false hk]
            have no : isC (.list ds) = false := by
              rw [isC_list, Bool.and_eq_false_iff]
              refine .inr ?_
              obtain ⟨e, he⟩ := List.exists_mem_of_ne_nil _ hk
              rw [← hks] at he
              obtain ⟨m1, m2⟩ := List.mem_filter.mp he
              obtain ⟨i, il, ei⟩ := List.getElem_of_mem m1
              refine List.all_eq_false.mpr ⟨i, List.mem_range.mpr il, ?_⟩
              rw [List.getD_eq_getElem?_getD, List.getElem?_eq_getElem il]
              show ¬ itemOk i ds[i] = true
              rw [ei]
              cases e <;> first | exact Bool.false_ne_true | cases m2
            have q := k _ (sm.trans gn)
            rw [no] at q
            exact iteT q
      · rw [decide_eq_true (by rw [len]; omega)]
        have q := k H .refl
        rw [isC_list, decide_eq_false big, Bool.false_and] at q
        exact iteT q
    · have no : isC d = false := by
        cases d <;> first | rfl | exact absurd ⟨_, rfl⟩ isl
      have q := k H .refl
      rw [no] at q
      refine ⟨_, rfl, _, _, _, _, false, rfl, .ty "list", ty, kit_ty ?_, false, rfl, iteT q⟩
      cases d <;> first | exact absurd ⟨_, rfl⟩ isl | (simp only [tyName]; decide +kernel)
end
end K05

namespace K05
open PySem PySem.Spec PyProof.Rows L2 SortR LcM RepA
/-! ### a heap without one place -/
def hid (p : Addr) (H : Hp) : Hp := fun b => if b = p then none else H b
theorem hid_gr {p : Addr} {H H' : Hp} (g : Gr p H H') : Grows (hid p H) (hid p H') := fun b o e => by
  unfold hid at *
  by_cases z : b = p
  · rw [if_pos z] at e; cases e
  · rw [if_neg z] at e ⊢
    exact g b o z e
theorem hid_grow {p : Addr} {H H' : Hp} (g : Grows H H') : Grows (hid p H) (hid p H') := hid_gr g.gr
theorem hid_le {p : Addr} {H : Hp} : Grows (hid p H) H := fun b o e => by
  unfold hid at e
  by_cases z : b = p
  · rw [if_pos z] at e; cases e
  · rw [if_neg z] at e
    exact e
theorem hid_at {p a : Addr} {H : Hp} (n : a ≠ p) : hid p H a = H a := if_neg n
theorem hid_upd {p : Addr} {H : Hp} (o : HO) : hid p (upd H p o) = hid p H := by
  funext b
  unfold hid
  by_cases z : b = p
  · rw [if_pos z, if_pos z]
  · rw [if_neg z, if_neg z, upd_ne z]
/-! ### data that are small enough -/
structure OkD (n w : Nat) (d : PyData) : Prop where
  sh : d.showable = true
  ly : d.canLay0 = true
  dp : d.depth ≤ n
  lv : PyData.leavesShort 40 d = true
  wt : d.weight ≤ w
theorem OkD.le {n w m v : Nat} {d : PyData} (h : OkD n w d) (a : n ≤ m) (b : w ≤ v) : OkD m v d := ⟨h.sh, h.ly, Nat.le_trans h.dp a, h.lv, Nat.le_trans h.wt b⟩
theorem okd_all {n w : Nat} : ∀ ds : List PyData, (∀ d ∈ ds, OkD n w d) → PyData.showableAll ds = true ∧ PyData.canLayAll0 ds = true ∧ PyData.depthAll ds ≤ n ∧ PyData.leavesShortAll 40 ds = true ∧ PyData.weightAll ds ≤ ds.length * (w + 1)
  | [], _ => by simp only [PyData.showableAll, PyData.canLayAll0, PyData.depthAll, PyData.leavesShortAll, PyData.weightAll]; exact ⟨trivial, trivial, Nat.zero_le _, trivial, Nat.zero_le _⟩
  | d :: ds, h => by
    obtain ⟨a1, a2, a3, a4, a5⟩ := okd_all ds fun e m => h e (List.mem_cons_of_mem _ m)
    obtain ⟨b1, b2, b3, b4, b5⟩ := h d List.mem_cons_self
    refine ⟨?_, ?_, ?_, ?_, ?_⟩
    · simp only [PyData.showableAll, a1, b1, Bool.and_self]
    · simp only [PyData.canLayAll0, a2, b2, Bool.and_self]
    · simp only [PyData.depthAll]; omega
    · simp only [PyData.leavesShortAll, a4, b4, Bool.and_self]
    · simp only [PyData.weightAll, List.length_cons]
      rw [Nat.add_mul]
      omega
theorem okd_list {n w : Nat} {ds : List PyData} (h : ∀ d ∈ ds, OkD n w d) : OkD (n + 1) (ds.length * (w + 1)) (.list ds) := by
  obtain ⟨a1, a2, a3, a4, a5⟩ := okd_all ds h
  refine ⟨?_, ?_, ?_, ?_, ?_⟩
  · simp only [PyData.showable, a1]
  · simp only [PyData.canLay0, a2]
  · simp only [PyData.depth]; omega
  · simp only [PyData.leavesShort, a4]
  · simp only [PyData.weight]; exact a5
theorem okd_tuple {n w : Nat} {ds : List PyData} (h : ∀ d ∈ ds, OkD n w d) : OkD (n + 1) (ds.length * (w + 1)) (.tuple ds) := by
  obtain ⟨a1, a2, a3, a4, a5⟩ := okd_all ds h
  refine ⟨?_, ?_, ?_, ?_, ?_⟩
  · simp only [PyData.showable, a1]
  · simp only [PyData.canLay0, a2]
  · simp only [PyData.depth]; omega
  · simp only [PyData.leavesShort, a4]
  · simp only [PyData.weight]; exact a5
def SmI (i : Int) : Prop := i.natAbs < 10 ^ 12 ∨ i = 10 ^ 30 ∨ i = -(10 ^ 30)
theorem okd_int {i : Int} (h : SmI i) : OkD 0 110 (.int i) := by
  rcases h with h | rfl | rfl
  · have s := show_ints [i] (fun x hx => by rw [List.mem_singleton.mp hx]; exact h)
    have w := weight_ints [i] (fun x hx => by rw [List.mem_singleton.mp hx]; exact h)
    have l := PyData.intsShortAll_ints [i] (fun x hx => by rw [List.mem_singleton.mp hx]; exact h)
    refine ⟨?_, ?_, ?_, ?_, ?_⟩
    · simpa [PyData.showableAll] using s
    · simp only [PyData.canLay0]
    · simp only [PyData.depth]; omega
    · have l2 : PyData.intsShort 13 (.int i) = true := by simpa [PyData.intsShortAll] using l
      have l3 := PyData.leavesShort_of_canLay0 13 (.int i) (by simp only [PyData.canLay0]) l2
      rw [PyData.leavesShort] at l3 ⊢
      exact decide_eq_true (Nat.le_trans (of_decide_eq_true l3) (by decide))
    · simp only [List.map_cons, List.map_nil, PyData.weightAll, List.length_cons, List.length_nil] at w
      omega
  · refine ⟨by decide +kernel, by simp only [PyData.canLay0], by simp only [PyData.depth]; omega, by decide +kernel, by decide +kernel⟩
  · refine ⟨by decide +kernel, by simp only [PyData.canLay0], by simp only [PyData.depth]; omega, by decide +kernel, by decide +kernel⟩
theorem okd_none : OkD 0 110 .none := ⟨by decide +kernel, by decide +kernel, by decide +kernel, by decide +kernel, by decide +kernel⟩
theorem okd_bool : ∀ b, OkD 0 110 (.bool b)
  | true => ⟨by decide +kernel, by decide +kernel, by decide +kernel, by decide +kernel, by decide +kernel⟩
  | false => ⟨by decide +kernel, by decide +kernel, by decide +kernel, by decide +kernel, by decide +kernel⟩
theorem okd_e : OkD 0 110 (.str "") := ⟨by decide +kernel, by decide +kernel, by decide +kernel, by decide +kernel, by decide +kernel⟩
theorem okd_0 : OkD 0 110 (.str "0") := ⟨by decide +kernel, by decide +kernel, by decide +kernel, by decide +kernel, by decide +kernel⟩
/-- a value of small data that doesn't reach p -/
def Dv (p : Addr) (K : PySem.W.Frag) (n w : Nat) (H : Hp) (v : V) : Prop := ∃ d, Dp K (hid p H) v d ∧ OkD n w d
def It (p : Addr) (K : PySem.W.Frag) (H : Hp) (v : V) : Prop := Dv p K 3 6000 H v ∨ ∃ a, a ≠ p ∧ v = .ref a ∧ H a = some (.dK [])
theorem Dv.gr {p : Addr} {K : PySem.W.Frag} {n w : Nat} {H H' : Hp} {v : V} (h : Dv p K n w H v) (g : Gr p H H') : Dv p K n w H' v := by
  obtain ⟨d, a, b⟩ := h
  exact ⟨d, Dp.grow (hid_gr g) a, b⟩
theorem Dv.le {p : Addr} {K : PySem.W.Frag} {n w n' w' : Nat} {H : Hp} {v : V} (h : Dv p K n w H v) (a : n ≤ n') (b : w ≤ w') : Dv p K n' w' H v := by
  obtain ⟨d, x, y⟩ := h
  exact ⟨d, x, y.le a b⟩
theorem It.gr {p : Addr} {K : PySem.W.Frag} {H H' : Hp} {v : V} (h : It p K H v) (g : Gr p H H') : It p K H' v := by
  rcases h with h | ⟨a, n, e, q⟩
  · exact .inl (h.gr g)
  · exact .inr ⟨a, n, e, g _ _ n q⟩
theorem dv_all {p : Addr} {K : PySem.W.Frag} {n w : Nat} {H : Hp} : ∀ vs : List V, (∀ v ∈ vs, Dv p K n w H v) → ∃ ds, DpAll K (hid p H) vs ds ∧ ds.length = vs.length ∧ ∀ d ∈ ds, OkD n w d
  | [], _ => ⟨[], .nil, rfl, fun _ h => nomatch h⟩
  | v :: vs, h => by
    obtain ⟨ds, a, b, c⟩ := dv_all vs fun x m => h x (List.mem_cons_of_mem _ m)
    obtain ⟨d, q, o⟩ := h v List.mem_cons_self
    refine ⟨d :: ds, .cons q a, congrArg (· + 1) b, fun e he => ?_⟩
    rcases List.mem_cons.mp he with z | z
    · rw [z]; exact o
    · exact c e z
theorem dv_list {p a : Addr} {K : PySem.W.Frag} {n w : Nat} {H : Hp} {vs : List V} (e : H a = some (.lst vs)) (np : a ≠ p) (h : ∀ v ∈ vs, Dv p K n w H v) : Dv p K (n + 1) (vs.length * (w + 1)) H (.ref a) := by
  obtain ⟨ds, x, y, z⟩ := dv_all vs h
  refine ⟨.list ds, .lst (SqL.of ((hid_at np).trans e)) x, ?_⟩
  rw [← y]
  exact okd_list z
theorem dv_tuple {p a : Addr} {K : PySem.W.Frag} {n w : Nat} {H : Hp} {vs : List V} (e : H a = some (.tup vs)) (np : a ≠ p) (h : ∀ v ∈ vs, Dv p K n w H v) : Dv p K (n + 1) (vs.length * (w + 1)) H (.ref a) := by
  obtain ⟨ds, x, y, z⟩ := dv_all vs h
  refine ⟨.tuple ds, .tup (SqT.of ((hid_at np).trans e)) x, ?_⟩
  rw [← y]
  exact okd_tuple z
theorem dv_int {p : Addr} {K : PySem.W.Frag} {H : Hp} {i : Int} (h : SmI i) : Dv p K 0 110 H (.int i) := ⟨_, .int i, okd_int h⟩
theorem dv_ints {p : Addr} {K : PySem.W.Frag} {H : Hp} {ns : List Int} (h : ∀ i ∈ ns, SmI i) : ∀ v ∈ ns.map V.int, Dv p K 0 110 H v := fun v hv => by
  obtain ⟨i, hi, rfl⟩ := List.mem_map.mp hv
  exact dv_int (h i hi)
/-! ### displays, item by item -/
def Mk (Pr : Hp → V → Prop) (σ : L2.St) (B : Hp → Prop) (te : TE) : Prop := ∀ (H : Hp) (Q : VK), B H → (∀ v H', Grows H H' → Pr H' v → Q v H') → te σ H Q
def MkA (Pr : Hp → V → Prop) (σ : L2.St) (B : Hp → Prop) (t : TA) (n : Nat) : Prop := ∀ (H : Hp) (R : List V → Hp → Prop), B H → (∀ vs H', Grows H H' → vs.length = n → (∀ v ∈ vs, Pr H' v) → R vs H') → t σ H R
theorem mka_nil {Pr : Hp → V → Prop} {σ : L2.St} {B : Hp → Prop} : MkA Pr σ B tNil 0 := fun H R _ k => k [] H .refl rfl fun _ h => nomatch h
theorem mka_cons {Pr : Hp → V → Prop} {σ : L2.St} {B : Hp → Prop} {te : TE} {t : TA} {n : Nat} (st : ∀ H H', B H → Grows H H' → B H') (ps : ∀ H H' v, Pr H v → Grows H H' → Pr H' v) (h1 : Mk Pr σ B te) (h2 : MkA Pr σ B t n) : MkA Pr σ B (tCons te t) (n + 1) :=
  fun H R b k => h1 H _ b fun v H1 g1 p1 => h2 H1 _ (st _ _ b g1) fun vs H2 g2 l p2 => k (v :: vs) H2 (g1.trans g2) (congrArg (· + 1) l) fun x hx => by
    rcases List.mem_cons.mp hx with z | z
    · rw [z]; exact ps _ _ _ p1 g2
    · exact p2 x z
theorem mk_mono {Pr Pr' : Hp → V → Prop} {σ : L2.St} {B : Hp → Prop} {te : TE} (h : ∀ H v, Pr H v → Pr' H v) (m : Mk Pr σ B te) : Mk Pr' σ B te := fun H Q b k => m H Q b fun v H' g p => k v H' g (h _ _ p)
theorem mk_c {Pr : Hp → V → Prop} {σ : L2.St} {B : Hp → Prop} {v : V} (h : ∀ H, Pr H v) : Mk Pr σ B (tC v) := fun H Q _ k => k v H .refl (h H)
end K05

namespace K05
open PySem PySem.Spec PyProof.Rows L2 SortR LcM RepA
abbrev sOdd : Stmt := top 38
def Few (ns : List Int) : Prop := ns.length ≤ 19 ∧ ∀ i ∈ ns, i.natAbs ≤ 19
def spOdd (K : PySem.W.Frag) : Sp := fun vs H Q _ => ∃ (p a : Addr) (ns : List Int) (m : Int), vs = [.ref p, .ref a] ∧ Pch H p m ∧ m < 2 ^ 50 ∧ a ≠ p ∧ H a = some (.lst (ns.map V.int)) ∧ Few ns ∧
  ∀ (l : Addr) (vs : List V) (H' : Hp), Pch H' p (m + 1) → Gr p H H' → H l = none → H' l = some (.lst vs) → vs.length ≤ 60 → (∀ v ∈ vs, It p K H' v) → Q (.ref l) H'
theorem smi {i : Int} (h : i.natAbs ≤ 10000) : SmI i := .inl (Nat.lt_of_le_of_lt h (by decide))
/-- what stands while a display is made -/
structure Base (p a : Addr) (ns : List Int) (m : Int) (H : Hp) : Prop where
  pch : Pch H p m
  at_a : H a = some (.lst (ns.map V.int))
  ne : a ≠ p
  few : Few ns
section
variable {p a : Addr} {K : PySem.W.Frag} {ns : List Int} {m : Int} {σ : L2.St}
theorem Base.st (H H' : Hp) (b : Base p a ns m H) (g : Grows H H') : Base p a ns m H' := ⟨b.pch.same g, g _ _ b.at_a, b.ne, b.few⟩
theorem dv_st (n w : Nat) (H H' : Hp) (v : V) (h : Dv p K n w H v) (g : Grows H H') : Dv p K n w H' v := h.gr g.gr
theorem it_st (H H' : Hp) (v : V) (h : It p K H v) (g : Grows H H') : It p K H' v := h.gr g.gr
theorem Base.new {H : Hp} {l : Addr} (b : Base p a ns m H) (h : H l = none) : l ≠ p := pch_ne b.pch h
theorem Base.ints {H : Hp} (b : Base p a ns m H) : ∀ v ∈ ns.map V.int, Dv p K 0 110 H v := dv_ints fun i hi => smi (Nat.le_trans (b.few.2 i hi) (by decide))
abbrev M0 (p a : Addr) (K : PySem.W.Frag) (ns : List Int) (m : Int) (σ : L2.St) (te : TE) : Prop := Mk (Dv p K 0 110) σ (Base p a ns m) te
theorem m_non : M0 p a K ns m σ (tC .non) := mk_c fun H => ⟨_, .non, okd_none⟩
theorem m_bl (b : Bool) : M0 p a K ns m σ (tC (.bl b)) := mk_c fun H => ⟨_, .bl b, okd_bool b⟩
theorem m_int {i : Int} (h : SmI i) : M0 p a K ns m σ (tC (.int i)) := mk_c fun H => dv_int h
theorem m_e : M0 p a K ns m σ (tC (.str "")) := mk_c fun H => ⟨_, .str _, okd_e⟩
theorem m_0 : M0 p a K ns m σ (tC (.str "0")) := mk_c fun H => ⟨_, .str _, okd_0⟩
theorem m_neg {i : Int} (h : SmI (-i)) : M0 p a K ns m σ (tUn (rU fun i => V.int (-i)) (tC (.int i))) := fun H Q _ k => ⟨i, rfl, k _ H .refl (dv_int h)⟩
theorem m_lst {n w c : Nat} {t : TA} (h : MkA (Dv p K n w) σ (Base p a ns m) t c) (hc : c ≤ 1000 := by decide) : Mk (Dv p K (n + 1) (c * (w + 1))) σ (Base p a ns m) (tLst t) := fun H Q b k =>
  h H _ b fun vs H1 g l ps => ⟨by rw [l]; exact Nat.le_trans hc (by decide), fun x hx => k _ _ (g.trans (Grows.new hx)) (by
    rw [← l]
    exact dv_list upd_same ((b.st _ _ g).new hx) fun v hv => dv_st _ _ _ _ v (ps v hv) (Grows.new hx))⟩
theorem m_tup {n w c : Nat} {t : TA} (h : MkA (Dv p K n w) σ (Base p a ns m) t c) (hc : c ≤ 1000 := by decide) : Mk (Dv p K (n + 1) (c * (w + 1))) σ (Base p a ns m) (tTup t) := fun H Q b k =>
  h H _ b fun vs H1 g l ps => ⟨by rw [l]; exact Nat.le_trans hc (by decide), fun x hx => k _ _ (g.trans (Grows.new hx)) (by
    rw [← l]
    exact dv_tuple upd_same ((b.st _ _ g).new hx) fun v hv => dv_st _ _ _ _ v (ps v hv) (Grows.new hx))⟩
theorem it_dict : Mk (It p K) σ (Base p a ns m) tDNewK := fun H Q b k x hx => k _ _ (Grows.new hx) (.inr ⟨x, b.new hx, rfl, upd_same⟩)
theorem it_of {n w : Nat} {te : TE} (h : Mk (Dv p K n w) σ (Base p a ns m) te) (h1 : n ≤ 3 := by decide) (h2 : w ≤ 6000 := by decide) : Mk (It p K) σ (Base p a ns m) te := mk_mono (fun _ _ x => .inl (x.le h1 h2)) h
theorem d_cons {n w c : Nat} {te : TE} {t : TA} (h1 : Mk (Dv p K n w) σ (Base p a ns m) te) (h2 : MkA (Dv p K n w) σ (Base p a ns m) t c) : MkA (Dv p K n w) σ (Base p a ns m) (tCons te t) (c + 1) := mka_cons Base.st (dv_st n w) h1 h2
theorem i_cons {c : Nat} {te : TE} {t : TA} (h1 : Mk (It p K) σ (Base p a ns m) te) (h2 : MkA (It p K) σ (Base p a ns m) t c) : MkA (It p K) σ (Base p a ns m) (tCons te t) (c + 1) := mka_cons Base.st it_st h1 h2
/-- list of ints, told by its length -/
theorem dv_row {H : Hp} {x : Addr} {vs : List V} (e : H x = some (.lst vs)) (np : x ≠ p) (l : vs.length ≤ 45) (h : ∀ v ∈ vs, Dv p K 0 110 H v) : Dv p K 1 5000 H (.ref x) := (dv_list e np h).le (Nat.le_refl _) (Nat.le_trans (Nat.mul_le_mul_right _ l) (by decide))
theorem m_cat (hσ : σ[1]? = some (some (.ref a))) {te : TE} (h : M0 p a K ns m σ te) : Mk (Dv p K 1 5000) σ (Base p a ns m) (tOp rCat (tVar 1) (tLst (tCons te tNil))) := fun H Q b k =>
  ⟨_, hσ, h H _ b fun v H1 g pv => ⟨(by show 1 ≤ sizeLine; decide), fun z hz => ⟨a, z, _, _, rfl, rfl, (g.trans (Grows.new hz)) _ _ b.at_a, upd_same, by
    rw [List.length_map]
    exact Nat.le_trans (Nat.succ_le_succ b.few.1) (by decide), fun x hx => by
    have b1 := b.st _ _ g
    have b2 := b1.st _ _ (Grows.new (o := .lst [v]) hz)
    have g2 := Grows.new (o := .lst [v]) hz
    have g3 : Grows _ (upd (upd H1 z (.lst [v])) x (.lst (ns.map V.int ++ [v]))) := Grows.new hx
    refine k _ _ ((g.trans g2).trans g3) (dv_row upd_same (b2.new hx) ?_ fun u hu => ?_)
    · rw [List.length_append, List.length_map]
      have := b.few.1
      show ns.length + 1 ≤ 45
      omega
    · rcases List.mem_append.mp hu with q | q
      · exact (b2.st _ _ g3).ints u q
      · rw [List.mem_singleton.mp q]
        exact dv_st _ _ _ _ v pv (g2.trans g3)⟩⟩⟩
def rLen (K : PySem.W.Frag) : List V → Hp → VK → Prop := fun xs H Q => ∃ p ys, xs = [V.ref p] ∧ (SqL K H p ys ∨ SqT K H p ys) ∧ Q (V.int (ys.length : Nat)) H
theorem len_rd (hσ : σ[1]? = some (some (.ref a))) {H : Hp} {Q : VK} (b : Base p a ns m H) (k : Q (.int (ns.length : Nat)) H) : tCB (rLen K) (tCons (tVar 1) tNil) σ H Q :=
  ⟨_, hσ, a, ns.map V.int, rfl, .inl (SqL.of b.at_a), by rw [List.length_map]; exact k⟩
theorem m_len (hσ : σ[1]? = some (some (.ref a))) : M0 p a K ns m σ (tCB (rLen K) (tCons (tVar 1) tNil)) := fun H Q b k => len_rd hσ b (k _ H .refl (dv_int (smi (by have := b.few.1; omega))))
theorem m_len0 (hσ : σ[1]? = some (some (.ref a))) : M0 p a K ns m σ (tOp (rI0 fun i j => V.int (i - j)) (tC (.int 0)) (tCB (rLen K) (tCons (tVar 1) tNil))) := fun H Q b k => len_rd hσ b ⟨_, _, rfl, rfl, k _ H .refl (dv_int (smi (by have := b.few.1; omega)))⟩
theorem m_len1 (hσ : σ[1]? = some (some (.ref a))) : M0 p a K ns m σ (tOp (rI0 fun i j => V.int (i + j)) (tCB (rLen K) (tCons (tVar 1) tNil)) (tC (.int 1))) := fun H Q b k => len_rd hσ b ⟨_, _, rfl, rfl, k _ H .refl (dv_int (smi (by have := b.few.1; omega)))⟩
theorem m_len2 (hσ : σ[1]? = some (some (.ref a))) : M0 p a K ns m σ (tOp (rI0 fun i j => V.int (i - j)) (tUn (rU fun i => V.int (-i)) (tC (.int 1))) (tCB (rLen K) (tCons (tVar 1) tNil))) := fun H Q b k => ⟨1, rfl, len_rd hσ b ⟨_, _, rfl, rfl, k _ H .refl (dv_int (smi (by have := b.few.1; omega)))⟩⟩
theorem m_rev (hσ : σ[1]? = some (some (.ref a))) : Mk (Dv p K 1 5000) σ (Base p a ns m) (tRev K (tVar 1)) := fun H Q b k => ⟨_, hσ, a, _, rfl, SqL.of b.at_a, fun x hx => k _ _ (Grows.new hx) (dv_row upd_same (b.new hx) (by rw [List.length_reverse, List.length_map]; have := b.few.1; omega) fun u hu => (b.st _ _ (Grows.new hx)).ints u (List.mem_reverse.mp hu))⟩
theorem cutV_mem {xs : List V} {lo hi : Option Int} {x : V} (h : x ∈ cutV xs lo hi) : x ∈ xs := List.mem_of_mem_drop (List.mem_of_mem_take h)
theorem cutV_len (xs : List V) (lo hi : Option Int) : (cutV xs lo hi).length ≤ xs.length := Nat.le_trans (List.length_take_le' _ _) (by rw [List.length_drop]; exact Nat.sub_le _ _)
theorem m_one (hσ : σ[1]? = some (some (.ref a))) : Mk (Dv p K 2 5001) σ (Base p a ns m) (tLst (tCons (tVar 1) tNil)) := fun H Q b k => ⟨_, hσ, (by show 1 ≤ sizeLine; decide), fun x hx => k _ _ (Grows.new hx) (by
  have d := dv_list (K := K) (p := p) (n := 1) (w := 5000) (H := upd H x (.lst [V.ref a])) upd_same (b.new hx) fun u hu => by
    rw [List.mem_singleton.mp hu]
    exact dv_row (Grows.new hx _ _ b.at_a) b.ne (by rw [List.length_map]; have := b.few.1; omega) ((b.st _ _ (Grows.new hx)).ints)
  exact d.le (Nat.le_refl _) (by rw [List.length_singleton]; decide))⟩
theorem m_tuple (hσ : σ[1]? = some (some (.ref a))) : Mk (Dv p K 1 5000) σ (Base p a ns m) (tCB (fun xs H Q => ∃ p ys, xs = [V.ref p] ∧ ((SqL K H p ys ∧ ∀ (l : Addr), H l = none → Q (V.ref l) (upd H l (.tup ys))) ∨ SqT K H p ys ∧ Q (V.ref p) H)) (tCons (tVar 1) tNil)) := fun H Q b k =>
  ⟨_, hσ, a, _, rfl, .inl ⟨SqL.of b.at_a, fun x hx => k _ _ (Grows.new hx) ((dv_tuple upd_same (b.new hx) ((b.st _ _ (Grows.new hx)).ints)).le (Nat.le_refl _) (by
    rw [List.length_map]
    exact Nat.le_trans (Nat.mul_le_mul_right _ b.few.1) (by decide)))⟩⟩
theorem m_rg {i : Int} (h0 : 0 ≤ i) (h : i ≤ 20) : Mk (Dv p K 1 5000) σ (Base p a ns m) (tLstRg (tRg1 (tC (.int i)))) := fun H Q b k => ⟨i, rfl, .of_le (by decide) (by omega) (by decide) (by omega), fun x hx => k _ _ (Grows.new hx) (dv_row upd_same (b.new hx) (by
    unfold rgV
    rw [List.length_map, List.length_range]
    omega) fun u hu => by
    unfold rgV at hu
    obtain ⟨j, hj, rfl⟩ := List.mem_map.mp hu
    have := List.mem_range.mp hj
    exact dv_int (smi (by omega)))⟩
theorem disp {Pr : Hp → V → Prop} {B : Hp → Prop} {t : TA} {n : Nat} (h : MkA Pr σ B t n) (hn : n ≤ 1000) {H : Hp} {Q : VK} (b : B H) (k : ∀ vs H' x, Grows H H' → vs.length = n → (∀ v ∈ vs, Pr H' v) → H' x = none → Q (.ref x) (upd H' x (.lst vs))) : tLst t σ H Q :=
  h H _ b fun vs H1 g l ps => ⟨by rw [l]; exact Nat.le_trans hn (by decide), fun x hx => k vs H1 x g l ps hx⟩
end
end K05

namespace K05
open PySem PySem.Spec PyProof.Rows L2 SortR LcM RepA
theorem gr_none_back {p x : Addr} {H0 H : Hp} (g : Gr p H0 H) (n : x ≠ p) (h : H x = none) : H0 x = none := by
  cases e : H0 x with
  | none => rfl
  | some o => rw [g x o n e] at h; cases h
structure FS (H0 : Hp) (p a : Addr) (K : PySem.W.Frag) (ns : List Int) (m : Int) (σ : L2.St) (n : Nat) (H : Hp) : Prop where
  base : Base p a ns m H
  gr : Gr p H0 H
  fd : ∃ f xs, σ[2]? = some (some (.ref f)) ∧ H f = some (.lst xs) ∧ xs.length = n ∧ H0 f = none ∧ f ≠ p ∧ ∀ v ∈ xs, It p K H v
section
variable {p a : Addr} {K : PySem.W.Frag} {ns : List Int} {m : Int} {σ : L2.St} {H0 : Hp}
theorem FS.grow {n : Nat} {H H' : Hp} (s : FS H0 p a K ns m σ n H) (g : Grows H H') : FS H0 p a K ns m σ n H' := by
  obtain ⟨b, gr, f, xs, e, hf, l, z, nf, all⟩ := s
  exact ⟨b.st _ _ g, gr.trans g.gr, f, xs, e, g _ _ hf, l, z, nf, fun v hv => it_st _ _ v (all v hv) g⟩
theorem catD {t : TA} {n c : Nat} {H : Hp} {Q : VK} (s : FS H0 p a K ns m σ n H) (h : MkA (It p K) σ (Base p a ns m) t c) (hn : n ≤ 100 := by decide) (hc : c ≤ 100 := by decide) (k : ∀ f H', (∀ τ : L2.St, τ[2]? = some (some (.ref f)) → FS H0 p a K ns m τ (n + c) H') → Q (.ref f) H') : tOp rCat (tVar 2) (tLst t) σ H Q := by
  obtain ⟨b, gr, f, xs, e, hf, l, z, nf, all⟩ := s
  refine ⟨_, e, h H _ b fun vs H1 g l1 pr => ⟨by rw [l1]; exact Nat.le_trans hc (by decide), fun y hy => ⟨f, y, xs, vs, rfl, rfl, (g.trans (Grows.new hy)) _ _ hf, upd_same, by rw [l, l1]; exact Nat.le_trans (Nat.add_le_add hn hc) (by decide), fun x hx => ?_⟩⟩⟩
  have g2 := g.trans (Grows.new (o := .lst vs) hy)
  have g3 : Grows _ (upd (upd H1 y (.lst vs)) x (.lst (xs ++ vs))) := g2.trans (Grows.new hx)
  refine k x _ fun τ et => ⟨b.st _ _ g3, gr.trans g3.gr, x, _, et, upd_same, by rw [List.length_append, l, l1], gr_none_back (gr.trans g2.gr) ((b.st _ _ g2).new hx) hx, (b.st _ _ g2).new hx, fun v hv => ?_⟩
  rcases List.mem_append.mp hv with q | q
  · exact it_st _ _ v (all v q) g3
  · exact it_st _ _ v (pr v q) ((Grows.new hy).trans (Grows.new hx))
theorem m_rep {i : Int} (h0 : 0 ≤ i) (h : i ≤ 20) : Mk (Dv p K 1 5000) σ (Base p a ns m) (tOp rRep (tLst (tCons (tC (.int 0)) tNil)) (tC (.int i))) := fun H Q b k =>
  ⟨(by show 1 ≤ sizeLine; decide), fun z hz => ⟨z, i, [V.int 0], rfl, rfl, upd_same, by omega, by omega, Nat.le_trans (by show 1 * i.toNat ≤ 20; omega) (by decide : 20 ≤ sizeLine), fun x hx => k _ _ ((Grows.new hz).trans (Grows.new hx)) (dv_row upd_same ((b.st _ _ (Grows.new hz)).new hx) (by
    rw [List.length_flatten, List.map_replicate, List.sum_replicate_nat]
    show i.toNat * 1 ≤ 45
    omega) fun u hu => by
    obtain ⟨l, hl, hul⟩ := List.mem_flatten.mp hu
    rw [(List.mem_replicate.mp hl).2] at hul
    rw [List.mem_singleton.mp hul]
    exact dv_int (smi (by decide)))⟩⟩
theorem m_tail (hσ : σ[1]? = some (some (.ref a))) : Mk (Dv p K 1 5000) σ (Base p a ns m) (tSl (rSlL K) (tVar 1) (tPart (tC (.int 1))) tNoPart) := fun H Q b k =>
  ⟨_, hσ, 1, rfl, a, _, rfl, SqL.of b.at_a, fun x hx => k _ _ (Grows.new hx) (dv_row upd_same (b.new hx) (Nat.le_trans (cutV_len _ _ _) (by rw [List.length_map]; have := b.few.1; omega)) fun u hu => (b.st _ _ (Grows.new hx)).ints u (cutV_mem hu))⟩
theorem disp_s {t : TA} {n : Nat} {rest : TS} {Dn : Ends} (h : MkA (It p K) σ (Base p a ns m) t n) (hn : n ≤ 100) {H : Hp} (g0 : Gr p H0 H) (b : Base p a ns m H) (hσ : 2 < σ.length) (k : ∀ f H', FS H0 p a K ns m (σ.set 2 (some (.ref f))) n H' → rest Dn (σ.set 2 (some (.ref f))) H') : tSeq (tAsg (tLst t) (gName 2)) rest Dn σ H := by
  refine h H _ b fun vs H1 g l ps => ⟨by rw [l]; exact Nat.le_trans hn (by decide), fun x hx => k x _ ⟨b.st _ _ (g.trans (Grows.new hx)), g0.trans (g.trans (Grows.new hx)).gr, x, vs, List.getElem?_set_self hσ, upd_same, l, gr_none_back (g0.trans g.gr) ((b.st _ _ g).new hx) hx, (b.st _ _ g).new hx, fun v hv => it_st _ _ v (ps v hv) (Grows.new hx)⟩⟩
theorem cat_s {t : TA} {n c : Nat} {rest : TS} {Dn : Ends} {H : Hp} (s : FS H0 p a K ns m σ n H) (h : MkA (It p K) σ (Base p a ns m) t c) (hn : n ≤ 100) (hc : c ≤ 100) (hσ : 2 < σ.length) (k : ∀ f H', FS H0 p a K ns m (σ.set 2 (some (.ref f))) (n + c) H' → rest Dn (σ.set 2 (some (.ref f))) H') : tSeq (tAsg (tOp rCat (tVar 2) (tLst t)) (gName 2)) rest Dn σ H :=
  catD s h hn hc fun f H' q => k f H' (q _ (List.getElem?_set_self hσ))
theorem dsp_s {Pr : Hp → V → Prop} {B : Hp → Prop} {t : TA} {n i : Nat} {rest : TS} {Dn : Ends} {H : Hp} (h : MkA Pr σ B t n) (hn : n ≤ 100) (b : B H) (k : ∀ vs H' x, Grows H H' → vs.length = n → (∀ v ∈ vs, Pr H' v) → H' x = none → rest Dn (σ.set i (some (.ref x))) (upd H' x (.lst vs))) : tSeq (tAsg (tLst t) (gName i)) rest Dn σ H :=
  h H _ b fun vs H1 g l ps => ⟨by rw [l]; exact Nat.le_trans hn (by decide), fun x hx => k vs H1 x g l ps hx⟩
theorem o_of {n w : Nat} {te : TE} (h : Mk (Dv p K n w) σ (Base p a ns m) te) (h1 : n ≤ 1 := by decide) (h2 : w ≤ 111 := by decide) : Mk (Dv p K 1 111) σ (Base p a ns m) te := mk_mono (fun _ _ x => x.le h1 h2) h
theorem m_var {i : Nat} {v : Int} (h3 : σ[i]? = some (some (.int v))) (h : SmI v) : M0 p a K ns m σ (tVar i) := fun H Q _ k => ⟨_, h3, k _ H .refl (dv_int h)⟩
theorem m_var1 {i : Nat} {v : Int} (h3 : σ[i]? = some (some (.int v))) (h : SmI (v + 1)) : M0 p a K ns m σ (tOp (rI0 fun i j => V.int (i + j)) (tVar i) (tC (.int 1))) := fun H Q _ k => ⟨_, h3, ⟨_, _, rfl, rfl, k _ H .refl (dv_int h)⟩⟩
theorem m_varN {i : Nat} {v : Int} (h3 : σ[i]? = some (some (.int v))) (h : SmI (-1 - v)) : M0 p a K ns m σ (tOp (rI0 fun i j => V.int (i - j)) (tUn (rU fun i => V.int (-i)) (tC (.int 1))) (tVar i)) := fun H Q _ k => ⟨1, rfl, ⟨_, h3, ⟨_, _, rfl, rfl, k _ H .refl (dv_int h)⟩⟩⟩
theorem m_var0 {i : Nat} {v : Int} (h3 : σ[i]? = some (some (.int v))) (h : SmI (0 - v)) : M0 p a K ns m σ (tOp (rI0 fun i j => V.int (i - j)) (tC (.int 0)) (tVar i)) := fun H Q _ k => ⟨_, h3, ⟨_, _, rfl, rfl, k _ H .refl (dv_int h)⟩⟩
theorem p1030 : CPowW 10 30 := pow3' (n := 30) (by decide) (by decide)
theorem m_big : M0 p a K ns m σ (tOp (rI CPowW fun i j => V.int (i ^ j.toNat)) (tC (.int 10)) (tC (.int 30))) := fun H Q _ k => ⟨10, 30, rfl, rfl, p1030, k _ H .refl (dv_int (.inr (.inl rfl)))⟩
theorem m_bigN : M0 p a K ns m σ (tOp (rI0 fun i j => V.int (i - j)) (tC (.int 0)) (tOp (rI CPowW fun i j => V.int (i ^ j.toNat)) (tC (.int 10)) (tC (.int 30)))) := fun H Q _ k => ⟨10, 30, rfl, rfl, p1030, ⟨_, _, rfl, rfl, k _ H .refl (dv_int (.inr (.inr (by decide +kernel))))⟩⟩
theorem odd_row {v : Int} {x : V} {D : Addr} {H : Hp} {Q : VK} (h1 : σ[1]? = some (some (.ref a))) (h3 : σ[3]? = some (some (.int v))) (h5 : σ[5]? = some (some x)) (b : Base p a ns m H) (hD : H D ≠ none) (px : Dv p K 1 111 (hid D H) x) (k : ∀ y H4, Grows H H4 → Dv p K 2 5040 (hid D H4) y → Q y H4) :
    tOp rCat (tOp rCat (tSl (rSlL K) (tVar 1) tNoPart (tPart (tVar 3))) (tLst (tCons (tVar 5) tNil))) (tSl (rSlL K) (tVar 1) (tPart (tOp (rI0 fun i j => V.int (i + j)) (tVar 3) (tC (V.int 1)))) tNoPart) σ H Q := by
  have few := b.few.1
  refine ⟨_, h1, ⟨_, h3, v, rfl, a, _, rfl, SqL.of b.at_a, fun s1 k1 => ⟨_, h5, (by show 1 ≤ sizeLine; decide), fun s2 k2 => ⟨s1, s2, _, _, rfl, rfl, Grows.new k2 _ _ upd_same, upd_same, ?_, fun s3 k3 => ⟨_, h1, ⟨_, h3, ⟨_, _, rfl, rfl, v + 1, rfl, a, _, rfl, SqL.of ((((Grows.new k1).trans (Grows.new k2)).trans (Grows.new k3)) _ _ b.at_a), fun s4 k4 => ⟨s3, s4, _, _, rfl, rfl, Grows.new k4 _ _ upd_same, upd_same, ?_, fun s5 k5 => ?_⟩⟩⟩⟩⟩⟩⟩⟩
  · refine Nat.le_trans (Nat.add_le_add_right (cutV_len _ _ _) _) ?_
    rw [List.length_map]
    exact Nat.le_trans (by show ns.length + 1 ≤ 20; omega) (by decide : 20 ≤ sizeLine)
  · refine Nat.le_trans (Nat.add_le_add_left (cutV_len _ _ _) _) ?_
    rw [List.length_append]
    refine Nat.le_trans (Nat.add_le_add_right (Nat.add_le_add_right (cutV_len _ _ _) _) _) ?_
    rw [List.length_map]
    exact Nat.le_trans (by show ns.length + 1 + ns.length ≤ 39; omega) (by decide : 39 ≤ sizeLine)
  · have g4 := (((Grows.new (o := .lst (cutV (ns.map V.int) none (some v))) k1).trans (Grows.new (o := .lst [x]) k2)).trans (Grows.new (o := .lst (cutV (ns.map V.int) none (some v) ++ [x])) k3)).trans (Grows.new (o := .lst (cutV (ns.map V.int) (some (v + 1)) none)) k4)
    have g5 := g4.trans (Grows.new (o := .lst ((cutV (ns.map V.int) none (some v) ++ [x]) ++ cutV (ns.map V.int) (some (v + 1)) none)) k5)
    have nD : s5 ≠ D := fun z => by
      cases e : H D with
      | none => exact hD e
      | some o =>
        have := g4 _ _ e
        rw [← z, k5] at this
        cases this
    refine k _ _ g5 ((dv_list (n := 1) (w := 111) ((hid_at nD).trans upd_same) ((b.st _ _ g4).new k5) fun u hu => ?_).le (Nat.le_refl _) ?_)
    · rcases List.mem_append.mp hu with q | q
      · rcases List.mem_append.mp q with q | q
        · obtain ⟨i, hi, rfl⟩ := List.mem_map.mp (cutV_mem q)
          exact (dv_int (smi (Nat.le_trans (b.few.2 i hi) (by decide)))).le (by decide) (by decide)
        · rw [List.mem_singleton.mp q]
          exact px.gr (hid_grow g5).gr
      · obtain ⟨i, hi, rfl⟩ := List.mem_map.mp (cutV_mem q)
        exact (dv_int (smi (Nat.le_trans (b.few.2 i hi) (by decide)))).le (by decide) (by decide)
    · refine Nat.le_trans (Nat.mul_le_mul_right _ (?_ : _ ≤ 45)) (by decide)
      rw [List.length_append, List.length_append]
      have c1 := cutV_len (ns.map V.int) none (some v)
      have c2 := cutV_len (ns.map V.int) (some (v + 1)) none
      rw [List.length_map] at c1 c2
      show _ + 1 + _ ≤ 45
      omega
end
end K05

namespace K05
open PySem PySem.Spec PyProof.Rows L2 SortR LcM RepA
section
variable {P : Program} {w : World} {K : PySem.W.Frag} {mg : Str → Option Value} {base : Heap}
theorem scOdd : FnScope ["pouch", "items", "found", "spot", "odd", "fresh"] ["pouch", "items"] (defScope sOdd) := ⟨rfl, rfl, rfl, by decide +kernel, rfl, by decide +kernel, by decide +kernel⟩
theorem ok_odd {f fD : Addr} {fd fdD : FuncData} (F : Fun K "_law_odd_items" "_law_odd_items" sOdd f fd) (T : TxtP mg) (T0 : TxtD mg fD) (FD : Fun K "_law_dip" "_law_dip" sDip fD fdD) (bD : Binds K fdD ["pouch", "wide"] []) : FnOk P w K mg base CX0 2 f fd ["pouch", "items"] (spOdd K) := by
  have GD : FnOk P w K mg base CX0 1 fD fdD ["pouch", "wide"] spDip := ok_dip FD T0.toTxt0
  refine F.ok scOdd (fun vs H Q E h => ?_) (fun cdv A outer s H vs Q E hr h => ?_)
  · obtain ⟨p, a, ns, m, rfl, _⟩ := h
    rfl
  · obtain ⟨p, a, ns, m, rfl, hP, hm, nap, ha, few, k⟩ := h
    refine ⟨_, (pss_cons (ps_set (i := 2) scOdd.nd rfl (.inl rfl) (pe_lst (pa_cons pe_non (pa_cons pe_bl (pa_cons pe_int (pa_cons pe_str (pa_cons pe_str (pa_cons pe_dnewK (pa_cons (pe_lst pa_nil) (pa_cons (pe_tup pa_nil) (pa_cons (pe_tup (pa_cons pe_int pa_nil)) (pa_cons (pe_lst (pa_cons pe_int pa_nil)) (pa_cons (pe_lst (pa_cons pe_int pa_nil)) (pa_cons (pe_lst (pa_cons (pe_un un_neg pe_int) pa_nil)) (pa_cons (pe_lst (pa_cons pe_bl pa_nil)) (pa_cons (pe_lst (pa_cons pe_bl pa_nil)) (pa_cons (pe_lst (pa_cons pe_str pa_nil)) (pa_cons (pe_lst (pa_cons pe_non pa_nil)) (pa_cons (pe_lst (pa_cons (pe_lst (pa_cons pe_int pa_nil)) pa_nil)) (pa_cons (pe_lst (pa_cons pe_int (pa_cons pe_int pa_nil))) pa_nil))))))))))))))))))))
      (pss_cons (ps_set (i := 2) scOdd.nd rfl (.inl rfl) (pe_op op_cat (pv 2) (pe_lst (pa_cons (pe_lst (pa_cons pe_int (pa_cons (pe_un un_neg pe_int) pa_nil))) (pa_cons (pe_lst (pa_cons pe_int (pa_cons pe_int pa_nil))) (pa_cons (pe_lst (pa_cons pe_int (pa_cons (pe_un un_neg pe_int) pa_nil))) (pa_cons (pe_lst (pa_cons pe_int (pa_cons pe_bl pa_nil))) (pa_cons (pe_lst (pa_cons pe_int (pa_cons pe_bl pa_nil))) (pa_cons (pe_lst (pa_cons pe_int (pa_cons pe_int (pa_cons pe_int pa_nil)))) (pa_cons (pe_lst (pa_cons pe_int (pa_cons pe_int (pa_cons (pe_un un_neg pe_int) pa_nil)))) (pa_cons (pe_lst (pa_cons pe_int (pa_cons pe_int (pa_cons pe_int pa_nil)))) (pa_cons (pe_lst (pa_cons pe_int (pa_cons pe_int (pa_cons (pe_un un_neg pe_int) pa_nil)))) pa_nil))))))))))))
      (pss_cons (ps_set (i := 2) scOdd.nd rfl (.inl rfl) (pe_op op_cat (pv 2) (pe_lst (pa_cons (pe_op op_rep (pe_lst (pa_cons pe_int pa_nil)) pe_int) (pa_cons (pe_op op_rep (pe_lst (pa_cons pe_int pa_nil)) pe_int) (pa_cons (pe_callTy call_tuple_of (by rfl) T.tuple (by decide +kernel) (pa_cons (pv 1) pa_nil)) (pa_cons (pe_op op_cat (pv 1) (pe_lst (pa_cons pe_int pa_nil))) (pa_cons (pe_op op_cat (pv 1) (pe_lst (pa_cons (pe_callB call_len_seq (by rfl) T.len (by decide +kernel) (pa_cons (pv 1) pa_nil)) pa_nil))) (pa_cons (pe_op op_cat (pv 1) (pe_lst (pa_cons (pe_op op_sub pe_int (pe_callB call_len_seq (by rfl) T.len (by decide +kernel) (pa_cons (pv 1) pa_nil))) pa_nil))) pa_nil)))))))))
      (pss_cons (ps_set (i := 2) scOdd.nd rfl (.inl rfl) (pe_op op_cat (pv 2) (pe_lst (pa_cons (pe_op op_cat (pv 1) (pe_lst (pa_cons (pe_op op_add (pe_callB call_len_seq (by rfl) T.len (by decide +kernel) (pa_cons (pv 1) pa_nil)) pe_int) pa_nil))) (pa_cons (pe_rev (pv 1)) (pa_cons (pe_op op_cat (pv 1) (pe_lst (pa_cons (pe_op op_sub (pe_un un_neg pe_int) (pe_callB call_len_seq (by rfl) T.len (by decide +kernel) (pa_cons (pv 1) pa_nil))) pa_nil))) (pa_cons (pe_op op_cat (pv 1) (pe_lst (pa_cons pe_non pa_nil))) (pa_cons (pe_lst (pa_cons (pv 1) pa_nil)) pa_nil))))))))
      (pss_cons (ps_set (i := 2) scOdd.nd rfl (.inl rfl) (pe_op op_cat (pv 2) (pe_lst (pa_cons (pe_slice (r := rSlL K) (by exact sl_list) (pv 1) (po_some pe_int) po_none) (pa_cons (pe_listRg rfl (by rfl) T.list (prg_1 (by rfl) T.range pe_int)) (pa_cons (pe_listRg rfl (by rfl) T.list (prg_1 (by rfl) T.range pe_int)) pa_nil))))))
      (pss_cons (ps_if (pt_cmpR (op_neD hr.units) (pv 1) (pe_lst pa_nil) (nomark _)) (pss_cons (ps_set (i := 3) scOdd.nd rfl (.inr rfl) (pe_call GD (hr.mono (by decide)) rfl T0.gD FD.kp bD .nil pass0 (pa_cons (pv 0) (pa_cons (pe_callB call_len_seq (by rfl) T.len (by decide +kernel) (pa_cons (pv 1) pa_nil)) pa_nil))))
      (pss_cons (ps_set (i := 4) scOdd.nd rfl (.inl rfl) (pe_lst (pa_cons (pe_op op_add (pv 3) pe_int) (pa_cons (pe_op op_sub (pe_un un_neg pe_int) (pv 3)) (pa_cons (pe_op op_powW pe_int pe_int) (pa_cons (pe_op op_sub pe_int (pe_op op_powW pe_int pe_int)) (pa_cons pe_non (pa_cons pe_str (pa_cons pe_bl (pa_cons (pe_lst (pa_cons pe_int pa_nil)) (pa_cons pe_int (pa_cons (pv 3) (pa_cons (pe_op op_sub pe_int (pv 3)) pa_nil)))))))))))))
      (pss_one (ps_set (i := 2) scOdd.nd rfl (.inl rfl) (pe_op op_cat (pv 2) (pe_lc (own := [("fresh", 5)]) (g := gName 5) (tt := tYes) rfl scOdd.nd (pi_list (pv 4)) (blkOk_by (own := [("fresh", 5)]) (N := ["pouch", "items", "found", "spot", "odd", "fresh"]) (sc := defScope sOdd) (by decide +kernel)) (fun _ _ _ _ _ => pg_name (i := 5) scOdd.nd rfl (Or.inl rfl)) (fun _ _ _ _ _ => pts_nil) (fun _ _ _ _ _ => (pe_op op_cat (pe_op op_cat (pe_slice (r := rSlL K) (by exact sl_list) (pv 1) po_none (po_some (pv 3))) (pe_lst (pa_cons (pv 5) pa_nil))) (pe_slice (r := rSlL K) (by exact sl_list) (pv 1) (po_some (pe_op op_add (pv 3) pe_int)) po_none))))))))) pss_nil)
      (pss_one (ps_ret (pv 2))))))))), ?_⟩
    have b0 : Base p a ns m H := ⟨hP, ha, nap, few⟩
    refine disp_s (K := K) (n := 18) (i_cons (it_of m_non) (i_cons (it_of (m_bl true)) (i_cons (it_of (m_int (smi (i := 0) (by decide)))) (i_cons (it_of m_e) (i_cons (it_of m_0) (i_cons it_dict (i_cons (it_of (m_lst (n := 0) (w := 110) mka_nil)) (i_cons (it_of (m_tup (n := 0) (w := 110) mka_nil)) (i_cons (it_of (m_tup (d_cons (m_int (smi (i := 0) (by decide))) mka_nil))) (i_cons (it_of (m_lst (d_cons (m_int (smi (i := 0) (by decide))) mka_nil))) (i_cons (it_of (m_lst (d_cons (m_int (smi (i := 1) (by decide))) mka_nil))) (i_cons (it_of (m_lst (d_cons (m_neg (i := 1) (smi (by decide))) mka_nil))) (i_cons (it_of (m_lst (d_cons (m_bl false) mka_nil))) (i_cons (it_of (m_lst (d_cons (m_bl true) mka_nil))) (i_cons (it_of (m_lst (d_cons m_0 mka_nil))) (i_cons (it_of (m_lst (d_cons m_non mka_nil))) (i_cons (it_of (m_lst (d_cons (m_lst (d_cons (m_int (smi (i := 0) (by decide))) mka_nil)) mka_nil))) (i_cons (it_of (m_lst (d_cons (m_int (smi (i := 0) (by decide))) (d_cons (m_int (smi (i := 1) (by decide))) mka_nil)))) mka_nil)))))))))))))))))) (by decide) (Gr.refl) b0 (by show 2 < 6; decide) fun f1 H1 S1 => ?_
    refine cat_s S1 (i_cons (it_of (m_lst (d_cons (m_int (smi (i := 0) (by decide))) (d_cons (m_neg (i := 1) (smi (by decide))) mka_nil)))) (i_cons (it_of (m_lst (d_cons (m_int (smi (i := 0) (by decide))) (d_cons (m_int (smi (i := 2) (by decide))) mka_nil)))) (i_cons (it_of (m_lst (d_cons (m_int (smi (i := 0) (by decide))) (d_cons (m_neg (i := 2) (smi (by decide))) mka_nil)))) (i_cons (it_of (m_lst (d_cons (m_int (smi (i := 0) (by decide))) (d_cons (m_bl true) mka_nil)))) (i_cons (it_of (m_lst (d_cons (m_int (smi (i := 0) (by decide))) (d_cons (m_bl false) mka_nil)))) (i_cons (it_of (m_lst (d_cons (m_int (smi (i := 0) (by decide))) (d_cons (m_int (smi (i := 0) (by decide))) (d_cons (m_int (smi (i := 2) (by decide))) mka_nil))))) (i_cons (it_of (m_lst (d_cons (m_int (smi (i := 0) (by decide))) (d_cons (m_int (smi (i := 0) (by decide))) (d_cons (m_neg (i := 2) (smi (by decide))) mka_nil))))) (i_cons (it_of (m_lst (d_cons (m_int (smi (i := 0) (by decide))) (d_cons (m_int (smi (i := 0) (by decide))) (d_cons (m_int (smi (i := 3) (by decide))) mka_nil))))) (i_cons (it_of (m_lst (d_cons (m_int (smi (i := 0) (by decide))) (d_cons (m_int (smi (i := 0) (by decide))) (d_cons (m_neg (i := 3) (smi (by decide))) mka_nil))))) mka_nil))))))))) (by decide) (by decide) (by show 2 < 6; decide) fun f2 H2 S2 => ?_
    refine cat_s S2 (i_cons (it_of (m_rep (i := 19) (by decide) (by decide))) (i_cons (it_of (m_rep (i := 20) (by decide) (by decide))) (i_cons (it_of (m_tuple (by rfl))) (i_cons (it_of (m_cat (by rfl) (m_int (smi (i := 0) (by decide))))) (i_cons (it_of (m_cat (by rfl) (m_len (by rfl)))) (i_cons (it_of (m_cat (by rfl) (m_len0 (by rfl)))) mka_nil)))))) (by decide) (by decide) (by show 2 < 6; decide) fun f3 H3 S3 => ?_
    refine cat_s S3 (i_cons (it_of (m_cat (by rfl) (m_len1 (by rfl)))) (i_cons (it_of (m_rev (by rfl))) (i_cons (it_of (m_cat (by rfl) (m_len2 (by rfl)))) (i_cons (it_of (m_cat (by rfl) m_non)) (i_cons (it_of (m_one (by rfl))) mka_nil))))) (by decide) (by decide) (by show 2 < 6; decide) fun f4 H4 S4 => ?_
    refine cat_s S4 (i_cons (it_of (m_tail (by rfl))) (i_cons (it_of (m_rg (i := 19) (by decide) (by decide))) (i_cons (it_of (m_rg (i := 20) (by decide) (by decide))) mka_nil))) (by decide) (by decide) (by show 2 < 6; decide) fun f5 H5 S5 => ?_
    obtain ⟨b5, gr5, f5', xs, e5, hf5, l5, z5, nf5, all5⟩ := S5
    have out : ∀ l vs H', Base p a ns m H' ∨ Base p a ns (m + 1) H' → Gr p H H' → H l = none → H' l = some (.lst vs) → vs.length ≤ 60 → (∀ v ∈ vs, It p K H' v) → Q (.ref l) H' := fun l vs H' b g e1 e2 e3 e4 => k l vs H' (by
      rcases b with b | b
      · exact b.pch.le (by omega)
      · exact b.pch) g e1 e2 e3 e4
    refine ⟨_, rfl, (by show 0 ≤ sizeLine; decide), fun z hz => ⟨PyData.list (ns.map .int), PyData.list (([] : List Int).map .int), .lst (SqL.of (Grows.new hz _ _ b5.at_a)) (rows_dp ns), .lst (SqL.of upd_same) (rows_dp []), shaped_ints _, shaped_ints _, _, rfl, ?_⟩⟩
    have gz := Grows.new (o := .lst []) hz
    have b6 := b5.st _ _ gz
    rw [eqv_ints]
    by_cases hne : ns = []
    · rw [decide_eq_true hne]
      exact ⟨_, e5, out _ xs _ (.inl b6) (gr5.trans gz.gr) z5 (gz _ _ hf5) (by rw [l5]; decide) fun v hv => it_st _ _ v (all5 v hv) gz⟩
    rw [decide_eq_false hne]
    have pos : 0 < ns.length := List.length_pos_iff.mpr hne
    have few1 := few.1
    refine ⟨_, rfl, len_rd rfl b6 ⟨p, ns.length, m, rfl, b6.pch, by omega, by omega, by omega, fun v H7 v0 vl P7 same7 => ?_⟩⟩
    have g7 : Gr p _ H7 := fun b o n e => (same7 b n).trans e
    have b7 : Base p a ns (m + 1) H7 := ⟨P7, g7 _ _ nap b6.at_a, nap, few⟩
    refine dsp_s (Pr := Dv p K 1 111) (B := Base p a ns (m + 1)) (n := 11) (d_cons (o_of (m_var1 (by rfl) (smi (by omega)))) (d_cons (o_of (m_varN (by rfl) (smi (by omega)))) (d_cons (o_of m_big) (d_cons (o_of m_bigN) (d_cons (o_of m_non) (d_cons (o_of m_0) (d_cons (o_of (m_bl true)) (d_cons (o_of (m_lst (d_cons (m_int (smi (i := 0) (by decide))) mka_nil))) (d_cons (o_of (m_int (smi (i := 0) (by decide)))) (d_cons (o_of (m_var (by rfl) (smi (by omega)))) (d_cons (o_of (m_var0 (by rfl) (smi (by omega)))) mka_nil))))))))))) (by decide) b7 fun vs8 H8 o g8 n8 p8 ho => ?_
    have g9 := Grows.new (o := .lst vs8) ho
    have b9 := (b7.st _ _ g8).st _ _ g9
    have gA : Gr p H _ := ((gr5.trans gz.gr).trans g7).trans (g8.trans g9).gr
    have hfA : upd H8 o (.lst vs8) f5' = some (.lst xs) := g9 _ _ (g8 _ _ (g7 _ _ nf5 (gz _ _ hf5)))
    have allA : ∀ v ∈ xs, It p K (upd H8 o (.lst vs8)) v := fun u hu => (((all5 u hu).gr gz.gr).gr g7).gr (g8.trans g9).gr
    refine ⟨_, e5, _, rfl, o, rfl, ⟨_, SqL.of upd_same⟩, fun D hD => lc_listX (K := K) (fun _ y G => Dv p K 2 5040 (hid D G) y) (fun j y G G' g r => r.gr (hid_grow g).gr) (fun j y G zs r _ u => by rw [hid_upd]; exact r) hD (SqL.of upd_same) (by rw [n8]; decide) (fun j x G Rk hx sm nD kR => ?_) fun G ys mx => ?_⟩
    · have px := p8 x (List.mem_of_getElem? hx)
      have hid8 : hid D (upd H8 o (.lst vs8)) = upd H8 o (.lst vs8) := by
        funext c
        unfold hid
        by_cases q : c = D
        · rw [if_pos q, q, hD]
        · rw [if_neg q]
      refine ⟨rfl, odd_row rfl rfl rfl (b9.st _ _ sm) nD ?_ fun y H4 g4 r => kR y H4 g4 r⟩
      have := (px.gr g9.gr)
      rw [← hid8] at this
      exact this.gr (hid_grow sm).gr
    · have gB := gA.trans mx.grow.gr
      have nDp : D ≠ p := b9.new hD
      refine ⟨f5', D, xs, ys, rfl, rfl, mx.grow _ _ hfA, mx.top, ?_, fun x hx => ⟨_, rfl, out x (xs ++ ys) _ (.inr ((b9.st _ _ mx.grow).st _ _ (Grows.new hx))) (gB.trans (Grows.new hx).gr) (gr_none_back gB ((b9.st _ _ mx.grow).new hx) hx) upd_same ?_ fun u hu => ?_⟩⟩
      · rw [l5, mx.len, n8]; decide
      · rw [List.length_append, l5, mx.len, n8]; decide
      · rcases List.mem_append.mp hu with q | q
        · exact ((allA u q).gr mx.grow.gr).gr (Grows.new hx).gr
        · obtain ⟨j, hj⟩ := List.getElem?_of_mem q
          exact .inl (((mx.rel j u hj).gr (hid_le).gr).le (by decide) (by decide) |>.gr (Grows.new hx).gr)
end
end K05

namespace K05
open PySem PySem.Spec PyProof.Rows L2 SortR LcM RepA
/-! ### what the judged objects are, as data -/
structure OkE (d : PyData) : Prop where
  sh : d.showable = true
  dp : d.depth ≤ 3
  lv : PyData.leavesShort 40 d = true
  wt : d.weight ≤ 6000
theorem oke_dict : OkE (.dict []) := ⟨by decide +kernel, by decide +kernel, by decide +kernel, by decide +kernel⟩
theorem lay_mem : ∀ {ds : List PyData}, PyData.canLayAll0 ds = true → ∀ e ∈ ds, e.canLay0 = true ∧ e.depth ≤ PyData.depthAll ds
  | [], _, _, h => nomatch h
  | d :: ds, h, e, he => by
    simp only [PyData.canLayAll0, Bool.and_eq_true] at h
    have hd : PyData.depthAll (d :: ds) = max d.depth (PyData.depthAll ds) := by simp only [PyData.depthAll]
    rw [hd]
    rcases List.mem_cons.mp he with z | z
    · subst z
      exact ⟨h.1, Nat.le_max_left _ _⟩
    · obtain ⟨a, b⟩ := lay_mem h.2 e z
      exact ⟨a, Nat.le_trans b (Nat.le_max_right _ _)⟩
theorem wt_len : ∀ ds : List PyData, ds.length ≤ PyData.weightAll ds
  | [] => Nat.zero_le _
  | d :: ds => by
    have := wt_len ds
    simp only [PyData.weightAll, List.length_cons]
    omega
theorem okd_fine {d : PyData} (h : OkD 3 6000 d) : Fine d := by
  rintro ds rfl
  have w := h.wt
  have l := h.ly
  have p := h.dp
  simp only [PyData.weight] at w
  simp only [PyData.canLay0] at l
  simp only [PyData.depth] at p
  exact ⟨Nat.le_trans (wt_len ds) w, fun e he => ⟨(lay_mem l e he).1, by have := (lay_mem l e he).2; omega⟩⟩
theorem it_dd {p : Addr} {K : PySem.W.Frag} {H : Hp} {v : V} (h : It p K H v) : ∃ d, Dd K H v d ∧ OkE d ∧ Fine d := by
  rcases h with ⟨d, a, o⟩ | ⟨a, n, rfl, q⟩
  · exact ⟨d, .inl (Dp.grow hid_le a), ⟨o.sh, o.dp, o.lv, o.wt⟩, okd_fine o⟩
  · exact ⟨.dict [], .inr ⟨a, rfl, q, rfl⟩, oke_dict, fun ds e => nomatch e⟩
theorem it_all {p : Addr} {K : PySem.W.Frag} {H : Hp} : ∀ vs : List V, (∀ v ∈ vs, It p K H v) → ∃ ds, DdAll K H vs ds ∧ ds.length = vs.length ∧ ∀ d ∈ ds, OkE d ∧ Fine d
  | [], _ => ⟨[], .nil, rfl, fun _ h => nomatch h⟩
  | v :: vs, h => by
    obtain ⟨ds, a, b, c⟩ := it_all vs fun x m => h x (List.mem_cons_of_mem _ m)
    obtain ⟨d, q, o⟩ := it_dd (h v List.mem_cons_self)
    refine ⟨d :: ds, .cons q a, congrArg (· + 1) b, fun e he => ?_⟩
    rcases List.mem_cons.mp he with z | z
    · rw [z]; exact o
    · exact c e z
theorem DdAll.at {K : PySem.W.Frag} {H : Hp} : ∀ {ds : List PyData} {xs : List V} {i : Nat} {x : V}, DdAll K H xs ds → xs[i]? = some x → ∃ d, d ∈ ds ∧ Dd K H x d
  | [], _, _, _, .nil, h => nomatch h
  | d :: ds, _, i, x, .cons (vs := vs) a b, h => by
    cases i with
    | zero =>
      cases h
      exact ⟨_, List.mem_cons_self, a⟩
    | succ i =>
      have h' : vs[i]? = some x := h
      obtain ⟨e, he, q⟩ := DdAll.at b h'
      exact ⟨e, List.mem_cons_of_mem _ he, q⟩
theorem DdAll.grow {K : PySem.W.Frag} {H H' : Hp} (s : Grows H H') : ∀ {xs : List V} {ds : List PyData}, DdAll K H xs ds → DdAll K H' xs ds
  | _, _, .nil => .nil
  | _, _, .cons a b => .cons (Dd.grow s a) (DdAll.grow s b)
theorem oke_all : ∀ ds : List PyData, (∀ d ∈ ds, OkE d) → PyData.showableAll ds = true ∧ PyData.depthAll ds ≤ 3 ∧ PyData.leavesShortAll 40 ds = true ∧ PyData.weightAll ds ≤ ds.length * 6001
  | [], _ => by simp only [PyData.showableAll, PyData.depthAll, PyData.leavesShortAll, PyData.weightAll]; exact ⟨trivial, Nat.zero_le _, trivial, Nat.zero_le _⟩
  | d :: ds, h => by
    obtain ⟨a1, a3, a4, a5⟩ := oke_all ds fun e m => h e (List.mem_cons_of_mem _ m)
    obtain ⟨b1, b3, b4, b5⟩ := h d List.mem_cons_self
    refine ⟨?_, ?_, ?_, ?_⟩
    · simp only [PyData.showableAll, a1, b1, Bool.and_self]
    · simp only [PyData.depthAll]; omega
    · simp only [PyData.leavesShortAll, a4, b4, Bool.and_self]
    · simp only [PyData.weightAll, List.length_cons]
      omega
theorem oke_text {ds : List PyData} (h : ∀ d ∈ ds, OkE d) (l : ds.length ≤ 60) : PyData.showableAll ds = true ∧ PyData.depthAll ds ≤ 40 ∧ (listText (PyData.shownAll ds)).length ≤ sizeLine := by
  obtain ⟨a, b, c, d⟩ := oke_all ds h
  refine ⟨a, Nat.le_trans b (by decide), ?_⟩
  have q := PyData.shown_le 40 (by decide) (.list ds) (by simp only [PyData.leavesShort, c])
  have e : (PyData.list ds).shown = listText (PyData.shownAll ds) := by simp only [PyData.shown]
  rw [e] at q
  have w : (PyData.list ds).weight = PyData.weightAll ds := by simp only [PyData.weight]
  rw [w] at q
  refine Nat.le_trans q (Nat.le_trans (by omega : _ ≤ 15200000) (by decide))
theorem two_text (b : Bool) : PyData.showableAll [.bool b, .bool b] = true ∧ PyData.depthAll [.bool b, .bool b] ≤ 40 ∧ (listText (PyData.shownAll [.bool b, .bool b])).length ≤ sizeLine := by
  cases b <;> exact ⟨by decide +kernel, by decide +kernel, by decide +kernel⟩
abbrev sJud : Stmt := top 39
def spJud : Sp := fun vs H Q _ => ∃ (p : Addr) (m : Int), vs = [.ref p] ∧ Pch H p m ∧ m < 2 ^ 49 ∧ ∀ H', Pch H' p (m + 200) → Gr p H H' → Q (.bl true) H'
section
variable {P : Program} {w : World} {K : PySem.W.Frag} {mg : Str → Option Value} {base : Heap}
theorem scJud : FnScope ["pouch", "objects_here", "kept", "item", "due"] ["pouch"] (defScope sJud) := ⟨rfl, rfl, rfl, by decide +kernel, rfl, by decide +kernel, by decide +kernel⟩
theorem ok_jud {f fO fI : Addr} {fd dO dI : FuncData} (F : Fun K "_law_judged_right" "_law_judged_right" sJud f fd) (W : LawF K mg) (FO : Fun K "_law_odd_items" "_law_odd_items" sOdd fO dO) (gO : mg "_law_odd_items" = some (.ref fO)) (bO : Binds K dO ["pouch", "items"] []) (FI : Fun K "_law_is_items" "_law_is_items" sIsIt fI dI) (gI : mg "_law_is_items" = some (.ref fI)) (bI : Binds K dI ["item"] []) : FnG P w K mg base CX0 24 f fd ["pouch"] spJud := by
  have TW := W.T
  have GO : FnOk P w K mg base CX0 2 fO dO ["pouch", "items"] (spOdd K) := ok_odd FO W.T.toTxtP W.TD W.FDip W.bDip
  have GI : FnOk P w K mg base CX0 1 fI dI ["item"] (spIsIt K) := ok_isIt FI W.T.toTxtP
  refine okG F scJud (fun vs H Q E h => ?_) (fun cdv A outer s H vs Q E hr noG h => ?_)
  · obtain ⟨p, m, rfl, _⟩ := h
    rfl
  · obtain ⟨p, m, rfl, hP, hm, kq⟩ := h
    refine ⟨_, (pss_cons (ps_set (i := 1) scJud.nd rfl (.inl rfl) (pe_call GO (hr.mono (by decide)) rfl gO FO.kp bO .nil pass0 (pa_cons (pv 0) (pa_cons (pe_call W.items (hr.mono (by decide)) rfl W.gItems W.FItems.kp W.bItems .nil pass0 (pa_cons (pv 0) (pa_cons (pe_op op_add pe_int (pe_call W.dip (hr.mono (by decide)) rfl W.gDip W.FDip.kp W.bDip .nil pass0 (pa_cons (pv 0) (pa_cons pe_int pa_nil)))) pa_nil))) pa_nil))))
      (pss_cons (ps_set (i := 2) scJud.nd rfl (.inl rfl) (pe_callB (call_reprL noG hr.units) (by rfl) TW.repr (by decide +kernel) (pa_cons (pv 1) pa_nil)))
      (pss_cons (ps_for PassesOwn.never rfl (pi_list (pv 1)) (pg_name (i := 3) scJud.nd rfl (.inl rfl))
      (pss_cons (ps_set (i := 4) scJud.nd rfl (.inl rfl) (pe_call GI (hr.mono (by decide)) rfl gI FI.kp bI .nil pass0 (pa_cons (pv 3) pa_nil)))
      (pss_one (ps_if (pt_cmpR op_ne (pe_callB (call_reprL noG hr.units) (by rfl) TW.repr (by decide +kernel) (pa_cons (pe_lst (pa_cons (pe_call W.coming (hr.mono (by decide)) rfl W.Y.gComing W.Y.FComing.kp W.Y.bComing .nil pass0 (pa_cons (pv 3) pa_nil)) (pa_cons (pe_callKw W.coming (hr.mono (by decide)) rfl W.Y.gComing W.Y.FComing.kp W.kbComing pass0 (pk_cons (pv 3) pk_nil)) pa_nil))) pa_nil)) (pe_callB (call_reprL noG hr.units) (by rfl) TW.repr (by decide +kernel) (pa_cons (pe_lst (pa_cons (pv 4) (pa_cons (pv 4) pa_nil))) pa_nil)) (nomark _)) (pss_one (ps_ret pe_bl)) pss_nil))))
      (pss_one (ps_ret (pe_cmpR op_eq (pe_callB (call_reprL noG hr.units) (by rfl) TW.repr (by decide +kernel) (pa_cons (pv 1) pa_nil)) (pv 2) (nomark _))))))), ?_⟩
    refine ⟨_, rfl, _, rfl, _, rfl, p, 20, m, rfl, hP, by omega, by decide, by decide, fun v H1 v0 v1 hP1 but1 => ⟨_, _, rfl, rfl, p, 1 + v, m + 1, rfl, hP1, by omega, by omega, by omega, fun l xs H2 hxl hb hP2 g2 n2 e2 => ⟨p, l, xs, m + 1 + 100, rfl, hP2, by omega, pch_ne hP1 n2, e2, ⟨by omega, ?_⟩, fun o vs H3 hP3 g3 n3 e3 l3 it3 => ?_⟩⟩⟩
    · intro i hi
      obtain ⟨j, hj⟩ := List.getElem?_of_mem hi
      have jl := (List.getElem?_eq_some_iff.mp hj).1
      have := hb j i hj
      omega
    have gg : Gr p H H3 := ((but_gr but1).trans g2).trans g3
    obtain ⟨ds, dd, dl, ok⟩ := it_all vs it3
    obtain ⟨t1, t2, t3⟩ := oke_text (fun d hd => (ok d hd).1) (by rw [dl]; exact l3)
    refine ⟨_, rfl, o, vs, ds, rfl, SqL.of e3, dd, t1, t2, t3, ?_⟩
    refine ⟨_, rfl, o, rfl, ⟨_, SqL.of e3⟩, for_list (K := K) (a := o) (xs := vs) (fun i σ G => ∃ o3 o4, σ = [some (.ref p), some (.ref o), some (.str (PyData.list ds).shown), o3, o4] ∧ Grows H3 G) ⟨none, none, rfl, .refl⟩ (fun i σ G _ ⟨_, _, _, g⟩ => SqL.of (g _ _ e3)) (fun i x σ G hx ⟨o3, o4, e, g⟩ => ?_) fun σ G ⟨o3, o4, e, g⟩ => ?_⟩
    · subst e
      obtain ⟨d, hd, ddx⟩ := DdAll.at dd hx
      obtain ⟨u1, u2, u3⟩ := two_text (isC d)
      refine ⟨_, rfl, x, d, rfl, Dd.grow g ddx, (ok d hd).2, fun G1 g1 => ?_⟩
      refine ⟨_, rfl, x, d, rfl, Dd.grow (g.trans g1) ddx, fun G2 g2 => ⟨_, rfl, x, d, rfl, Dd.grow ((g.trans g1).trans g2) ddx, fun G3 g3 => ⟨(by show 2 ≤ sizeLine; decide), fun q hq => ⟨q, _, [.bool (isC d), .bool (isC d)], rfl, SqL.of upd_same, .of_dp (.cons (.bl _) (.cons (.bl _) .nil)), u1, u2, u3, ?_⟩⟩⟩⟩
      refine ⟨_, rfl, _, rfl, (by show 2 ≤ sizeLine; decide), fun q2 hq2 => ⟨q2, _, [.bool (isC d), .bool (isC d)], rfl, SqL.of upd_same, .of_dp (.cons (.bl _) (.cons (.bl _) .nil)), u1, u2, u3, rfl, _, rfl, ?_⟩⟩
      rw [decide_eq_true rfl]
      exact ⟨_, _, rfl, (((g.trans g1).trans g2).trans g3).trans ((Grows.new hq).trans (Grows.new hq2))⟩
    · subst e
      refine ⟨_, rfl, o, vs, ds, rfl, SqL.of (g _ _ e3), DdAll.grow g dd, t1, t2, t3, _, rfl, rfl, ?_⟩
      rw [decide_eq_true rfl]
      exact kq _ ((hP3.same g).le (by omega)) (gg.trans g.gr)
end
end K05

namespace K05
open PySem PySem.Spec PyProof.Rows L2 SortR LcM RepA
abbrev sLaw : Stmt := top 41
def spLaw (K : PySem.W.Frag) : Sp := fun vs H Q _ => ∃ (a : Addr) (ns : List Int), vs = [.ref a] ∧ SqL K H a (ns.map V.int) ∧ ns.length ≤ 63 ∧ ∀ H', Q (.bl true) H'
theorem mm (k : Int) : ∃ J : Int, 1 ≤ J ∧ J ≤ 4 ∧ (if (if k < 4 then k else 4) > 1 then (if k < 4 then k else 4) else 1) = J := by
  refine ⟨_, ?_, ?_, rfl⟩
  · split <;> omega
  · split <;> split <;> omega
abbrev c1 : List Int := [0, -1, 2]
abbrev c2 : List Int := [0, -1, -2]
abbrev q1 : List (List Int) := [[0, 1], [0, 1, 2, 3], [2, 3]]
abbrev q2 : List (List Int) := [[0, 1], [0, 1, 2], [0, 1, 2, 3]]
theorem gd1 : Good c1 := good_of (k := 3) (by decide) (by decide +kernel)
theorem gd2 : Good c2 := good_of (k := 3) (by decide) (by decide +kernel)
theorem gd0 : Good [] := good_of (k := 0) (by decide) (by decide +kernel)
theorem lots1 : (nestN c1 c1.length).lots = q1 := (lotsS_eq _).trans (by decide +kernel)
theorem lots2 : (nestN c2 c2.length).lots = q2 := (lotsS_eq _).trans (by decide +kernel)
theorem lots0 : (nestN [] 0).lots = [] := (lotsS_eq _).trans (by decide +kernel)
theorem sz2 : Sz q2 := by
  have := gd2.sz
  rw [lots2] at this
  exact this
theorem isp2 : isP q2 = true := by
  have := gd2.isp
  rw [lots2] at this
  exact this
theorem it2 : ∀ j, j < c2.length → itemB q2 (j + 1) (c2.getD j 0) = true := by
  have := gd2.items
  rw [lots2] at this
  exact this
theorem pb1 : pbR c1 = q1 := gd1.pb.trans lots1
theorem pb2 : pbR c2 = q2 := gd2.pb.trans lots2
theorem pb0 : pbR [] = [] := gd0.pb.trans lots0
theorem sz0 : Sz [] := ⟨by decide, fun _ h => nomatch h⟩
theorem isp0 : isP [] = true := by decide +kernel
abbrev dueD : PyData := .list [.list (rowD q1), .list (rowD q2), .list (c2.map .int)]
theorem due_eq : PyData.eqv dueD dueD = true := by decide +kernel
theorem due_shaped : SeqAt.shaped dueD = true := by decide +kernel
theorem nil_eq : PyData.eqv (.list []) (.list []) = true := by decide +kernel
theorem nil_shaped : SeqAt.shaped (.list []) = true := by decide +kernel
section
variable {P : Program} {w : World} {K : PySem.W.Frag} {mg : Str → Option Value} {base : Heap}
theorem scLaw : FnScope ["script", "at", "pouch", "turn", "many", "found", "due"] ["script"] (defScope sLaw) := ⟨rfl, rfl, rfl, by decide +kernel, rfl, by decide +kernel, by decide +kernel⟩
theorem ok_law {f fJ fO fI fF : Addr} {fd dJ dO dI dF : FuncData} (F : Fun K "law" "law" sLaw f fd) (W : LawF K mg) (FJ : Fun K "_law_judged_right" "_law_judged_right" sJud fJ dJ) (gJ : mg "_law_judged_right" = some (.ref fJ)) (bJ : Binds K dJ ["pouch"] []) (FO : Fun K "_law_odd_items" "_law_odd_items" sOdd fO dO) (gO : mg "_law_odd_items" = some (.ref fO)) (bO : Binds K dO ["pouch", "items"] []) (FI : Fun K "_law_is_items" "_law_is_items" sIsIt fI dI) (gI : mg "_law_is_items" = some (.ref fI)) (bI : Binds K dI ["item"] []) (FF : Fun K "_law_few_right" "_law_few_right" sFew fF dF) (gF : mg "_law_few_right" = some (.ref fF)) (bF : Binds K dF ["many"] []) : FnG P w K mg base CX0 25 f fd ["script"] (spLaw K) := by
  have GJ : FnG P w K mg base CX0 24 fJ dJ ["pouch"] spJud := ok_jud FJ W FO gO bO FI gI bI
  have GF : FnG P w K mg base CX0 24 fF dF ["many"] spFew := ok_few FF W
  refine okG F scLaw (fun vs H Q E h => ?_) (fun cdv A outer s H vs Q E hr noG h => ?_)
  · obtain ⟨a, ns, rfl, _⟩ := h
    rfl
  · obtain ⟨a, ns, rfl, hS, hl, kq⟩ := h
    refine ⟨_, (pss_cons (ps_for PassesOwn.never rfl (pi_range1 (by rfl) W.T.range (pa_cons (pe_callB (call_max2 rfl) (by rfl) W.T.max (by decide +kernel) (pa_cons pe_int (pa_cons (pe_callB (call_min2 rfl) (by rfl) W.T.min (by decide +kernel) (pa_cons pe_int (pa_cons (pe_callB call_len_seq (by rfl) W.T.len (by decide +kernel) (pa_cons (pv 0) pa_nil)) pa_nil))) pa_nil))) pa_nil)) (pg_name (i := 1) scLaw.nd rfl (.inl rfl))
      (pss_cons (ps_set (i := 2) scLaw.nd rfl (.inl rfl) (pe_call W.pouch (hr.mono (by decide)) rfl W.gPouch W.FPouch.kp W.bPouch .nil pass0 (pa_cons (pv 0) (pa_cons (pv 1) pa_nil))))
      (pss_one (ps_for PassesOwn.never rfl (pi_range1 (by rfl) W.T.range (pa_cons pe_int pa_nil)) (pg_name (i := 3) scLaw.nd rfl (.inl rfl))
      (pss_one (ps_if (pt_not (pt_val (pe_callG GJ (hr.mono (by decide)) noG rfl gJ FJ.kp bJ .nil pass0 (pa_cons (pv 2) pa_nil)))) (pss_one (ps_ret pe_bl)) pss_nil))))))
      (pss_cons (ps_for PassesOwn.never rfl (pi_range2 (by rfl) W.T.range (pa_cons pe_int (pa_cons pe_int pa_nil))) (pg_name (i := 4) scLaw.nd rfl (.inl rfl))
      (pss_one (ps_if (pt_not (pt_val (pe_callG GF (hr.mono (by decide)) noG rfl gF FF.kp bF .nil pass0 (pa_cons (pv 4) pa_nil)))) (pss_one (ps_ret pe_bl)) pss_nil)))
      (pss_cons (ps_set (i := 5) scLaw.nd rfl (.inl rfl) (pe_lst (pa_cons (pe_call W.pb (hr.mono (by decide)) rfl W.Y.gPB W.Y.FPB.kp W.Y.bPB .nil pass0 (pa_cons (pe_lst (pa_cons pe_int (pa_cons (pe_un un_neg pe_int) (pa_cons pe_int pa_nil)))) pa_nil)) (pa_cons (pe_call W.pb (hr.mono (by decide)) rfl W.Y.gPB W.Y.FPB.kp W.Y.bPB .nil pass0 (pa_cons (pe_lst (pa_cons pe_int (pa_cons (pe_un un_neg pe_int) (pa_cons (pe_un un_neg pe_int) pa_nil)))) pa_nil)) (pa_cons (pe_call W.comOf (hr.mono (by decide)) rfl W.Y.gComOf W.Y.FComOf.kp W.Y.bComOf .nil pass0 (pa_cons (pe_lst (pa_cons (pe_lst (pa_cons pe_int (pa_cons pe_int pa_nil))) (pa_cons (pe_lst (pa_cons pe_int (pa_cons pe_int (pa_cons pe_int pa_nil)))) (pa_cons (pe_lst (pa_cons pe_int (pa_cons pe_int (pa_cons pe_int (pa_cons pe_int pa_nil))))) pa_nil)))) pa_nil)) pa_nil)))))
      (pss_cons (ps_set (i := 6) scLaw.nd rfl (.inl rfl) (pe_lst (pa_cons (pe_lst (pa_cons (pe_lst (pa_cons pe_int (pa_cons pe_int pa_nil))) (pa_cons (pe_lst (pa_cons pe_int (pa_cons pe_int (pa_cons pe_int (pa_cons pe_int pa_nil))))) (pa_cons (pe_lst (pa_cons pe_int (pa_cons pe_int pa_nil))) pa_nil)))) (pa_cons (pe_lst (pa_cons (pe_lst (pa_cons pe_int (pa_cons pe_int pa_nil))) (pa_cons (pe_lst (pa_cons pe_int (pa_cons pe_int (pa_cons pe_int pa_nil)))) (pa_cons (pe_lst (pa_cons pe_int (pa_cons pe_int (pa_cons pe_int (pa_cons pe_int pa_nil))))) pa_nil)))) (pa_cons (pe_lst (pa_cons pe_int (pa_cons (pe_un un_neg pe_int) (pa_cons (pe_un un_neg pe_int) pa_nil)))) pa_nil)))))
      (pss_one (ps_ret (pe_and (pe_cmpR (op_eqD hr.units) (pv 5) (pv 6) (nomark _)) (pe_and (pe_cmpR (op_eqD hr.units) (pe_call W.pb (hr.mono (by decide)) rfl W.Y.gPB W.Y.FPB.kp W.Y.bPB .nil pass0 (pa_cons (pe_lst pa_nil) pa_nil)) (pe_lst pa_nil) (nomark _)) (pe_one (pe_cmpR (op_eqD hr.units) (pe_call W.comOf (hr.mono (by decide)) rfl W.Y.gComOf W.Y.FComOf.kp W.Y.bComOf .nil pass0 (pa_cons (pe_lst pa_nil) pa_nil)) (pe_lst pa_nil) (nomark _))))))))))), ?_⟩
    obtain ⟨J, J1, J4, eJ⟩ := mm ((ns.map V.int).length : Nat)
    refine ⟨_, rfl, a, _, rfl, .inl hS, 4, _, rfl, 1, _, rfl, J, congrArg (fun z => [V.int z]) eJ, by omega, by omega, for_range (fun i σ H' => ∃ o1 o2 o3, σ = [some (.ref a), o1, o2, o3, none, none, none] ∧ Grows H H') ⟨none, none, none, rfl, .refl⟩ (fun i σ H1 hi ⟨o1, o2, o3, e, g1⟩ => ?_) fun σ H1 ⟨o1, o2, o3, e, g1⟩ => ?_⟩
    · subst e
      refine ⟨_, rfl, _, rfl, a, _, ns, rfl, g1.seq hS, by omega, by omega, fun p H2 np g2 hP2 => ?_⟩
      have Hp0 : H p = none := none_back g1 np
      have g2' := g1.trans g2
      refine ⟨2, rfl, by decide, by decide, for_range (fun j σ G => ∃ o, σ = [some (.ref a), some (.int (0 + (i : Nat))), some (.ref p), o, none, none, none] ∧ Grows H G ∧ Pch G p (200 * j)) ⟨_, rfl, g2', hP2.le (by omega)⟩ (fun j σ G hj ⟨o, e, g, hp⟩ => ?_) fun σ G ⟨o, e, g, hp⟩ => ⟨_, _, _, e, g⟩⟩
      subst e
      exact ⟨_, rfl, p, 200 * j, rfl, hp, by omega, fun G' hp' gg => ⟨_, rfl, _, rfl, gr_grows g Hp0 gg .refl, hp'.le (by omega)⟩⟩
    · subst e
      refine ⟨1, 6, rfl, ⟨by decide, by decide, by decide, by decide⟩, for_range (fun _ σ _ => ∃ o4, σ = [some (.ref a), o1, o2, o3, o4, none, none]) ⟨_, rfl⟩ (fun i σ G hi ⟨o4, e⟩ => ?_) fun σ G ⟨o4, e⟩ => ?_⟩
      · subst e
        have hi' : i < 5 := hi
        exact ⟨_, rfl, i, congrArg (fun z => [V.int z]) (Int.add_comm 1 (i : Int)), by omega, fun G' _ => ⟨_, rfl, _, rfl⟩⟩
      subst e
      refine ⟨1, rfl, (by show 3 ≤ sizeLine; decide), fun x1 hx1 => ⟨x1, c1, rfl, SqL.of upd_same, gd1.is, fun p1 cs1 G1 e1 s1 n1 r1 w1 => ?_⟩⟩
      refine ⟨1, rfl, 2, rfl, (by show 3 ≤ sizeLine; decide), fun x2 hx2 => ⟨x2, c2, rfl, SqL.of upd_same, gd2.is, fun p2 cs2 G2 e2 s2 n2 r2 w2 => ?_⟩⟩
      have g12 : Grows G1 G2 := (Grows.new hx2).trans s2
      refine ⟨(by show 2 ≤ sizeLine; decide), fun u1 hu1 => ⟨(by show 3 ≤ sizeLine; decide), fun u2 hu2 => ⟨(by show 4 ≤ sizeLine; decide), fun u3 hu3 => ⟨(by show 3 ≤ sizeLine; decide), fun u4 hu4 => ?_⟩⟩⟩⟩
      have k3 : Grows _ (upd (upd (upd (upd G2 u1 (.lst [V.int 0, V.int 1])) u2 (.lst [V.int 0, V.int 1, V.int 2])) u3 (.lst [V.int 0, V.int 1, V.int 2, V.int 3])) u4 (.lst [V.ref u1, V.ref u2, V.ref u3])) := Grows.new hu4
      have k2 := (Grows.new (o := .lst [V.int 0, V.int 1, V.int 2, V.int 3]) hu3).trans k3
      have k1 := (Grows.new (o := .lst [V.int 0, V.int 1, V.int 2]) hu2).trans k2
      have g2u : Grows G2 _ := (Grows.new (o := .lst [V.int 0, V.int 1]) hu1).trans k1
      have ru : Rl (upd (upd (upd (upd G2 u1 (.lst [V.int 0, V.int 1])) u2 (.lst [V.int 0, V.int 1, V.int 2])) u3 (.lst [V.int 0, V.int 1, V.int 2, V.int 3])) u4 (.lst [V.ref u1, V.ref u2, V.ref u3])) u4 [(u1, [0, 1]), (u2, [0, 1, 2]), (u3, [0, 1, 2, 3])] := by
        refine ⟨upd_same, fun c hc => ?_⟩
        simp only [List.mem_cons, List.not_mem_nil, or_false] at hc
        rcases hc with rfl | rfl | rfl
        · exact k1 _ _ upd_same
        · exact k2 _ _ upd_same
        · exact k3 _ _ upd_same
      refine ⟨u4, [(u1, [0, 1]), (u2, [0, 1, 2]), (u3, [0, 1, 2, 3])], c2, rfl, ru.rw, sz2, isp2, rfl, it2, fun p4 G4 s4 n4 e4 => ⟨(by show 3 ≤ sizeLine; decide), fun fo hfo => ?_⟩⟩
      have g24 := g2u.trans s4
      have gfo : Grows G4 (upd G4 fo (.lst [V.ref p1, V.ref p2, V.ref p4])) := Grows.new hfo
      have a1 := r1.keep (g12.trans (g24.trans gfo))
      have a2 := r2.keep (g24.trans gfo)
      have a4 := gfo _ _ e4
      replace e1 : cs1.map (·.2) = q1 := e1.trans pb1
      replace e2 : cs2.map (·.2) = q2 := e2.trans pb2
      refine ⟨(by show 2 ≤ sizeLine; decide), fun z1 j1 => ⟨(by show 4 ≤ sizeLine; decide), fun z2 j2 => ⟨(by show 2 ≤ sizeLine; decide), fun z3 j3 => ⟨(by show 3 ≤ sizeLine; decide), fun z4 j4 => ?_⟩⟩⟩⟩
      refine ⟨(by show 2 ≤ sizeLine; decide), fun z5 j5 => ⟨(by show 3 ≤ sizeLine; decide), fun z6 j6 => ⟨(by show 4 ≤ sizeLine; decide), fun z7 j7 => ⟨(by show 3 ≤ sizeLine; decide), fun z8 j8 => ?_⟩⟩⟩⟩
      refine ⟨1, rfl, 2, rfl, (by show 3 ≤ sizeLine; decide), fun z9 j9 => ⟨(by show 3 ≤ sizeLine; decide), fun z0 j0 => ⟨_, rfl, _, rfl, dueD, dueD, ?_, ?_, due_shaped, due_shaped, ?_⟩⟩⟩
      · have g := ((((((((((Grows.new (o := .lst [V.int 0, V.int 1]) j1).trans (Grows.new (o := .lst [V.int 0, V.int 1, V.int 2, V.int 3]) j2)).trans (Grows.new (o := .lst [V.int 2, V.int 3]) j3)).trans (Grows.new (o := .lst [V.ref z1, V.ref z2, V.ref z3]) j4)).trans (Grows.new (o := .lst [V.int 0, V.int 1]) j5)).trans (Grows.new (o := .lst [V.int 0, V.int 1, V.int 2]) j6)).trans (Grows.new (o := .lst [V.int 0, V.int 1, V.int 2, V.int 3]) j7)).trans (Grows.new (o := .lst [V.ref z5, V.ref z6, V.ref z7]) j8)).trans (Grows.new (o := .lst [V.int 0, V.int (-1), V.int (-2)]) j9)).trans (Grows.new (o := .lst [V.ref z4, V.ref z8, V.ref z9]) j0))
        refine .lst (SqL.of (g _ _ upd_same)) (.cons ?_ (.cons ?_ (.cons ?_ .nil)))
        · exact e1 ▸ (a1.keep g).rw.dp
        · exact e2 ▸ (a2.keep g).rw.dp
        · exact .lst (SqL.of (g _ _ a4)) (rows_dp c2)
      · have h9 := Grows.new (o := .lst [V.ref z4, V.ref z8, V.ref z9]) j0
        have h8 := (Grows.new (o := .lst [V.int 0, V.int (-1), V.int (-2)]) j9).trans h9
        have h7 := (Grows.new (o := .lst [V.ref z5, V.ref z6, V.ref z7]) j8).trans h8
        have h6 := (Grows.new (o := .lst [V.int 0, V.int 1, V.int 2, V.int 3]) j7).trans h7
        have h5 := (Grows.new (o := .lst [V.int 0, V.int 1, V.int 2]) j6).trans h6
        have h4 := (Grows.new (o := .lst [V.int 0, V.int 1]) j5).trans h5
        have h3 := (Grows.new (o := .lst [V.ref z1, V.ref z2, V.ref z3]) j4).trans h4
        have h2 := (Grows.new (o := .lst [V.int 2, V.int 3]) j3).trans h3
        have h1 := (Grows.new (o := .lst [V.int 0, V.int 1, V.int 2, V.int 3]) j2).trans h2
        have b4 : Rl _ z4 [(z1, [0, 1]), (z2, [0, 1, 2, 3]), (z3, [2, 3])] := ⟨h4 _ _ upd_same, fun c hc => by
          simp only [List.mem_cons, List.not_mem_nil, or_false] at hc
          rcases hc with rfl | rfl | rfl
          · exact h1 _ _ upd_same
          · exact h2 _ _ upd_same
          · exact h3 _ _ upd_same⟩
        have b8 : Rl _ z8 [(z5, [0, 1]), (z6, [0, 1, 2]), (z7, [0, 1, 2, 3])] := ⟨h8 _ _ upd_same, fun c hc => by
          simp only [List.mem_cons, List.not_mem_nil, or_false] at hc
          rcases hc with rfl | rfl | rfl
          · exact h5 _ _ upd_same
          · exact h6 _ _ upd_same
          · exact h7 _ _ upd_same⟩
        exact .lst (SqL.of upd_same) (.cons b4.rw.dp (.cons b8.rw.dp (.cons (.lst (SqL.of (h9 _ _ upd_same)) (rows_dp c2)) .nil)))
      · refine ⟨_, rfl, ?_⟩
        rw [due_eq]
        refine ⟨(by show 0 ≤ sizeLine; decide), fun y hy => ⟨y, [], rfl, SqL.of upd_same, gd0.is, fun p5 cs5 G5 e5 s5 n5 r5 w5 => ⟨(by show 0 ≤ sizeLine; decide), fun y2 hy2 => ⟨.list [], .list [], ?_, .lst (SqL.of upd_same) .nil, nil_shaped, nil_shaped, _, rfl, ?_⟩⟩⟩⟩
        · have e5' : cs5.map (·.2) = [] := e5.trans pb0
          have := (r5.keep (Grows.new (o := .lst []) hy2)).rw (K := K) |>.dp
          rw [e5'] at this
          exact this
        · rw [nil_eq]
          refine ⟨(by show 0 ≤ sizeLine; decide), fun y3 hy3 => ⟨y3, [], [], rfl, (Rl.mk (cs := []) upd_same fun _ h => nomatch h).rw, sz0, isp0, rfl, (fun j hj => absurd hj (Nat.not_lt_zero j)), fun p6 G6 s6 n6 e6 => ⟨(by show 0 ≤ sizeLine; decide), fun y4 hy4 => ⟨.list [], .list [], .lst (SqL.of (Grows.new hy4 _ _ e6)) .nil, .lst (SqL.of upd_same) .nil, nil_shaped, nil_shaped, ?_⟩⟩⟩⟩
          rw [nil_eq]
          exact kq _
end
end K05

namespace K05
open PySem PySem.Spec PyProof.Rows L2 SortR LcM RepA
theorem kb_one {K : PySem.W.Frag} {fd : FuncData} {x : Str} (h1 : ∀ (s : Shared) (a : Value), BindsTo s fd ⟨[], [(x, a)]⟩ [(x, a)]) (h0 : ∀ (s : Shared) (a : Value), BindsTo s fd ⟨[a], []⟩ [(x, a)]) :
    KBinds K fd [x] [x] (fun us ws => us ++ ws) (fun vs zs => vs ++ zs) := by
  refine ⟨fun s us ws _ h => ?_, fun r r2 => r.append r2⟩
  have e : us.length + ws.length = 1 := by simpa using h
  match us, ws, e with
  | [], [_], _ => exact h1 _ _
  | [_], [], _ => exact h0 _ _
  | [], [], e => simp at e
  | [], _ :: _ :: _, e => simp only [List.length_cons, List.length_nil] at e; omega
  | [_], _ :: _, e => simp only [List.length_cons, List.length_nil] at e; omega
  | _ :: _ :: _, _, e => simp only [List.length_cons, List.length_nil] at e; omega
theorem all_mk {l : PySem.W.OpenLaw} {w : World} {K : PySem.W.Frag} {h : Heap} {mg : Str → Option Value} {fa fNum fPer fAsc fPL fGr fMask fCross fAny fIs fPs fCut fComing fBoth fItem fComOf fGrown fPlace fCome fPB fPouch fDip fItems fFolk fPut fNest fLots fRows fJ fO fI fF fL : Addr} (X : K.In h) (G : h.Ns mainGlobals mg) (hfa : mg "law" = some (.ref fa))
    {odNum anNum odPer anPer odAsc anAsc odPL anPL odGr anGr odMask anMask odCross anCross odAny anAny odIs anIs odPs anPs odCut anCut odComing anComing odBoth anBoth odItem anItem odComOf anComOf odGrown anGrown odPlace anPlace odCome anCome odPB anPB odPouch anPouch odDip anDip odItems anItems odFolk anFolk odPut anPut odNest anNest odLots anLots odRows anRows odJ anJ odO anO odI anI odF anF odL anL : Option Addr} {slNum slPer slAsc slPL slGr slMask slCross slAny slIs slPs slCut slComing slBoth slItem slComOf slGrown slPlace slCome slPB slPouch slDip slItems slFolk slPut slNest slLots slRows slJ slO slI slF slL : Array (Option Value)} {ocNum kVNum dcNum pmNum cvNum ctNum ocPer kVPer dcPer pmPer cvPer ctPer ocAsc kVAsc dcAsc pmAsc cvAsc ctAsc ocPL kVPL dcPL pmPL cvPL ctPL ocGr kVGr dcGr pmGr cvGr ctGr ocMask kVMask dcMask pmMask cvMask ctMask ocCross kVCross dcCross pmCross cvCross ctCross ocAny kVAny dcAny pmAny cvAny ctAny ocIs kVIs dcIs pmIs cvIs ctIs ocPs kVPs dcPs pmPs cvPs ctPs ocCut kVCut dcCut pmCut cvCut ctCut ocComing kVComing dcComing pmComing cvComing ctComing ocBoth kVBoth dcBoth pmBoth cvBoth ctBoth ocItem kVItem dcItem pmItem cvItem ctItem ocComOf kVComOf dcComOf pmComOf cvComOf ctComOf ocGrown kVGrown dcGrown pmGrown cvGrown ctGrown ocPlace kVPlace dcPlace pmPlace cvPlace ctPlace ocCome kVCome dcCome pmCome cvCome ctCome ocPB kVPB dcPB pmPB cvPB ctPB ocPouch kVPouch dcPouch pmPouch cvPouch ctPouch ocDip kVDip dcDip pmDip cvDip ctDip ocItems kVItems dcItems pmItems cvItems ctItems ocFolk kVFolk dcFolk pmFolk cvFolk ctFolk ocPut kVPut dcPut pmPut cvPut ctPut ocNest kVNest dcNest pmNest cvNest ctNest ocLots kVLots dcLots pmLots cvLots ctLots ocRows kVRows dcRows pmRows cvRows ctRows ocJ kVJ dcJ pmJ cvJ ctJ ocO kVO dcO pmO cvO ctO ocI kVI dcI pmI cvI ctI ocF kVF dcF pmF cvF ctF ocL kVL dcL pmL cvL ctL : Value} {mtok : Tok}
    (aNum : PySem.W.nsIn K mainGlobals "is_number" = some (some (.ref fNum))) (lNum : K.lookup fNum = some ⟨ocNum, odNum, .func (PySem.W.fnOf "is_number" "is_number" (defArgs sNumber) (defBody sNumber) (defScope sNumber) .none kVNum dcNum pmNum anNum cvNum ctNum), slNum⟩) (xNum : PySem.W.codeIn K cvNum "is_number" = true) (kNum : PySem.W.keepIn K (.ref fNum) = true)
    (aPer : PySem.W.nsIn K mainGlobals "is_person" = some (some (.ref fPer))) (lPer : K.lookup fPer = some ⟨ocPer, odPer, .func (PySem.W.fnOf "is_person" "is_person" (defArgs sPerson) (defBody sPerson) (defScope sPerson) .none kVPer dcPer pmPer anPer cvPer ctPer), slPer⟩) (xPer : PySem.W.codeIn K cvPer "is_person" = true) (kPer : PySem.W.keepIn K (.ref fPer) = true)
    (aAsc : PySem.W.nsIn K mainGlobals "is_ascending" = some (some (.ref fAsc))) (lAsc : K.lookup fAsc = some ⟨ocAsc, odAsc, .func (PySem.W.fnOf "is_ascending" "is_ascending" (defArgs sAsc) (defBody sAsc) (defScope sAsc) .none kVAsc dcAsc pmAsc anAsc cvAsc ctAsc), slAsc⟩) (xAsc : PySem.W.codeIn K cvAsc "is_ascending" = true) (kAsc : PySem.W.keepIn K (.ref fAsc) = true)
    (aPL : PySem.W.nsIn K mainGlobals "is_person_list" = some (some (.ref fPL))) (lPL : K.lookup fPL = some ⟨ocPL, odPL, .func (PySem.W.fnOf "is_person_list" "is_person_list" (defArgs sPList) (defBody sPList) (defScope sPList) .none kVPL dcPL pmPL anPL cvPL ctPL), slPL⟩) (xPL : PySem.W.codeIn K cvPL "is_person_list" = true) (kPL : PySem.W.keepIn K (.ref fPL) = true)
    (aGr : PySem.W.nsIn K mainGlobals "is_group" = some (some (.ref fGr))) (lGr : K.lookup fGr = some ⟨ocGr, odGr, .func (PySem.W.fnOf "is_group" "is_group" (defArgs sGroup) (defBody sGroup) (defScope sGroup) .none kVGr dcGr pmGr anGr cvGr ctGr), slGr⟩) (xGr : PySem.W.codeIn K cvGr "is_group" = true) (kGr : PySem.W.keepIn K (.ref fGr) = true)
    (aMask : PySem.W.nsIn K mainGlobals "mask_of" = some (some (.ref fMask))) (lMask : K.lookup fMask = some ⟨ocMask, odMask, .func (PySem.W.fnOf "mask_of" "mask_of" (defArgs sMask) (defBody sMask) (defScope sMask) .none kVMask dcMask pmMask anMask cvMask ctMask), slMask⟩) (xMask : PySem.W.codeIn K cvMask "mask_of" = true) (kMask : PySem.W.keepIn K (.ref fMask) = true)
    (aCross : PySem.W.nsIn K mainGlobals "masks_cross" = some (some (.ref fCross))) (lCross : K.lookup fCross = some ⟨ocCross, odCross, .func (PySem.W.fnOf "masks_cross" "masks_cross" (defArgs sCross) (defBody sCross) (defScope sCross) .none kVCross dcCross pmCross anCross cvCross ctCross), slCross⟩) (xCross : PySem.W.codeIn K cvCross "masks_cross" = true) (kCross : PySem.W.keepIn K (.ref fCross) = true)
    (aAny : PySem.W.nsIn K mainGlobals "any_cross" = some (some (.ref fAny))) (lAny : K.lookup fAny = some ⟨ocAny, odAny, .func (PySem.W.fnOf "any_cross" "any_cross" (defArgs sAny) (defBody sAny) (defScope sAny) .none kVAny dcAny pmAny anAny cvAny ctAny), slAny⟩) (xAny : PySem.W.codeIn K cvAny "any_cross" = true) (kAny : PySem.W.keepIn K (.ref fAny) = true)
    (aIs : PySem.W.nsIn K mainGlobals "is_parting" = some (some (.ref fIs))) (lIs : K.lookup fIs = some ⟨ocIs, odIs, .func (PySem.W.fnOf "is_parting" "is_parting" (defArgs sParting) (defBody sParting) (defScope sParting) .none kVIs dcIs pmIs anIs cvIs ctIs), slIs⟩) (xIs : PySem.W.codeIn K cvIs "is_parting" = true) (kIs : PySem.W.keepIn K (.ref fIs) = true)
    (aPs : PySem.W.nsIn K mainGlobals "persons_of" = some (some (.ref fPs))) (lPs : K.lookup fPs = some ⟨ocPs, odPs, .func (PySem.W.fnOf "persons_of" "persons_of" (defArgs sPersons) (defBody sPersons) (defScope sPersons) .none kVPs dcPs pmPs anPs cvPs ctPs), slPs⟩) (xPs : PySem.W.codeIn K cvPs "persons_of" = true) (kPs : PySem.W.keepIn K (.ref fPs) = true)
    (aCut : PySem.W.nsIn K mainGlobals "cut" = some (some (.ref fCut))) (lCut : K.lookup fCut = some ⟨ocCut, odCut, .func (PySem.W.fnOf "cut" "cut" (defArgs sCut) (defBody sCut) (defScope sCut) .none kVCut dcCut pmCut anCut cvCut ctCut), slCut⟩) (xCut : PySem.W.codeIn K cvCut "cut" = true) (kCut : PySem.W.keepIn K (.ref fCut) = true)
    (aComing : PySem.W.nsIn K mainGlobals "is_coming" = some (some (.ref fComing))) (lComing : K.lookup fComing = some ⟨ocComing, odComing, .func (PySem.W.fnOf "is_coming" "is_coming" (defArgs sComing) (defBody sComing) (defScope sComing) .none kVComing dcComing pmComing anComing cvComing ctComing), slComing⟩) (xComing : PySem.W.codeIn K cvComing "is_coming" = true) (kComing : PySem.W.keepIn K (.ref fComing) = true)
    (aBoth : PySem.W.nsIn K mainGlobals "both_parts" = some (some (.ref fBoth))) (lBoth : K.lookup fBoth = some ⟨ocBoth, odBoth, .func (PySem.W.fnOf "both_parts" "both_parts" (defArgs sBoth) (defBody sBoth) (defScope sBoth) .none kVBoth dcBoth pmBoth anBoth cvBoth ctBoth), slBoth⟩) (xBoth : PySem.W.codeIn K cvBoth "both_parts" = true) (kBoth : PySem.W.keepIn K (.ref fBoth) = true)
    (aItem : PySem.W.nsIn K mainGlobals "item_of" = some (some (.ref fItem))) (lItem : K.lookup fItem = some ⟨ocItem, odItem, .func (PySem.W.fnOf "item_of" "item_of" (defArgs sItem) (defBody sItem) (defScope sItem) .none kVItem dcItem pmItem anItem cvItem ctItem), slItem⟩) (xItem : PySem.W.codeIn K cvItem "item_of" = true) (kItem : PySem.W.keepIn K (.ref fItem) = true)
    (aComOf : PySem.W.nsIn K mainGlobals "coming_of" = some (some (.ref fComOf))) (lComOf : K.lookup fComOf = some ⟨ocComOf, odComOf, .func (PySem.W.fnOf "coming_of" "coming_of" (defArgs sComOf) (defBody sComOf) (defScope sComOf) .none kVComOf dcComOf pmComOf anComOf cvComOf ctComOf), slComOf⟩) (xComOf : PySem.W.codeIn K cvComOf "coming_of" = true) (kComOf : PySem.W.keepIn K (.ref fComOf) = true)
    (aGrown : PySem.W.nsIn K mainGlobals "grown" = some (some (.ref fGrown))) (lGrown : K.lookup fGrown = some ⟨ocGrown, odGrown, .func (PySem.W.fnOf "grown" "grown" (defArgs sGrown) (defBody sGrown) (defScope sGrown) .none kVGrown dcGrown pmGrown anGrown cvGrown ctGrown), slGrown⟩) (xGrown : PySem.W.codeIn K cvGrown "grown" = true) (kGrown : PySem.W.keepIn K (.ref fGrown) = true)
    (aPlace : PySem.W.nsIn K mainGlobals "place_of" = some (some (.ref fPlace))) (lPlace : K.lookup fPlace = some ⟨ocPlace, odPlace, .func (PySem.W.fnOf "place_of" "place_of" (defArgs sPlace) (defBody sPlace) (defScope sPlace) .none kVPlace dcPlace pmPlace anPlace cvPlace ctPlace), slPlace⟩) (xPlace : PySem.W.codeIn K cvPlace "place_of" = true) (kPlace : PySem.W.keepIn K (.ref fPlace) = true)
    (aCome : PySem.W.nsIn K mainGlobals "come_into" = some (some (.ref fCome))) (lCome : K.lookup fCome = some ⟨ocCome, odCome, .func (PySem.W.fnOf "come_into" "come_into" (defArgs sCome) (defBody sCome) (defScope sCome) .none kVCome dcCome pmCome anCome cvCome ctCome), slCome⟩) (xCome : PySem.W.codeIn K cvCome "come_into" = true) (kCome : PySem.W.keepIn K (.ref fCome) = true)
    (aPB : PySem.W.nsIn K mainGlobals "parting_by" = some (some (.ref fPB))) (lPB : K.lookup fPB = some ⟨ocPB, odPB, .func (PySem.W.fnOf "parting_by" "parting_by" (defArgs sPB) (defBody sPB) (defScope sPB) .none kVPB dcPB pmPB anPB cvPB ctPB), slPB⟩) (xPB : PySem.W.codeIn K cvPB "parting_by" = true) (kPB : PySem.W.keepIn K (.ref fPB) = true)
    (aPouch : PySem.W.nsIn K mainGlobals "_law_pouch" = some (some (.ref fPouch))) (lPouch : K.lookup fPouch = some ⟨ocPouch, odPouch, .func (PySem.W.fnOf "_law_pouch" "_law_pouch" (defArgs sPouch) (defBody sPouch) (defScope sPouch) .none kVPouch dcPouch pmPouch anPouch cvPouch ctPouch), slPouch⟩) (xPouch : PySem.W.codeIn K cvPouch "_law_pouch" = true) (kPouch : PySem.W.keepIn K (.ref fPouch) = true)
    (aDip : PySem.W.nsIn K mainGlobals "_law_dip" = some (some (.ref fDip))) (lDip : K.lookup fDip = some ⟨ocDip, odDip, .func (PySem.W.fnOf "_law_dip" "_law_dip" (defArgs sDip) (defBody sDip) (defScope sDip) .none kVDip dcDip pmDip anDip cvDip ctDip), slDip⟩) (xDip : PySem.W.codeIn K cvDip "_law_dip" = true) (kDip : PySem.W.keepIn K (.ref fDip) = true)
    (aItems : PySem.W.nsIn K mainGlobals "_law_items" = some (some (.ref fItems))) (lItems : K.lookup fItems = some ⟨ocItems, odItems, .func (PySem.W.fnOf "_law_items" "_law_items" (defArgs sItems) (defBody sItems) (defScope sItems) .none kVItems dcItems pmItems anItems cvItems ctItems), slItems⟩) (xItems : PySem.W.codeIn K cvItems "_law_items" = true) (kItems : PySem.W.keepIn K (.ref fItems) = true)
    (aFolk : PySem.W.nsIn K mainGlobals "_law_folk" = some (some (.ref fFolk))) (lFolk : K.lookup fFolk = some ⟨ocFolk, odFolk, .func (PySem.W.fnOf "_law_folk" "_law_folk" (defArgs sFolk) (defBody sFolk) (defScope sFolk) .none kVFolk dcFolk pmFolk anFolk cvFolk ctFolk), slFolk⟩) (xFolk : PySem.W.codeIn K cvFolk "_law_folk" = true) (kFolk : PySem.W.keepIn K (.ref fFolk) = true)
    (aPut : PySem.W.nsIn K mainGlobals "_law_put" = some (some (.ref fPut))) (lPut : K.lookup fPut = some ⟨ocPut, odPut, .func (PySem.W.fnOf "_law_put" "_law_put" (defArgs sPut) (defBody sPut) (defScope sPut) .none kVPut dcPut pmPut anPut cvPut ctPut), slPut⟩) (xPut : PySem.W.codeIn K cvPut "_law_put" = true) (kPut : PySem.W.keepIn K (.ref fPut) = true)
    (aNest : PySem.W.nsIn K mainGlobals "_law_nest" = some (some (.ref fNest))) (lNest : K.lookup fNest = some ⟨ocNest, odNest, .func (PySem.W.fnOf "_law_nest" "_law_nest" (defArgs sNest) (defBody sNest) (defScope sNest) .none kVNest dcNest pmNest anNest cvNest ctNest), slNest⟩) (xNest : PySem.W.codeIn K cvNest "_law_nest" = true) (kNest : PySem.W.keepIn K (.ref fNest) = true)
    (aLots : PySem.W.nsIn K mainGlobals "_law_lots" = some (some (.ref fLots))) (lLots : K.lookup fLots = some ⟨ocLots, odLots, .func (PySem.W.fnOf "_law_lots" "_law_lots" (defArgs sLots) (defBody sLots) (defScope sLots) .none kVLots dcLots pmLots anLots cvLots ctLots), slLots⟩) (xLots : PySem.W.codeIn K cvLots "_law_lots" = true) (kLots : PySem.W.keepIn K (.ref fLots) = true)
    (aRows : PySem.W.nsIn K mainGlobals "_law_rows" = some (some (.ref fRows))) (lRows : K.lookup fRows = some ⟨ocRows, odRows, .func (PySem.W.fnOf "_law_rows" "_law_rows" (defArgs sRows) (defBody sRows) (defScope sRows) .none kVRows dcRows pmRows anRows cvRows ctRows), slRows⟩) (xRows : PySem.W.codeIn K cvRows "_law_rows" = true) (kRows : PySem.W.keepIn K (.ref fRows) = true)
    (aJ : PySem.W.nsIn K mainGlobals "_law_judged_right" = some (some (.ref fJ))) (lJ : K.lookup fJ = some ⟨ocJ, odJ, .func (PySem.W.fnOf "_law_judged_right" "_law_judged_right" (defArgs sJud) (defBody sJud) (defScope sJud) .none kVJ dcJ pmJ anJ cvJ ctJ), slJ⟩) (xJ : PySem.W.codeIn K cvJ "_law_judged_right" = true) (kJ : PySem.W.keepIn K (.ref fJ) = true)
    (aO : PySem.W.nsIn K mainGlobals "_law_odd_items" = some (some (.ref fO))) (lO : K.lookup fO = some ⟨ocO, odO, .func (PySem.W.fnOf "_law_odd_items" "_law_odd_items" (defArgs sOdd) (defBody sOdd) (defScope sOdd) .none kVO dcO pmO anO cvO ctO), slO⟩) (xO : PySem.W.codeIn K cvO "_law_odd_items" = true) (kO : PySem.W.keepIn K (.ref fO) = true)
    (aI : PySem.W.nsIn K mainGlobals "_law_is_items" = some (some (.ref fI))) (lI : K.lookup fI = some ⟨ocI, odI, .func (PySem.W.fnOf "_law_is_items" "_law_is_items" (defArgs sIsIt) (defBody sIsIt) (defScope sIsIt) .none kVI dcI pmI anI cvI ctI), slI⟩) (xI : PySem.W.codeIn K cvI "_law_is_items" = true) (kI : PySem.W.keepIn K (.ref fI) = true)
    (aF : PySem.W.nsIn K mainGlobals "_law_few_right" = some (some (.ref fF))) (lF : K.lookup fF = some ⟨ocF, odF, .func (PySem.W.fnOf "_law_few_right" "_law_few_right" (defArgs sFew) (defBody sFew) (defScope sFew) .none kVF dcF pmF anF cvF ctF), slF⟩) (xF : PySem.W.codeIn K cvF "_law_few_right" = true) (kF : PySem.W.keepIn K (.ref fF) = true)
    (aL : PySem.W.nsIn K mainGlobals "law" = some (some (.ref fL))) (lL : K.lookup fL = some ⟨ocL, odL, .func (PySem.W.fnOf "law" "law" (defArgs sLaw) (defBody sLaw) (defScope sLaw) .none kVL dcL pmL anL cvL ctL), slL⟩) (xL : PySem.W.codeIn K cvL "law" = true) (kL : PySem.W.keepIn K (.ref fL) = true)
    (y_isinstance : PySem.W.nsIn K mainGlobals "isinstance" = some none)
    (y_int : PySem.W.nsIn K mainGlobals "int" = some none)
    (y_bool : PySem.W.nsIn K mainGlobals "bool" = some none)
    (y_list : PySem.W.nsIn K mainGlobals "list" = some none)
    (y_len : PySem.W.nsIn K mainGlobals "len" = some none)
    (y_all : PySem.W.nsIn K mainGlobals "all" = some none)
    (y_any : PySem.W.nsIn K mainGlobals "any" = some none)
    (y_sum : PySem.W.nsIn K mainGlobals "sum" = some none)
    (y_zip : PySem.W.nsIn K mainGlobals "zip" = some none)
    (y_sorted : PySem.W.nsIn K mainGlobals "sorted" = some none)
    (y_tuple : PySem.W.nsIn K mainGlobals "tuple" = some none)
    (y_range : PySem.W.nsIn K mainGlobals "range" = some none)
    (y_enumerate : PySem.W.nsIn K mainGlobals "enumerate" = some none)
    (y_abs : PySem.W.nsIn K mainGlobals "abs" = some none)
    (y_max : PySem.W.nsIn K mainGlobals "max" = some none)
    (y_min : PySem.W.nsIn K mainGlobals "min" = some none)
    (y_repr : PySem.W.nsIn K mainGlobals "repr" = some none)
    (zComb : PySem.W.nsIn K mainGlobals "combinations" = some (some (.type "itertools.combinations"))) (zMost : PySem.W.nsIn K mainGlobals "MOST_PERSONS" = some (some (.int 20 mtok))) :
    ∃ fd : FuncData, (∀ (s : Shared) (v : Value), BindsTo s fd ⟨[v], []⟩ [("script", v)]) ∧ ∀ base : Heap, K.In base → base.Ns mainGlobals mg → FnG l.prog w K mg base CX0 25 fa fd ["script"] (spLaw K) := by
  have e := hfa.symm.trans (PySem.W.mg_of X G aL)
  cases e
  have FNum := fun_mk (st := sNumber) lNum xNum kNum
  have bNum := FNum.binds (ps := ["thing"]) fun _ _ _ _ _ _ us hl => match us, hl with | [_], _ => rfl
  have FPer := fun_mk (st := sPerson) lPer xPer kPer
  have bPer := FPer.binds (ps := ["thing", "persons"]) fun _ _ _ _ _ _ us hl => match us, hl with | [_, _], _ => rfl
  have FAsc := fun_mk (st := sAsc) lAsc xAsc kAsc
  have bAsc := FAsc.binds (ps := ["items"]) fun _ _ _ _ _ _ us hl => match us, hl with | [_], _ => rfl
  have FPL := fun_mk (st := sPList) lPL xPL kPL
  have bPL := FPL.binds (ps := ["thing", "persons"]) fun _ _ _ _ _ _ us hl => match us, hl with | [_, _], _ => rfl
  have FGr := fun_mk (st := sGroup) lGr xGr kGr
  have bGr := FGr.binds (ps := ["thing", "persons"]) fun _ _ _ _ _ _ us hl => match us, hl with | [_, _], _ => rfl
  have FMask := fun_mk (st := sMask) lMask xMask kMask
  have bMask := FMask.binds (ps := ["group"]) fun _ _ _ _ _ _ us hl => match us, hl with | [_], _ => rfl
  have FCross := fun_mk (st := sCross) lCross xCross kCross
  have bCross := FCross.binds (ps := ["one", "other"]) fun _ _ _ _ _ _ us hl => match us, hl with | [_, _], _ => rfl
  have FAny := fun_mk (st := sAny) lAny xAny kAny
  have bAny := FAny.binds (ps := ["groups"]) fun _ _ _ _ _ _ us hl => match us, hl with | [_], _ => rfl
  have FIs := fun_mk (st := sParting) lIs xIs kIs
  have bIs := FIs.binds (ps := ["thing"]) fun _ _ _ _ _ _ us hl => match us, hl with | [_], _ => rfl
  have FPs := fun_mk (st := sPersons) lPs xPs kPs
  have bPs := FPs.binds (ps := ["parting"]) fun _ _ _ _ _ _ us hl => match us, hl with | [_], _ => rfl
  have FCut := fun_mk (st := sCut) lCut xCut kCut
  have bCut := FCut.binds (ps := ["parting", "some"]) fun _ _ _ _ _ _ us hl => match us, hl with | [_, _], _ => rfl
  have FComing := fun_mk (st := sComing) lComing xComing kComing
  have bComing := FComing.binds (ps := ["thing"]) fun _ _ _ _ _ _ us hl => match us, hl with | [_], _ => rfl
  have FBoth := fun_mk (st := sBoth) lBoth xBoth kBoth
  have bBoth := FBoth.binds (ps := ["parting", "group"]) fun _ _ _ _ _ _ us hl => match us, hl with | [_, _], _ => rfl
  have FItem := fun_mk (st := sItem) lItem xItem kItem
  have bItem := FItem.binds (ps := ["parting", "person"]) fun _ _ _ _ _ _ us hl => match us, hl with | [_, _], _ => rfl
  have FComOf := fun_mk (st := sComOf) lComOf xComOf kComOf
  have bComOf := FComOf.binds (ps := ["parting"]) fun _ _ _ _ _ _ us hl => match us, hl with | [_], _ => rfl
  have FGrown := fun_mk (st := sGrown) lGrown xGrown kGrown
  have bGrown := FGrown.binds (ps := ["group", "place", "person"]) fun _ _ _ _ _ _ us hl => match us, hl with | [_, _, _], _ => rfl
  have FPlace := fun_mk (st := sPlace) lPlace xPlace kPlace
  have bPlace := FPlace.binds (ps := ["made", "item"]) fun _ _ _ _ _ _ us hl => match us, hl with | [_, _], _ => rfl
  have FCome := fun_mk (st := sCome) lCome xCome kCome
  have bCome := FCome.binds (ps := ["made", "item", "person"]) fun _ _ _ _ _ _ us hl => match us, hl with | [_, _, _], _ => rfl
  have FPB := fun_mk (st := sPB) lPB xPB kPB
  have bPB := FPB.binds (ps := ["coming"]) fun _ _ _ _ _ _ us hl => match us, hl with | [_], _ => rfl
  have FPouch := fun_mk (st := sPouch) lPouch xPouch kPouch
  have bPouch := FPouch.binds (ps := ["script", "at"]) fun _ _ _ _ _ _ us hl => match us, hl with | [_, _], _ => rfl
  have FDip := fun_mk (st := sDip) lDip xDip kDip
  have bDip := FDip.binds (ps := ["pouch", "wide"]) fun _ _ _ _ _ _ us hl => match us, hl with | [_, _], _ => rfl
  have FItems := fun_mk (st := sItems) lItems xItems kItems
  have bItems := FItems.binds (ps := ["pouch", "many"]) fun _ _ _ _ _ _ us hl => match us, hl with | [_, _], _ => rfl
  have FFolk := fun_mk (st := sFolk) lFolk xFolk kFolk
  have bFolk := FFolk.binds (ps := ["nest"]) fun _ _ _ _ _ _ us hl => match us, hl with | [_], _ => rfl
  have FPut := fun_mk (st := sPut) lPut xPut kPut
  have bPut := FPut.binds (ps := ["nest", "item", "fresh"]) fun _ _ _ _ _ _ us hl => match us, hl with | [_, _, _], _ => rfl
  have FNest := fun_mk (st := sNest) lNest xNest kNest
  have bNest := FNest.binds (ps := ["items"]) fun _ _ _ _ _ _ us hl => match us, hl with | [_], _ => rfl
  have FLots := fun_mk (st := sLots) lLots xLots kLots
  have bLots := FLots.binds (ps := ["nest"]) fun _ _ _ _ _ _ us hl => match us, hl with | [_], _ => rfl
  have FRows := fun_mk (st := sRows) lRows xRows kRows
  have bRows := FRows.binds (ps := ["many"]) fun _ _ _ _ _ _ us hl => match us, hl with | [_], _ => rfl
  have FJ := fun_mk (st := sJud) lJ xJ kJ
  have bJ := FJ.binds (ps := ["pouch"]) fun _ _ _ _ _ _ us hl => match us, hl with | [_], _ => rfl
  have FO := fun_mk (st := sOdd) lO xO kO
  have bO := FO.binds (ps := ["pouch", "items"]) fun _ _ _ _ _ _ us hl => match us, hl with | [_, _], _ => rfl
  have FI := fun_mk (st := sIsIt) lI xI kI
  have bI := FI.binds (ps := ["item"]) fun _ _ _ _ _ _ us hl => match us, hl with | [_], _ => rfl
  have FF := fun_mk (st := sFew) lF xF kF
  have bF := FF.binds (ps := ["many"]) fun _ _ _ _ _ _ us hl => match us, hl with | [_], _ => rfl
  have FL := fun_mk (st := sLaw) lL xL kL
  have bL := FL.binds (ps := ["script"]) fun _ _ _ _ _ _ us hl => match us, hl with | [_], _ => rfl
  have Tp : TxtP mg := ⟨PySem.W.mg_none_of X G y_isinstance, PySem.W.mg_none_of X G y_int, PySem.W.mg_none_of X G y_bool, PySem.W.mg_none_of X G y_list, PySem.W.mg_none_of X G y_len, PySem.W.mg_none_of X G y_all, PySem.W.mg_none_of X G y_any, PySem.W.mg_none_of X G y_sum, PySem.W.mg_none_of X G y_zip, PySem.W.mg_none_of X G y_sorted, PySem.W.mg_none_of X G y_tuple, PySem.W.mg_none_of X G y_range, PySem.W.mg_none_of X G y_enumerate⟩
  have T : TxtW mg := { toTxtP := Tp, abs := PySem.W.mg_none_of X G y_abs, max := PySem.W.mg_none_of X G y_max, min := PySem.W.mg_none_of X G y_min, repr := PySem.W.mg_none_of X G y_repr }
  have Z : ProgF K mg := { fNum := fNum, dNum := _, FNum := FNum, gNum := PySem.W.mg_of X G aNum, bNum := bNum, fPer := fPer, dPer := _, FPer := FPer, gPer := PySem.W.mg_of X G aPer, bPer := bPer, fAsc := fAsc, dAsc := _, FAsc := FAsc, gAsc := PySem.W.mg_of X G aAsc, bAsc := bAsc, fPL := fPL, dPL := _, FPL := FPL, gPL := PySem.W.mg_of X G aPL, bPL := bPL, fGr := fGr, dGr := _, FGr := FGr, gGr := PySem.W.mg_of X G aGr, bGr := bGr, fMask := fMask, dMask := _, FMask := FMask, gMask := PySem.W.mg_of X G aMask, bMask := bMask, fCross := fCross, dCross := _, FCross := FCross, gCross := PySem.W.mg_of X G aCross, bCross := bCross, fAny := fAny, dAny := _, FAny := FAny, gAny := PySem.W.mg_of X G aAny, bAny := bAny, fIs := fIs, dIs := _, FIs := FIs, gIs := PySem.W.mg_of X G aIs, bIs := bIs, fPs := fPs, dPs := _, FPs := FPs, gPs := PySem.W.mg_of X G aPs, bPs := bPs, gComb := PySem.W.mg_of X G zComb, mostT := _, gMost := PySem.W.mg_of X G zMost }
  have W : LawF K mg := { Z := Z, T := T, Y := { fCut := fCut, dCut := _, FCut := FCut, gCut := PySem.W.mg_of X G aCut, bCut := bCut, fComing := fComing, dComing := _, FComing := FComing, gComing := PySem.W.mg_of X G aComing, bComing := bComing, fBoth := fBoth, dBoth := _, FBoth := FBoth, gBoth := PySem.W.mg_of X G aBoth, bBoth := bBoth, fItem := fItem, dItem := _, FItem := FItem, gItem := PySem.W.mg_of X G aItem, bItem := bItem, fComOf := fComOf, dComOf := _, FComOf := FComOf, gComOf := PySem.W.mg_of X G aComOf, bComOf := bComOf, fGrown := fGrown, dGrown := _, FGrown := FGrown, gGrown := PySem.W.mg_of X G aGrown, bGrown := bGrown, fPlace := fPlace, dPlace := _, FPlace := FPlace, gPlace := PySem.W.mg_of X G aPlace, bPlace := bPlace, fCome := fCome, dCome := _, FCome := FCome, gCome := PySem.W.mg_of X G aCome, bCome := bCome, fPB := fPB, dPB := _, FPB := FPB, gPB := PySem.W.mg_of X G aPB, bPB := bPB }, fPouch := fPouch, dPouch := _, FPouch := FPouch, gPouch := PySem.W.mg_of X G aPouch, bPouch := bPouch, fDip := fDip, dDip := _, FDip := FDip, gDip := PySem.W.mg_of X G aDip, bDip := bDip, fItems := fItems, dItems := _, FItems := FItems, gItems := PySem.W.mg_of X G aItems, bItems := bItems, fFolk := fFolk, dFolk := _, FFolk := FFolk, gFolk := PySem.W.mg_of X G aFolk, bFolk := bFolk, fPut := fPut, dPut := _, FPut := FPut, gPut := PySem.W.mg_of X G aPut, bPut := bPut, fNest := fNest, dNest := _, FNest := FNest, gNest := PySem.W.mg_of X G aNest, bNest := bNest, fLots := fLots, dLots := _, FLots := FLots, gLots := PySem.W.mg_of X G aLots, bLots := bLots, fRows := fRows, dRows := _, FRows := FRows, gRows := PySem.W.mg_of X G aRows, bRows := bRows, kbPB := kb_one (fun s a => .of_eq rfl) (fun s a => .of_eq rfl), kbComOf := kb_one (fun s a => .of_eq rfl) (fun s a => .of_eq rfl), kbComing := kb_one (fun s a => .of_eq rfl) (fun s a => .of_eq rfl) }
  refine ⟨PySem.W.fnOf "law" "law" (defArgs sLaw) (defBody sLaw) (defScope sLaw) .none kVL dcL pmL anL cvL ctL, fun s v => .of_eq rfl, fun base _ _ => ?_⟩
  exact ok_law FL W FJ (PySem.W.mg_of X G aJ) bJ FO (PySem.W.mg_of X G aO) bO FI (PySem.W.mg_of X G aI) bI FF (PySem.W.mg_of X G aF) bF
theorem walk {l : PySem.W.OpenLaw} {q : Program} {loose : List Str} {XP : (Str → Option Value) → Heap → Prop} {YP : World → Heap → Prop} {d : DefRec} {K : Params → PySem.W.Frag} (hn : l.most = some 63) (hdf : d.params.defaults = [])
    (hY : ∀ (w : World) (h : Heap), YP w h → (K w.params).In h)
    (F : ∀ (w : World) (mg : Str → Option Value) (fa : Addr) (h : Heap), (K w.params).In h → h.Ns mainGlobals mg → mg d.name = some (.ref fa) →
      ∃ fd : FuncData, (∀ (s : Shared) (u : Value), BindsTo s fd ⟨[u], []⟩ [("script", u)]) ∧ ∀ base : Heap, (K w.params).In base → base.Ns mainGlobals mg → FnG l.prog w (K w.params) mg base CX0 25 fa fd ["script"] (spLaw (K w.params))) :
    PySem.W.WalkO q loose XP YP l.row.toRowW d [] (fun f vs => PySem.call f vs) :=
  walk_ofG (n := 63) (lv := 25) (x := "script") (cx := fun _ => CX0) (prom := fun w => spLaw (K w.params)) hn (by decide) hdf ⟨rfl, by decide, by decide⟩ hY F (fun _ _ a ns hl _ _ hS => ⟨a, ns, rfl, hS, hl, fun _ => rfl⟩) fun _ _ _ _ _ z => z
end K05


open PySem PySem.W PyProof.Rows in
set_option maxRecDepth 100000 in
set_option maxHeartbeats 0 in
theorem PySem.Challenge.cw_twopartings_k05_coming_lists_of_few_holds : PySem.Challenge.rw_twopartings_k05_coming_lists_of_few.Holds := by
  w_on; o_law; k_head; (case hw => w_witness2)
  k_fill
  refine K05.walk (l := PySem.Challenge.rw_twopartings_k05_coming_lists_of_few) rfl rfl (fun w h Y => PySem.W.kIn_of Y) ?F
  case F =>
    intro w mg fa h KX G hmg
    refine' K05.all_mk KX G hmg ?aNum ?lNum ?xNum ?kNum ?aPer ?lPer ?xPer ?kPer ?aAsc ?lAsc ?xAsc ?kAsc ?aPL ?lPL ?xPL ?kPL ?aGr ?lGr ?xGr ?kGr ?aMask ?lMask ?xMask ?kMask ?aCross ?lCross ?xCross ?kCross ?aAny ?lAny ?xAny ?kAny ?aIs ?lIs ?xIs ?kIs ?aPs ?lPs ?xPs ?kPs ?aCut ?lCut ?xCut ?kCut ?aComing ?lComing ?xComing ?kComing ?aBoth ?lBoth ?xBoth ?kBoth ?aItem ?lItem ?xItem ?kItem ?aComOf ?lComOf ?xComOf ?kComOf ?aGrown ?lGrown ?xGrown ?kGrown ?aPlace ?lPlace ?xPlace ?kPlace ?aCome ?lCome ?xCome ?kCome ?aPB ?lPB ?xPB ?kPB ?aPouch ?lPouch ?xPouch ?kPouch ?aDip ?lDip ?xDip ?kDip ?aItems ?lItems ?xItems ?kItems ?aFolk ?lFolk ?xFolk ?kFolk ?aPut ?lPut ?xPut ?kPut ?aNest ?lNest ?xNest ?kNest ?aLots ?lLots ?xLots ?kLots ?aRows ?lRows ?xRows ?kRows ?aJ ?lJ ?xJ ?kJ ?aO ?lO ?xO ?kO ?aI ?lI ?xI ?kI ?aF ?lF ?xF ?kF ?aL ?lL ?xL ?kL ?y_isinstance ?y_int ?y_bool ?y_list ?y_len ?y_all ?y_any ?y_sum ?y_zip ?y_sorted ?y_tuple ?y_range ?y_enumerate ?y_abs ?y_max ?y_min ?y_repr ?zComb ?zMost
    (case aNum => k_is)
    (case lNum => k_is)
    (case xNum => k_is)
    (case kNum => k_is)
    (case aPer => k_is)
    (case lPer => k_is)
    (case xPer => k_is)
    (case kPer => k_is)
    (case aAsc => k_is)
    (case lAsc => k_is)
    (case xAsc => k_is)
    (case kAsc => k_is)
    (case aPL => k_is)
    (case lPL => k_is)
    (case xPL => k_is)
    (case kPL => k_is)
    (case aGr => k_is)
    (case lGr => k_is)
    (case xGr => k_is)
    (case kGr => k_is)
    (case aMask => k_is)
    (case lMask => k_is)
    (case xMask => k_is)
    (case kMask => k_is)
    (case aCross => k_is)
    (case lCross => k_is)
    (case xCross => k_is)
    (case kCross => k_is)
    (case aAny => k_is)
    (case lAny => k_is)
    (case xAny => k_is)
    (case kAny => k_is)
    (case aIs => k_is)
    (case lIs => k_is)
    (case xIs => k_is)
    (case kIs => k_is)
    (case aPs => k_is)
    (case lPs => k_is)
    (case xPs => k_is)
    (case kPs => k_is)
    (case aCut => k_is)
    (case lCut => k_is)
    (case xCut => k_is)
    (case kCut => k_is)
    (case aComing => k_is)
    (case lComing => k_is)
    (case xComing => k_is)
    (case kComing => k_is)
    (case aBoth => k_is)
    (case lBoth => k_is)
    (case xBoth => k_is)
    (case kBoth => k_is)
    (case aItem => k_is)
    (case lItem => k_is)
    (case xItem => k_is)
    (case kItem => k_is)
    (case aComOf => k_is)
    (case lComOf => k_is)
    (case xComOf => k_is)
    (case kComOf => k_is)
    (case aGrown => k_is)
    (case lGrown => k_is)
    (case xGrown => k_is)
    (case kGrown => k_is)
    (case aPlace => k_is)
    (case lPlace => k_is)
    (case xPlace => k_is)
    (case kPlace => k_is)
    (case aCome => k_is)
    (case lCome => k_is)
    (case xCome => k_is)
    (case kCome => k_is)
    (case aPB => k_is)
    (case lPB => k_is)
    (case xPB => k_is)
    (case kPB => k_is)
    (case aPouch => k_is)
    (case lPouch => k_is)
    (case xPouch => k_is)
    (case kPouch => k_is)
    (case aDip => k_is)
    (case lDip => k_is)
    (case xDip => k_is)
    (case kDip => k_is)
    (case aItems => k_is)
    (case lItems => k_is)
    (case xItems => k_is)
    (case kItems => k_is)
    (case aFolk => k_is)
    (case lFolk => k_is)
    (case xFolk => k_is)
    (case kFolk => k_is)
    (case aPut => k_is)
    (case lPut => k_is)
    (case xPut => k_is)
    (case kPut => k_is)
    (case aNest => k_is)
    (case lNest => k_is)
    (case xNest => k_is)
    (case kNest => k_is)
    (case aLots => k_is)
    (case lLots => k_is)
    (case xLots => k_is)
    (case kLots => k_is)
    (case aRows => k_is)
    (case lRows => k_is)
    (case xRows => k_is)
    (case kRows => k_is)
    (case aJ => k_is)
    (case lJ => k_is)
    (case xJ => k_is)
    (case kJ => k_is)
    (case aO => k_is)
    (case lO => k_is)
    (case xO => k_is)
    (case kO => k_is)
    (case aI => k_is)
    (case lI => k_is)
    (case xI => k_is)
    (case kI => k_is)
    (case aF => k_is)
    (case lF => k_is)
    (case xF => k_is)
    (case kF => k_is)
    (case aL => k_is)
    (case lL => k_is)
    (case xL => k_is)
    (case kL => k_is)
    (case y_isinstance => k_is)
    (case y_int => k_is)
    (case y_bool => k_is)
    (case y_list => k_is)
    (case y_len => k_is)
    (case y_all => k_is)
    (case y_any => k_is)
    (case y_sum => k_is)
    (case y_zip => k_is)
    (case y_sorted => k_is)
    (case y_tuple => k_is)
    (case y_range => k_is)
    (case y_enumerate => k_is)
    (case y_abs => k_is)
    (case y_max => k_is)
    (case y_min => k_is)
    (case y_repr => k_is)
    (case zComb => k_is)
    (case zMost => k_is)
