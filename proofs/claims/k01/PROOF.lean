import PyProof.Rows.All
import Wide.All
import OpenK.AllK
import Wide.FinOn
import PySem.Challenge.RW_twopartings_k01_partings_judged
import HandS.ForMost
import HandS.Wide
import HandS.WideBits
import PyProof.ReprRoads
import HandS.EndBits
import PyProof.ZipIter
import PyProof.CallType
import PyProof.Walk
import PyProof.WalkLemmas
import PyProof.RangeIter
import PyProof.RulesTry
import PyProof.TupleOfSeq
import KE.SortData
import KE.DataCmp
import HandS.DictComp
import HandS.Conv
import PyProof.Rows.BitMore
import PyProof.ReprLen
import KE.KMinBuiltin
import KE.GoesEnumKw
import KE.KRevSl
import HandS.SetFor
import HandS.Strs
import HandS.RaiseMore
import HandS.IsInst
import HandS.More
import HandS.TupLe
import HandS.Deep
set_option Elab.async false
set_option linter.all false
set_option maxRecDepth 100000
set_option maxHeartbeats 4000000
namespace RepA
open PySem PySem.Spec PyProof.Rows L2

/-! ### data without a dict -/
mutual
theorem dp_nodict {K : PySem.W.Frag} {H : Hp} : ∀ (d : PyData) (v : V), Dp K H v d → d.hasDict = false
  | .none, _, _ => by simp only [PyData.hasDict]
  | .bool _, _, _ => by simp only [PyData.hasDict]
  | .int _, _, _ => by simp only [PyData.hasDict]
  | .str _, _, _ => by simp only [PyData.hasDict]
  | .list ds, _, h => by
    cases h with
    | lst hs ha =>
      simp only [PyData.hasDict]
      exact dpAll_nodict ds _ ha
  | .tuple ds, _, h => by
    cases h with
    | tup hs ha =>
      simp only [PyData.hasDict]
      exact dpAll_nodict ds _ ha
  | .dict _, _, h => by cases h
theorem dpAll_nodict {K : PySem.W.Frag} {H : Hp} : ∀ (ds : List PyData) (vs : List V), DpAll K H vs ds → PyData.hasDictAll ds = false
  | [], _, _ => by simp only [PyData.hasDictAll]
  | d :: ds, _, h => by
    cases h with
    | cons h1 h2 => simp only [PyData.hasDictAll, dp_nodict d _ h1, dpAll_nodict ds _ h2, Bool.or_self]
end

/-! ### an item: data, or an empty dict -/
def Dd (K : PySem.W.Frag) (H : Hp) (v : V) (d : PyData) : Prop := Dp K H v d ∨ ∃ a, v = .ref a ∧ H a = some (.dK []) ∧ d = .dict []
inductive DdAll (K : PySem.W.Frag) (H : Hp) : List V → List PyData → Prop
  | nil : DdAll K H [] []
  | cons {v : V} {vs : List V} {d : PyData} {ds : List PyData} : Dd K H v d → DdAll K H vs ds → DdAll K H (v :: vs) (d :: ds)
theorem DdAll.of_dp {K : PySem.W.Frag} {H : Hp} : ∀ {vs : List V} {ds : List PyData}, DpAll K H vs ds → DdAll K H vs ds
  | _, _, .nil => .nil
  | _, _, .cons h r => .cons (.inl h) (.of_dp r)

section
variable {X : Cx} {pins : List (Addr × Obj)} {σ : L2.St} {H : Hp} {s : Shared}
theorem dd_reads (I : Inv X pins σ H s) {v : V} {u : Value} {d : PyData} (h : Dd X.K H v d) (r : RelV v u) : ∃ as, Reads s.heap u d as ∧ (d.hasDict = true → sysModules ∉ as) := by
  rcases h with h | ⟨a, rfl, ha, rfl⟩
  · obtain ⟨as, q⟩ := Dp.reads I d v u h r
    exact ⟨as, q, fun e => by rw [dp_nodict d v h] at e; cases e⟩
  · obtain rfl : u = Value.ref a := r
    obtain ⟨_, hn, vs, rel, dd⟩ := dk_of I.hok ha
    obtain ⟨o, es, ep, e1, e2, e3, e4⟩ := dd
    cases rel
    have hes : es.toList = [] := by
      have q := e4.2.1
      generalize es.toList = l at q
      cases q
      rfl
    refine ⟨[a], ?_, fun _ hm => ?_⟩
    · refine Reads.dict (as := []) (bs := []) e1 e2.1 e3 ?_ ?_
      · rw [hes]
        exact ReadsAll.nil
      · rw [hes]
        exact ReadsAll.nil
    · rcases List.mem_cons.mp hm with q | q
      · rw [q] at hn
        rw [beq_self_eq_true] at hn
        cases hn
      · cases q

/-- all items, each by itself -/
theorem dd_all (I : Inv X pins σ H s) : ∀ {vs : List V} {ds : List PyData} {us : List Value}, DdAll X.K H vs ds → Vals vs us → PyData.showableAll ds = true → (∀ t ∈ PyData.shownAll ds, t.length ≤ sizeLine) →
    (∃ as, ReadsAll s.heap us ds as) ∧ ∃ bs, ReadAtMost s.heap (PyData.depthAll ds) bs ∧ ReprAllK X.prog X.w bs s.heap (PyData.depthAll ds) us (PyData.shownAll ds)
  | _, _, _, .nil, .nil, _, _ => ⟨⟨_, .nil⟩, [], (fun _ h => nomatch h), by simp only [PyData.shownAll]; exact .nil⟩
  | _, _, _, .cons (d := d) (ds := ds) h hr, .cons r rr, hs, hz => by
    obtain ⟨s1, s2⟩ : d.showable = true ∧ PyData.showableAll ds = true := by simpa [PyData.showableAll] using hs
    obtain ⟨a1, q1, n1⟩ := dd_reads I h r
    obtain ⟨b1, m1, k1⟩ := ReprK.of_reads (prog := X.prog) (w := X.w) q1 s1 n1 (hz _ (by simp only [PyData.shownAll]; exact List.mem_cons_self ..))
    obtain ⟨⟨a2, q2⟩, b2, m2, k2⟩ := dd_all I hr rr s2 fun t ht => hz t (by simp only [PyData.shownAll]; exact List.mem_cons_of_mem _ ht)
    have l1 : d.depth ≤ PyData.depthAll (d :: ds) := by simp only [PyData.depthAll]; omega
    have l2 : PyData.depthAll ds ≤ PyData.depthAll (d :: ds) := by simp only [PyData.depthAll]; omega
    refine ⟨⟨_, .cons q1 q2⟩, b1 ++ b2, fun b hb => ?_, ?_⟩
    · rcases List.mem_append.mp hb with hb | hb
      · obtain ⟨d', as', r', z⟩ := m1 b hb
        exact ⟨d', as', r', Nat.le_trans z l1⟩
      · obtain ⟨d', as', r', z⟩ := m2 b hb
        exact ⟨d', as', r', Nat.le_trans z l2⟩
    · simp only [PyData.shownAll]
      exact .cons ((k1.more fun b hb => List.mem_append.mpr (.inl hb)).level_le l1) (k2.more_le (fun b hb => List.mem_append.mpr (.inr hb)) l2)

/-- repr of a list of data and empty dicts, where no guard stands -/
theorem call_reprL (hg : X.A.guards = some []) (hu : X.A.units + 64 < cLine) : CallR X (.builtin "repr") (fun xs H Q => ∃ a ys ds, xs = [V.ref a] ∧ SqL X.K H a ys ∧ DdAll X.K H ys ds ∧ PyData.showableAll ds = true ∧ PyData.depthAll ds ≤ 40 ∧
    (listText (PyData.shownAll ds)).length ≤ sizeLine ∧ Q (.str (PyData.list ds).shown) H) := by
  intro pins s σ H xs us Q I r h
  obtain ⟨a, ys, ds, rfl, hs, hd, hw, hdp, hz, q⟩ := h
  obtain ⟨u, rfl, ru⟩ := vals1 r
  obtain rfl : u = Value.ref a := ru
  obtain ⟨its, rv, ⟨o, n, ho, hc, hne, hda⟩, hsz⟩ := I.list hs
  obtain ⟨⟨as, hR⟩, bs, hb, hk⟩ := dd_all I hd rv hw fun t ht => Nat.le_trans (listText_mem_le ht) hz
  have rd : Reads s.heap (.ref a) (.list ds) (a :: as) := .list ho hc hda hR
  have hna : a ∉ bs := not_mem_of_deeper rd (by simp only [PyData.depth]; omega) hb
  have fin : ∀ (t tk : Nat) (h' : Heap), (∀ b o, s.heap.get? b = some o → h'.get? b = some o) → EP X pins σ Q (.str (listText (PyData.shownAll ds)) t) { s with heap := h', toks := tk } := fun t tk h' k =>
    ⟨.str _, H, I.kept k, ⟨t, rfl⟩, by simpa only [PyData.shown] using q⟩
  refine call_repr_slot (by omega) ⟨o, ho, hc⟩ F.slot_list_repr.toG ?_
  obtain ⟨l⟩ : ∃ l, l = its := ⟨_, rfl⟩
  cases its with
  | nil =>
    cases hR
    exact call_list_repr_empty ⟨o, ho, hc⟩ ho hda ⟨_, _, rfl, by simpa only [PyData.shownAll, listText_nil] using fin s.toks (s.toks + 1) s.heap fun _ _ e => e⟩
  | cons x l =>
    refine call_list_reprK (h₀ := s.heap) ho hc hda hna (by simpa using hk.length_eq) (fun i y e => hk.item i y (by simpa using e)) hg (fun b _ => Clear.nil b) (by show X.A.units + 1 + (PyData.depthAll ds + 1) < cLine; omega) (fun _ _ e => e) (fun h' t tk k => ⟨_, _, rfl, fin t tk h' k⟩) hz
end
end RepA

namespace RepA
open PySem PySem.Spec PyProof.Rows L2

/-! ### the promise of a def that is called where no guard stands -/
structure FnG (Pg : Program) (wd : World) (Kf : PySem.W.Frag) (gl : Str → Option Value) (bs : Heap) (cx : CXT) (lv : Nat) (fa : Addr) (dat : FuncData) (names : List Str) (prom : Sp) : Prop where
  cnt : ∀ xs G Qv Ex, prom xs G Qv Ex → xs.length = names.length
  go : ∀ (Ar : Around) (fr : List Env) (sh : Shared) (G : Hp) (ar : Args) (us : List Value) (xs : List V) (Qv : VK) (Ex : XK), Room lv Ar → Ar.guards = some [] →
    Env0 Pg wd Kf gl bs Ar fr sh G → BindsTo sh dat ar (names.zip us) → Vals xs us → prom xs G Qv Ex →
    codeAny (model Pg wd) Ar (.call (.ref fa) ar) (CR cx fr Pg wd G sh Qv Ex) sh

theorem FnG.of {Pg : Program} {wd : World} {Kf : PySem.W.Frag} {gl : Str → Option Value} {bs : Heap} {cx : CXT} {lv : Nat} {fa : Addr} {dat : FuncData} {names : List Str} {prom : Sp}
    (f : FnOk Pg wd Kf gl bs cx lv fa dat names prom) : FnG Pg wd Kf gl bs cx lv fa dat names prom :=
  ⟨f.len, fun Ar fr sh G ar us xs Qv Ex r _ e b v p => f.run Ar fr sh G ar us xs Qv Ex r e b v p⟩

/-- a def of the text by its body, where no guard stands -/
theorem okG {Pg : Program} {wd : World} {Kf : PySem.W.Frag} {gl : Str → Option Value} {bs : Heap} {nm qn : Str} {st : Stmt} {fa : Addr} {dat : FuncData} {slots names : List Str} {lv : Nat} {prom : Sp}
    (F : Fun Kf nm qn st fa dat) (S : FnScope slots names (defScope st)) (cnt : ∀ xs G Qv Ex, prom xs G Qv Ex → xs.length = names.length)
    (body : ∀ (cd : Value) (Ar : Around) (fr : List Env) (sh : Shared) (G : Hp) (xs : List V) (Qv : VK) (Ex : XK), Room lv (Ar.deeper (envOfC qn (defScope st) sh.heap.objs.size fa cd)) → Ar.guards = some [] → prom xs G Qv Ex →
      ∃ t, PSs (cxOf CX0 Pg wd Kf gl bs slots qn (defScope st) fa cd Ar fr sh G Ex).nox (defBody st) t ∧ t { nx := fun _ G' => Qv .non G', rt := Qv } (start slots xs) G) :
    FnG Pg wd Kf gl bs CX0 (lv + 1) fa dat names prom := by
  obtain ⟨oc, od, kV, doc, pm, an, cd, ct, osl, rfl, look, code⟩ := F.ex
  refine ⟨cnt, fun Ar fr sh G ar us xs Qv Ex room noG env bind vals hp => ?_⟩
  have sz := cnt _ _ _ _ hp
  have inK : Kf.In sh.heap := env.mod.kin.keeps fun b o q => (env.bs b o q).1
  have noL : sh.heap.NoLimit := env.mod.nolimit.keeps fun b o q => (env.bs b o q).1
  have kinds : ∀ y ∈ names.zip us, (defScope st).names.lookup y.1 = some .local ∨ ((defScope st).names.lookup y.1 = some .cell ∧ ((cellsFrom (sh.heap.objs.size + 1) (defScope st).names []).lookup y.1).isSome = true) := by
    rintro ⟨n, v⟩ hy
    rcases S.par n (List.of_mem_zip hy).1 with z | z
    · exact .inl z
    · exact .inr ⟨z, PySem.W.cellsFrom_some _ _ _ (.inl z)⟩
  refine codeAny_call_function room.depth (inK _ _ look) rfl S.co S.gen rfl (PySem.W.codeRec_of inK code) (bind _ _ _ _ ?_)
  refine wpAny_newFunctionEnv_cells S.kind kinds fun en hen sh1 inC => ?_
  subst hen
  refine ⟨noL.keeps inC.toInCall.keep, codeAny_func ?_⟩
  obtain ⟨t, walk, read⟩ := body cd Ar fr sh G xs Qv Ex (room.deeper _) noG hp
  have I0 := inv_start (CX := CX0) (P := Pg) (w := wd) (K := Kf) (mg := gl) (base := bs) (E := Ex) S room.hd env sz vals inC
  refine wpAny_mono (walk.nox.run [] sh1 _ G _ I0 read) (fun fl sh2 out => ?_) fun _ _ x => x
  cases fl with
  | ret u =>
    obtain ⟨v, σ2, G2, J, rel, q⟩ := out
    exact ⟨v, G2, J.os, J.bare, J.base, J.hok, rel, q⟩
  | next =>
    obtain ⟨σ2, G2, J, q⟩ := out
    exact ⟨V.non, G2, J.os, J.bare, J.base, J.hok, (rfl : RelV V.non Value.none), q⟩
  | brk => exact out.elim fun _ z => z.elim fun _ z => z.2.elim
  | cont => exact out.elim fun _ z => z.elim fun _ z => z.2.elim

section
variable {X : Cx} {x : Str} {p pos : Pos} {e : Expr} {es : List Expr} {t : TA} {CX : CXT} {k : Nat} {f : Addr} {fd : FuncData} {ps : List Str} {sp : Sp} {ds : List Value} {dvs : List V} {E : XK}
/-- f(e, ..), f such a def -/
theorem pe_callG (F : FnG X.prog X.w X.K X.mg X.base CX k f fd ps sp) (room : Room k X.A) (noG : X.A.guards = some []) (hg : Gl X x) (hm : X.mg x = some (.ref f)) (kp : PySem.W.keepIn X.K (.ref f) = true) (bd : Binds X.K fd ps ds) (dv : Vals dvs ds) (ps' : Passes CX X E)
    (args : PA X (e :: es) t) (hdb : (x == ("__debug__" : Str)) = false := by decide) (h1 : starEach (e :: es) X.env = (false, eval e X.env) :: starEach es X.env := by rfl) (h2 : (backTo pos (starEach es X.env)).any (·.1) = false := by rfl) :
    PE X (.Call (.Name x p) (e :: es) [] pos) (tCall sp dvs E t) := by
  refine ⟨fun pins s σ H Q I rd => ?_⟩
  refine wpAny_Call_Name_kw (ld_glob I hg hm ?_ hdb)
  refine PySem.W.callWith_K (h₀ := X.base) I.ok.mod.kin kp (thn (args.run pos pins s σ H _ I rd) fun us s1 ⟨vs, H1, I1, rv, q⟩ => ⟨I1.kIn, ?_⟩) h1 h2
  have rv2 : Vals (vs ++ dvs) (us ++ ds) := rv.append dv
  have sz : (us ++ ds).length = ps.length := rv2.length.symm.trans (F.cnt _ _ _ _ q)
  refine wpAny_call (codeAny_mono (F.go X.A X.stack s1 H1 ⟨us, []⟩ _ _ Q E room noG I1.env0 (bd s1 us I1.kIn sz) rv2 q) fun r s2 out => ?_)
  match r, out with
  | .error er, out => exact ps' pins σ H1 s1 er s2 I1 out
  | .ok (.ret u), out => exact I1.after out
  | .ok .next, out => exact out.elim
  | .ok .brk, out => exact out.elim
  | .ok .cont, out => exact out.elim
end
end RepA

namespace RepA
open PySem PySem.Spec PyProof.Rows L2

/-- the law's call from the caller, over an abstract heap that holds at most the script -/
theorem from_caller {Pg : Program} {wd : World} {Kf : PySem.W.Frag} {gl mb : Str → Option Value} {cx : CXT} {lv : Nat} {fa a : Addr} {dat : FuncData} {x : Str} {prom : Sp} {sh : Shared} {ob : Obj} {n0 : Nat} {vals : Array Value}
    (inK : Kf.In sh.heap) (nG : sh.heap.Ns mainGlobals gl) (nB : sh.heap.Ns builtinsNs mb) (isB : ∀ y : Str, y ≠ "__name__" → mb y = bootBuiltins y) (noL : sh.heap.NoLimit) (noGen : sh.gens = #[]) (at_a : sh.heap.get? a = some ob) (list_a : ob.data = .seq vals n0)
    (room : Room lv callerA) (F : ∀ bs : Heap, Kf.In bs → bs.Ns mainGlobals gl → FnG Pg wd Kf gl bs cx lv fa dat [x] prom) (bd : ∀ (s : Shared) (u : Value), BindsTo s dat ⟨[u], []⟩ [(x, u)])
    (noX : ∀ G e s', cx [] G sh (fun _ _ _ => False) e s' → False) (G : Hp) (only : Only G) (keeps : HOk Pg wd G sh.heap) (justA : ∀ b, G b ≠ none → b = a) (notK : G a ≠ none → Kf.lookup a = none)
    (hp : prom [.ref a] G (fun v _ => v = .bl true) fun _ _ _ => False) :
    codeAny (model Pg wd) callerA (.call (.ref fa) ⟨[.ref a], []⟩) (fun r s' => r = .ok (.ret (.bool true)) ∧ OldK sh.heap s'.heap ∧ s'.os = sh.os ∧ AllBare s'.gens) sh := by
  have free : ∀ {b : Addr}, b ≠ a → G b = none := fun {b} ne => Classical.byContradiction fun z => ne (justA b z)
  have hides : ∀ {b : Addr} {o : Obj}, sh.heap.get? b = some o → G b = none → (hidT sh.heap G).get? b = some o := fun q z => hidT_get q z
  have ns : ∀ {b : Addr} {m : Str → Option Value}, sh.heap.Ns b m → (hidT sh.heap G).Ns b m := fun {b m} h => by
    obtain ⟨o, es, ep, q, dd, rest⟩ := h
    refine ⟨o, es, ep, hides q (free fun z => ?_), dd, rest⟩
    rw [z, at_a] at q
    cases q
    rw [list_a] at dd
    cases dd
  have inK' : Kf.In (hidT sh.heap G) := fun b o q => hides (inK b o q) (by
    rcases Option.eq_none_or_eq_some (G b) with z | ⟨u, z⟩
    · exact z
    · have ne : G b ≠ none := by rw [z]; exact fun c => nomatch c
      have ba := justA b ne
      rw [ba] at q ne
      rw [notK ne] at q
      cases q)
  have md : Mod Kf gl (hidT sh.heap G) := ⟨inK', ns nG, ⟨mb, ns nB, isB⟩, let ⟨mc, z1, z2⟩ := noL; ⟨mc, ns z1, z2⟩⟩
  have env : Env0 Pg wd Kf gl (hidT sh.heap G) callerA [] sh G := ⟨rfl, md, fun _ _ q => of_hidT q, Nat.le_of_eq (hidT_size _ _), trivial, (fun b hb => nomatch hb), keeps, .of_eq noGen⟩
  refine codeAny_mono ((F _ inK' (ns nG)).go callerA [] sh G ⟨[.ref a], []⟩ [.ref a] [.ref a] _ _ room rfl env (bd sh (.ref a)) (.cons rfl .nil) hp) fun r s' out => ?_
  match r, out with
  | .error er, out => exact (noX G er s' out).elim
  | .ok .next, out => exact out.elim
  | .ok .brk, out => exact out.elim
  | .ok .cont, out => exact out.elim
  | .ok (.ret u), out =>
    obtain ⟨v, G', hos, hbare, un, keeps', rel, ev⟩ := out
    have ev' : v = .bl true := ev
    subst ev'
    obtain rfl : u = Value.bool true := rel
    refine ⟨rfl, OldK.of_keep fun b o q => ?_, hos, hbare⟩
    rcases only b with z | ⟨o2, ys, z⟩
    · exact un.keep b o q z (fun c => nomatch c) (fun c => nomatch c)
    · obtain ⟨w1, _⟩ := keeps b _ z
      obtain ⟨w2, _⟩ := keeps' b _ (un.frzs b o2 _ z)
      rw [q] at w1
      cases w1
      exact w2

theorem law_callG {Pg : Program} {wd : World} {Kf : PySem.W.Frag} {gl mb : Str → Option Value} {cx : CXT} {lv : Nat} {fa a : Addr} {dat : FuncData} {x : Str} {prom : Sp} {sh : Shared} {vals : List Value} {ns : List Int}
    (inK : Kf.In sh.heap) (nG : sh.heap.Ns mainGlobals gl) (nB : sh.heap.Ns builtinsNs mb) (isB : ∀ y : Str, y ≠ "__name__" → mb y = bootBuiltins y) (noL : sh.heap.NoLimit) (noGen : sh.gens = #[])
    (at_a : sh.heap.get? a = some { cls := .type "list", data := .seq vals.toArray }) (inz : IntsAre vals ns) (short : ns.length ≤ sizeLine) (room : Room lv callerA)
    (F : ∀ bs : Heap, Kf.In bs → bs.Ns mainGlobals gl → FnG Pg wd Kf gl bs cx lv fa dat [x] prom) (bd : ∀ (s : Shared) (u : Value), BindsTo s dat ⟨[u], []⟩ [(x, u)])
    (hp : ∀ G : Hp, Only G → SqL Kf G a (ns.map V.int) → prom [.ref a] G (fun v _ => v = .bl true) fun _ _ _ => False) (noX : ∀ G e s', cx [] G sh (fun _ _ _ => False) e s' → False) :
    codeAny (model Pg wd) callerA (.call (.ref fa) ⟨[.ref a], []⟩) (fun r s' => r = .ok (.ret (.bool true)) ∧ OldK sh.heap s'.heap ∧ s'.os = sh.os ∧ AllBare s'.gens) sh := by
  have rv := vals_ints inz
  rcases Option.eq_none_or_eq_some (Kf.lookup a) with nk | ⟨o, isK⟩
  · let G : Hp := fun b => if b = a then some (.frz { cls := .type "list", data := .seq vals.toArray } (.lst (ns.map V.int))) else none
    have ga : G a = some (.frz { cls := .type "list", data := .seq vals.toArray } (.lst (ns.map V.int))) := if_pos rfl
    have gb : ∀ {b : Addr}, b ≠ a → G b = none := fun ne => if_neg ne
    have justA : ∀ b, G b ≠ none → b = a := fun b z => Classical.byContradiction fun ne => z (gb ne)
    have only : Only G := fun b => by
      by_cases ne : b = a
      · subst ne
        exact .inr ⟨_, _, ga⟩
      · exact .inl (gb ne)
    refine from_caller inK nG nB isB noL noGen at_a rfl room F bd noX G only (fun b u z => ?_) justA (fun _ => nk) (hp G only (.inl (.inr ⟨_, ga⟩)))
    have ba := justA b (by rw [z]; exact fun c => nomatch c)
    subst ba
    rw [ga] at z
    cases z
    exact ⟨at_a, by rw [List.length_map]; exact short, vals, _, rv, at_a⟩
  · have e := inK a o isK
    rw [at_a] at e
    cases e
    exact from_caller inK nG nB isB noL noGen at_a rfl room F bd noX (fun _ => none) (fun _ => .inl rfl) (fun b u z => nomatch z) (fun b z => absurd rfl z) (fun z => absurd rfl z)
      (hp _ (fun _ => .inl rfl) (.inr ⟨_, vals.toArray, _, isK, rfl, rfl, rfl, by rw [List.size_toArray, inz.length]; exact short, by simpa using rv⟩))

/-- the end of a law row, for a law that asks where no guard stands; the script's bits told -/
theorem walk_ofG {l : PySem.W.OpenLaw} {n lv : Nat} {q : Program} {loose : List Str} {XP : (Str → Option Value) → Heap → Prop} {YP : World → Heap → Prop} {d : DefRec} {K : Params → PySem.W.Frag} {cx : World → CXT} {prom : World → Sp} {x : Str}
    (most : l.most = some n) (short : n ≤ sizeLine) (noD : d.params.defaults = []) (room : Room lv callerA) (hY : ∀ (w : World) (h : Heap), YP w h → (K w.params).In h)
    (F : ∀ (w : World) (gl : Str → Option Value) (fa : Addr) (h : Heap), (K w.params).In h → h.Ns mainGlobals gl → gl d.name = some (.ref fa) →
      ∃ dat : FuncData, (∀ (s : Shared) (u : Value), BindsTo s dat ⟨[u], []⟩ [(x, u)]) ∧ ∀ bs : Heap, (K w.params).In bs → bs.Ns mainGlobals gl → FnG l.prog w (K w.params) gl bs (cx w) lv fa dat [x] (prom w))
    (hp : ∀ (w : World) (G : Hp) (a : Addr) (ns : List Int), ns.length ≤ n → (∀ z ∈ ns, Builtin.Int.intBits z ≤ 1048576) → Only G → SqL (K w.params) G a (ns.map V.int) → prom w [.ref a] G (fun v _ => v = .bl true) fun _ _ _ => False)
    (noX : ∀ (w : World) (G : Hp) (s : Shared) (e : Value) (s' : Shared), cx w [] G s (fun _ _ _ => False) e s' → False) :
    PySem.W.WalkO q loose XP YP l.row.toRowW d [] (fun f vs => PySem.call f vs) := by
  refine Att.attach_callB most noD fun w _ sh gl mb fa _ _ _ _ a vals ns gr y _ _ _ named at_a inz few bits noGen => ?_
  obtain ⟨dat, bd, FG⟩ := F w gl fa _ (hY w _ y) gr.T.g named
  exact law_callG (hY w _ y) gr.T.g gr.T.b gr.T.builtins gr.T.nolimit noGen at_a inz (Nat.le_trans few short) room FG bd (fun G o s => hp w G a ns few bits o s) fun G e s' => noX w G sh e s'
end RepA

/-! itertools.combinations(list, 2), made and drawn. -/
namespace Comb
open PySem PySem.Spec
open Sem (wp)
abbrev cName : String := "itertools.combinations"
theorem cMro : mroOf (.type "itertools.combinations") = pure [.type "itertools.combinations", .type "object"] := by rw [mroOf_type]; kernel_rfl
theorem cNew : typeLookup (.type "itertools.combinations") "__new__" = pure (some (.builtin "itertools.combinations.__new__")) := by rw [typeLookup_type, builtinLookup_eq_fast]; kernel_rfl
theorem cInit : Slot "itertools.combinations" "__init__" "object.__init__" :=
  .of (owner := "object") (n := "__init__") (by rw [typeLookup_type, builtinLookup_eq_fast]; kernel_rfl) (by decide +kernel) (by decide +kernel) (by decide +kernel) (by first | exact .inl (by decide +kernel) | exact .inr (by decide +kernel)) (by rw [isSubtype_type]; kernel_rfl)
theorem cSub : isSubtype (.type "itertools.combinations") (.type "itertools.combinations") = pure true := by rw [isSubtype_type]; kernel_rfl
theorem cCalled : TypeCalled "itertools.combinations" "itertools.combinations.__new__" "object.__init__" :=
  ⟨by decide +kernel, by decide +kernel, ⟨_, _, cMro⟩, madeBy_type cMro cNew (by decide +kernel), by decide +kernel, cSub, cInit⟩
theorem cType2 (a b : Value) : checkTypeCall "itertools.combinations" ⟨[a, b], []⟩ = pure () := by kernel_rfl
theorem cNew2 (a b : Value) : checkBuiltinCall "itertools.combinations.__new__" ⟨[.type "itertools.combinations", a, b], []⟩ = pure () := by kernel_rfl
theorem cEntryNew : entryFor table "itertools.combinations.__new__" = some Builtin.«itertools.combinations.__new__» := entryFor_of_tree (by kernel_rfl)
theorem cEntryNext : entryFor table "itertools.combinations.__next__" = some Builtin.«itertools.combinations.__next__» := entryFor_of_tree (by kernel_rfl)
theorem cEntryIter : entryFor table "itertools.combinations.__iter__" = some Builtin.«dict_keyiterator.__iter__» :=
  entryFor_alias (id' := "dict_keyiterator.__iter__") (by kernel_rfl) (by first | rfl | decide +kernel | (unfold String.splitOn; simp +decide [String.splitOnAux])) (by decide +kernel) (by kernel_rfl)
theorem cIter : Slot "itertools.combinations" "__iter__" "itertools.combinations.__iter__" :=
  .of (owner := "itertools.combinations") (n := "__iter__") (by rw [typeLookup_type, builtinLookup_eq_fast]; kernel_rfl) (by decide +kernel) (by decide +kernel) (by decide +kernel) (by first | exact .inl (by decide +kernel) | exact .inr (by decide +kernel)) cSub
theorem cNext : Slot "itertools.combinations" "__next__" "itertools.combinations.__next__" :=
  .of (owner := "itertools.combinations") (n := "__next__") (by rw [typeLookup_type, builtinLookup_eq_fast]; kernel_rfl) (by decide +kernel) (by decide +kernel) (by decide +kernel) (by first | exact .inl (by decide +kernel) | exact .inr (by decide +kernel)) cSub
theorem cOwner : Manifest.owners.lookup (String.ofList "snoitanibmoc.slootreti".toList.reverse) = some Manifest.sig_itertools_combinations := by kernel_rfl
theorem cArgsIter (a : Value) : argsOk "itertools.combinations.__iter__" ⟨[a], []⟩ := by
  unfold argsOk
  rw [signature?_of (id := "itertools.combinations.__iter__") (n := ['_', '_', 'r', 'e', 't', 'i', '_', '_']) (o := "snoitanibmoc.slootreti".toList) (by kernel_rfl) cOwner]
  kernel_rfl
theorem cArgsNext (a : Value) : argsOk "itertools.combinations.__next__" ⟨[a], []⟩ := by
  unfold argsOk
  rw [signature?_of (id := "itertools.combinations.__next__") (n := ['_', '_', 't', 'x', 'e', 'n', '_', '_']) (o := "snoitanibmoc.slootreti".toList) (by kernel_rfl) cOwner]
  kernel_rfl
theorem cNoDict : typeHasDict (.type "itertools.combinations") = false := by decide +kernel

/-- such an object: its pool, its state, what it handed out last, its places -/
def recC (pool : Addr) (st : Int) (last : Value) (i j : Int) : Obj := { cls := .type "itertools.combinations", dict := none, data := .fields #[.ref pool, rawInt st, last, rawInt i, rawInt j], slots := #[] }
abbrev IsC (h : Heap) (it pool : Addr) (st : Int) (last : Value) (i j : Int) : Prop := h.get? it = some (recC pool st last i j)
def tupO (xs : Array Value) : Obj := { cls := .type "tuple", data := .seq xs }

end Comb

namespace Comb
open PySem PySem.Spec
open Sem (wp)
theorem joinName : "itertools." ++ "combinations" = "itertools.combinations" := by decide
theorem new_meets (l : Addr) (o : Obj) (items : Array Value) (n : Nat) (t : Tok) (hc : o.cls = .type "list") (hd : o.data = .seq items n) (hsz : items.size ≤ sizeLine) :
    Meets (Builtin.«itertools.combinations.__new__» ⟨[.type "itertools.combinations", .ref l, .int 2 t], []⟩)
      (fun _ R s => s.heap.get? l = some o ∧ ∀ h' : Heap, (∀ b u, s.heap.get? b = some u → h'.get? b = some u) → R (.ok (.ret (.ref (h'.objs.size + 1)))) { s with heap := (h'.push (tupO items)).push (recC h'.objs.size (if 2 > items.size then 2 else 0) .none 0 1) }) :=
  .of_wp fun prog w A R s h => by
    obtain ⟨hp, g, dd, tk, os⟩ := s
    obtain ⟨at_l, h⟩ := h
    have hsub := cSub
    have hdic := cNoDict
    have hT : Shared.TypeIs ⟨hp, g, dd, tk, os⟩ (.ref l) "list" := ⟨o, at_l, hc⟩
    unfold Builtin.«itertools.combinations.__new__»
    repeat (first
      | (with_reducible refine wpAny_collect_seq (hsz := hsz) l (.inl rfl) at_l hc hd fun h' keep => ?_)
      | wp_step
      | (rw [joinName]))
    refine ⟨_, rfl, ?_⟩
    have e1 : items.toList.toArray = items := by simp
    have e2 : (h'.push (tupO items)).objs.size = h'.objs.size + 1 := Heap.size_push ..
    have e3 : items.toList.length = items.size := by simp
    rw [e1, e3]
    have q := h h' keep
    rw [← e2] at q
    exact q

end Comb

namespace Comb
open PySem PySem.Spec
open Sem (wp)
section
variable {prog : Program} {w : World} {A : Around} {E : Value → Shared → Prop} {s : Shared}
/-- combinations(l, 2): the heap grows by what is kept, then by the pool and the record -/
theorem call_comb {l : Addr} {o : Obj} {items : Array Value} {n : Nat} {t : Tok} {Q : Value → Shared → Prop} (at_l : s.heap.get? l = some o) (hc : o.cls = .type "list") (hd : o.data = .seq items n) (hsz : items.size ≤ sizeLine)
    (h : ∀ h1 : Heap, (∀ b u, s.heap.get? b = some u → h1.get? b = some u) → Q (.ref (h1.objs.size + 1)) { s with heap := (h1.push (tupO items)).push (recC h1.objs.size (if 2 > items.size then 2 else 0) .none 0 1) }) :
    wpAny (model prog w) A (call (.type "itertools.combinations") [.ref l, .int 2 t]) Q E s := by
  refine callType_new cCalled (by decide +kernel) (cType2 _ _) (cNew2 _ _) (fun obj => F.args_object_init_3 obj _ _) cEntryNew (new_meets l o items n t hc hd hsz) ?_
  refine ⟨at_l, fun h1 keep => ⟨⟨recC h1.objs.size (if 2 > items.size then 2 else 0) .none 0 1, ?_, rfl⟩, h h1 keep⟩⟩
  have sz : (h1.push (tupO items)).objs.size = h1.objs.size + 1 := Heap.size_push ..
  show Heap.get? _ (h1.objs.size + 1) = some (recC h1.objs.size (if 2 > items.size then 2 else 0) .none 0 1)
  rw [← sz]
  exact Heap.get?_push_size _ rfl
theorem iter_comb {it pool : Addr} {st i j : Int} {last : Value} {Q : Value → Shared → Prop} (hit : IsC s.heap it pool st last i j) (h : Q (.ref it) s) : wpAny (model prog w) A (pyIter (.ref it)) Q E s := by
  have hT : s.TypeIs (.ref it) "itertools.combinations" := ⟨_, hit, rfl⟩
  refine wpAny_pyIter_slot hT cIter (wpAny_call_entry cIter hT cEntryIter ?_ (cArgsIter _))
  show wpAny _ _ (ret (.ref it)) _ _ s
  exact wpAny_pure ⟨_, rfl, "itertools.combinations", _, hT, cNext.lookup, h⟩

theorem apart {h : Heap} {it pool : Addr} {st i j : Int} {last : Value} {items : Array Value} (hit : IsC h it pool st last i j) (hp : h.get? pool = some (tupO items)) : it ≠ pool := fun e => by
  rw [e] at hit
  have z : Value.type "tuple" = Value.type "itertools.combinations" := congrArg Obj.cls (Option.some.inj (hp.symm.trans hit))
  exact absurd (Value.type.inj z) (by decide)
/-- what is handed out is laid, then held by the record -/
theorem handed {h U : Heap} {it pool : Addr} {last : Value} {i j : Int} {xs : Array Value} (hU : IsC U it pool 1 last i j) (keep : ∀ b, b ≠ it → U.get? b = h.get? b) (sz : U.objs.size = h.objs.size) :
    (∀ b, b ≠ it → ∀ u, h.get? b = some u → ((U.push (tupO xs)).update it (Obj.mapFields fun x => x.setIfInBounds 2 (.ref U.objs.size))).get? b = some u) ∧
    ((U.push (tupO xs)).update it (Obj.mapFields fun x => x.setIfInBounds 2 (.ref U.objs.size))).get? h.objs.size = some (tupO xs) ∧
    IsC ((U.push (tupO xs)).update it (Obj.mapFields fun x => x.setIfInBounds 2 (.ref U.objs.size))) it pool 1 (.ref h.objs.size) i j := by
  have lt : it < U.objs.size := Heap.lt_size hU
  refine ⟨fun b ne u q => ?_, ?_, ?_⟩
  · exact (Heap.get?_update_other _ _ ne.symm).trans (Heap.get?_push_of_some _ ((keep b ne).trans q))
  · rw [← sz]
    exact (Heap.get?_update_other _ _ (Nat.ne_of_lt lt)).trans (Heap.get?_push_size _ rfl)
  · rw [← sz]
    exact Heap.get?_update_self _ (Heap.get?_push_of_some _ hU) rfl
theorem next_first {it pool : Addr} {last : Value} {items : Array Value} {n : Nat} {Q : Option Value → Shared → Prop} (hit : IsC s.heap it pool 0 last 0 1) (hp : s.heap.get? pool = some (tupO items)) (h2 : 2 ≤ items.size)
    (hQ : ∀ h', (∀ b, b ≠ it → ∀ u, s.heap.get? b = some u → h'.get? b = some u) → h'.get? s.heap.objs.size = some (tupO #[items.getD 0 .none, items.getD 1 .none]) → IsC h' it pool 1 (.ref s.heap.objs.size) 0 1 → Q (some (.ref s.heap.objs.size)) { s with heap := h' }) :
    wpAny (model prog w) A (pyNext (.ref it)) Q E s := by
  have hT : s.TypeIs (.ref it) "itertools.combinations" := ⟨_, hit, rfl⟩
  unfold pyNext
  refine wpAny_bind (wpAny_attempt (wpAny_callSpecial?_slot (name := Str.ofString "__next__") hT cNext (wpAny_call_entry cNext hT cEntryNext ?_ (cArgsNext _))))
  unfold Builtin.«itertools.combinations.__next__»
  have nip := apart hit hp
  have hp1 : (s.heap.update it (Obj.mapFields fun x => x.setIfInBounds 1 (rawInt 1))).get? pool = some (tupO items) := (Heap.get?_update_other _ _ nip).trans hp
  have hit1 : IsC (s.heap.update it (Obj.mapFields fun x => x.setIfInBounds 1 (rawInt 1))) it pool 1 last 0 1 := Heap.get?_update_self _ hit rfl
  repeat wp_step
  obtain ⟨q1, q2, q3⟩ := handed (xs := #[items.getD 0 .none, items.getD 1 .none]) hit1 (h := s.heap) (fun b ne => Heap.get?_update_other _ _ ne.symm) (Heap.size_update ..)
  refine ⟨_, rfl, wpAny_pure ?_⟩
  have z := hQ _ q1 q2 q3
  rw [show (s.heap.update it (Obj.mapFields fun x => x.setIfInBounds 1 (rawInt 1))).objs.size = s.heap.objs.size from Heap.size_update ..] at z ⊢
  exact z
end
end Comb

namespace Comb
open PySem PySem.Spec
open Sem (wp)
section
variable {prog : Program} {w : World} {A : Around} {E : Value → Shared → Prop} {s : Shared}
theorem next_more {it pool : Addr} {last : Value} {items : Array Value} {i j i' j' : Nat} {Q : Option Value → Shared → Prop} (hit : IsC s.heap it pool 1 last i j) (hp : s.heap.get? pool = some (tupO items))
    (hn : (match (List.range 2).reverse.find? fun k => [i, j].getD k 0 != k + items.size - 2 with | none => none | some k => some ([i, j].take k ++ (List.range (2 - k)).map ([i, j].getD k 0 + 1 + ·))) = some [i', j'])
    (hQ : ∀ h', (∀ b, b ≠ it → ∀ u, s.heap.get? b = some u → h'.get? b = some u) → h'.get? s.heap.objs.size = some (tupO #[items.getD i' .none, items.getD j' .none]) → IsC h' it pool 1 (.ref s.heap.objs.size) i' j' → Q (some (.ref s.heap.objs.size)) { s with heap := h' }) :
    wpAny (model prog w) A (pyNext (.ref it)) Q E s := by
  have hT : s.TypeIs (.ref it) "itertools.combinations" := ⟨_, hit, rfl⟩
  unfold pyNext
  refine wpAny_bind (wpAny_attempt (wpAny_callSpecial?_slot (name := Str.ofString "__next__") hT cNext (wpAny_call_entry cNext hT cEntryNext ?_ (cArgsNext _))))
  unfold Builtin.«itertools.combinations.__next__»
  repeat wp_step
  split
  · rename_i next hnx
    obtain rfl : next = [i', j'] := Option.some.inj (hnx.symm.trans hn)
    have nip := apart hit hp
    have hp1 : (s.heap.update it (Obj.mapFields fun x => x.extract 0 3 ++ (List.map (fun (n : Nat) => rawInt n) [i', j']).toArray)).get? pool = some (tupO items) := (Heap.get?_update_other _ _ nip).trans hp
    have hit1 : IsC (s.heap.update it (Obj.mapFields fun x => x.extract 0 3 ++ (List.map (fun (n : Nat) => rawInt n) [i', j']).toArray)) it pool 1 last i' j' := Heap.get?_update_self _ hit rfl
    repeat wp_step
    obtain ⟨q1, q2, q3⟩ := handed (xs := #[items.getD i' .none, items.getD j' .none]) hit1 (h := s.heap) (fun b ne => Heap.get?_update_other _ _ ne.symm) (Heap.size_update ..)
    refine ⟨_, rfl, wpAny_pure ?_⟩
    have z := hQ _ q1 q2 q3
    rw [show (s.heap.update it (Obj.mapFields fun x => x.extract 0 3 ++ (List.map (fun (n : Nat) => rawInt n) [i', j']).toArray)).objs.size = s.heap.objs.size from Heap.size_update ..] at z ⊢
    exact z
  · rename_i hnx
    cases hnx.symm.trans hn
theorem next_end {it pool : Addr} {last : Value} {items : Array Value} {i j : Nat} {Q : Option Value → Shared → Prop} (hh : A.handled = none) (hit : IsC s.heap it pool 1 last i j) (hp : s.heap.get? pool = some (tupO items))
    (hn : (match (List.range 2).reverse.find? fun k => [i, j].getD k 0 != k + items.size - 2 with | none => none | some k => some ([i, j].take k ++ (List.range (2 - k)).map ([i, j].getD k 0 + 1 + ·))) = none)
    (hQ : ∀ h', Heap.ExtBut it s.heap h' → Q none { s with heap := h' }) : wpAny (model prog w) A (pyNext (.ref it)) Q E s := by
  have hT : s.TypeIs (.ref it) "itertools.combinations" := ⟨_, hit, rfl⟩
  unfold pyNext
  refine wpAny_bind (wpAny_attempt (wpAny_callSpecial?_slot (name := Str.ofString "__next__") hT cNext (wpAny_call_entry cNext hT cEntryNext ?_ (cArgsNext _))))
  unfold Builtin.«itertools.combinations.__next__»
  repeat wp_step
  split
  · rename_i next hnx
    cases hn.symm.trans hnx
  · repeat wp_step
    simp only [raiseNew]; refine wpAny_bind (wpAny_handled ?_); rw [show A.in1.handled = none from hh]
    refine wpAny_bind (wpAny_pure (wpAny_throw ?_)); refine wpAny_bind (wpAny_isInstance (T := "StopIteration") (b := true) ⟨_, Heap.get?_push_size _ rfl, rfl⟩ isSubtype_stop ?_)
    exact wpAny_pure (hQ _ (fun b u ne q => Heap.get?_push_of_some _ (Heap.get?_push_of_some _ ((Heap.get?_update_other _ _ (Ne.symm ne)).trans q))))
theorem next_none {it pool : Addr} {last : Value} {items : Array Value} {i j : Nat} {Q : Option Value → Shared → Prop} (hh : A.handled = none) (hit : IsC s.heap it pool 2 last i j) (hp : s.heap.get? pool = some (tupO items))
    (hQ : ∀ h', Heap.ExtBut it s.heap h' → Q none { s with heap := h' }) : wpAny (model prog w) A (pyNext (.ref it)) Q E s := by
  have hT : s.TypeIs (.ref it) "itertools.combinations" := ⟨_, hit, rfl⟩
  unfold pyNext
  refine wpAny_bind (wpAny_attempt (wpAny_callSpecial?_slot (name := Str.ofString "__next__") hT cNext (wpAny_call_entry cNext hT cEntryNext ?_ (cArgsNext _))))
  unfold Builtin.«itertools.combinations.__next__»
  repeat wp_step
  simp only [raiseNew]; refine wpAny_bind (wpAny_handled ?_); rw [show A.in1.handled = none from hh]
  refine wpAny_bind (wpAny_pure (wpAny_throw ?_)); refine wpAny_bind (wpAny_isInstance (T := "StopIteration") (b := true) ⟨_, Heap.get?_push_size _ rfl, rfl⟩ isSubtype_stop ?_)
  exact wpAny_pure (hQ _ (((Heap.ExtBut.refl it s.heap).push _).push _))
end
end Comb

namespace Comb
open PySem PySem.Spec PyProof.Rows L2
/-! ### the pairs of places, in their sequence -/
def rows : Nat → Nat → List (Nat × Nat)
  | 0, _ => []
  | k + 1, i => (List.range (k + 1)).map (fun d => (i, i + 1 + d)) ++ rows k (i + 1)
def prs (n : Nat) : List (Nat × Nat) := rows (n - 1) 0
def nx (n i j : Nat) : Option (Nat × Nat) := if j + 1 < n then some (i, j + 1) else if i + 2 < n then some (i + 1, i + 2) else none
theorem rows_zero (k i : Nat) : (rows (k + 1) i)[0]? = some (i, i + 1) := by
  unfold rows
  rw [List.getElem?_append_left (by rw [List.length_map, List.length_range]; omega), List.getElem?_map, List.getElem?_range (Nat.succ_pos k)]
  rfl
theorem rows_step : ∀ (k i t a b : Nat), (rows k i)[t]? = some (a, b) → a < b ∧ b < i + 1 + k ∧ (rows k i)[t + 1]? = nx (i + 1 + k) a b
  | 0, _, _, _, _, h => by
    unfold rows at h
    rw [List.getElem?_nil] at h
    cases h
  | k + 1, i, t, a, b, h => by
    unfold rows at h ⊢
    have len : ((List.range (k + 1)).map (fun d => (i, i + 1 + d))).length = k + 1 := by rw [List.length_map, List.length_range]
    rcases Nat.lt_or_ge t (k + 1) with lt | ge
    · rw [List.getElem?_append_left (by omega), List.getElem?_map, List.getElem?_range lt] at h
      have h' : (i, i + 1 + t) = (a, b) := Option.some.inj h
      obtain ⟨rfl, rfl⟩ := Prod.mk.inj h'
      refine ⟨by omega, by omega, ?_⟩
      rcases Nat.lt_or_ge (t + 1) (k + 1) with l2 | g2
      · rw [List.getElem?_append_left (by omega), List.getElem?_map, List.getElem?_range l2]
        unfold nx
        rw [if_pos (by omega)]
        rfl
      · have et : t = k := by omega
        subst et
        rw [List.getElem?_append_right (by omega), len, Nat.sub_self]
        unfold nx
        rw [if_neg (by omega)]
        cases t with
        | zero =>
          rw [if_neg (by omega)]
          rfl
        | succ m =>
          rw [if_pos (by omega)]
          exact rows_zero m (i + 1)
    · rw [List.getElem?_append_right (by omega), len] at h
      obtain ⟨h1, h2, h3⟩ := rows_step k (i + 1) (t - (k + 1)) a b h
      refine ⟨h1, by omega, ?_⟩
      rw [List.getElem?_append_right (by omega), len, show t + 1 - (k + 1) = t - (k + 1) + 1 by omega, h3]
      congr 1
      omega
theorem prs_step {n t a b : Nat} (h : (prs n)[t]? = some (a, b)) : a < b ∧ b < n ∧ (prs n)[t + 1]? = nx n a b := by
  obtain ⟨h1, h2, h3⟩ := rows_step (n - 1) 0 t a b h
  have hn : 0 + 1 + (n - 1) = n := by omega
  rw [hn] at h2 h3
  exact ⟨h1, h2, h3⟩
theorem rows_mem : ∀ (k i a b : Nat), (a, b) ∈ rows k i ↔ i ≤ a ∧ a < b ∧ b < i + 1 + k
  | 0, i, a, b => by
    unfold rows
    constructor
    · intro h
      cases h
    · rintro ⟨h1, h2, h3⟩
      omega
  | k + 1, i, a, b => by
    unfold rows
    rw [List.mem_append, rows_mem k (i + 1) a b, List.mem_map]
    constructor
    · rintro (⟨d, hd, e⟩ | h)
      · have := List.mem_range.mp hd
        obtain ⟨rfl, rfl⟩ := Prod.mk.inj e
        omega
      · omega
    · rintro ⟨h1, h2, h3⟩
      rcases Nat.eq_or_lt_of_le h1 with e | l
      · exact .inl ⟨b - (i + 1), List.mem_range.mpr (by omega), by rw [← e]; congr 1; omega⟩
      · exact .inr ⟨l, h2, by omega⟩
theorem prs_mem {n a b : Nat} : (a, b) ∈ prs n ↔ a < b ∧ b < n := by
  unfold prs
  rw [rows_mem]
  omega
theorem rows_len : ∀ k i, (rows k i).length ≤ k * k
  | 0, i => Nat.zero_le _
  | k + 1, i => by
    unfold rows
    rw [List.length_append, List.length_map, List.length_range]
    have := rows_len k (i + 1)
    have e : (k + 1) * (k + 1) = k * k + k + (k + 1) := by rw [Nat.succ_mul, Nat.mul_succ]
    omega
theorem prs_none {n : Nat} (h : n < 2) : prs n = [] := by
  unfold prs
  rw [show n - 1 = 0 by omega]
  rfl
theorem prs_zero {n : Nat} (h : 2 ≤ n) : (prs n)[0]? = some (0, 1) := by
  unfold prs
  obtain ⟨m, rfl⟩ : ∃ m, n = m + 2 := ⟨n - 2, by omega⟩
  exact rows_zero m 0
/-- the model's own step is this one -/
theorem nx_some {n i j a b : Nat} (hi : i < j) (hj : j < n) (h : nx n i j = some (a, b)) :
    (match (List.range 2).reverse.find? fun k => [i, j].getD k 0 != k + n - 2 with | none => none | some k => some ([i, j].take k ++ (List.range (2 - k)).map ([i, j].getD k 0 + 1 + ·))) = some [a, b] := by
  have e : (List.range 2).reverse = [1, 0] := rfl
  rw [e]
  unfold nx at h
  by_cases h1 : j + 1 < n
  · rw [if_pos h1] at h
    cases h
    have z : ([i, j].getD 1 0 != 1 + n - 2) = true := by
      show (j != 1 + n - 2) = true
      rw [bne_iff_ne]
      omega
    rw [List.find?_cons_of_pos (p := fun k => [i, j].getD k 0 != k + n - 2) (a := 1) z]
    rfl
  · rw [if_neg h1] at h
    have z : ¬ ([i, j].getD 1 0 != 1 + n - 2) = true := by
      show ¬ (j != 1 + n - 2) = true
      rw [bne_iff_ne]
      omega
    by_cases h2 : i + 2 < n
    · rw [if_pos h2] at h
      cases h
      have z2 : ([i, j].getD 0 0 != 0 + n - 2) = true := by
        show (i != 0 + n - 2) = true
        rw [bne_iff_ne]
        omega
      rw [List.find?_cons_of_neg (p := fun k => [i, j].getD k 0 != k + n - 2) (a := 1) z, List.find?_cons_of_pos (p := fun k => [i, j].getD k 0 != k + n - 2) (a := 0) z2]
      rfl
    · rw [if_neg h2] at h
      cases h
theorem nx_none {n i j : Nat} (hi : i < j) (hj : j < n) (h : nx n i j = none) :
    (match (List.range 2).reverse.find? fun k => [i, j].getD k 0 != k + n - 2 with | none => none | some k => some ([i, j].take k ++ (List.range (2 - k)).map ([i, j].getD k 0 + 1 + ·))) = none := by
  have e : (List.range 2).reverse = [1, 0] := rfl
  rw [e]
  unfold nx at h
  by_cases h1 : j + 1 < n
  · rw [if_pos h1] at h
    cases h
  · rw [if_neg h1] at h
    by_cases h2 : i + 2 < n
    · rw [if_pos h2] at h
      cases h
    · have z : ¬ ([i, j].getD 1 0 != 1 + n - 2) = true := by
        show ¬ (j != 1 + n - 2) = true
        rw [bne_iff_ne]
        omega
      have z2 : ¬ ([i, j].getD 0 0 != 0 + n - 2) = true := by
        show ¬ (i != 0 + n - 2) = true
        rw [bne_iff_ne]
        omega
      rw [List.find?_cons_of_neg (p := fun k => [i, j].getD k 0 != k + n - 2) (a := 1) z, List.find?_cons_of_neg (p := fun k => [i, j].getD k 0 != k + n - 2) (a := 0) z2]
      rfl
end Comb

namespace Comb
open PySem PySem.Spec PyProof.Rows L2
/-- the pairs of these values, as new tuples -/
def Itcb (xs : List V) : It :=
  ⟨fun t _ => t < (prs xs.length).length,
    fun t H v H' => ∃ T i j x y, v = .ref T ∧ H T = none ∧ H' = upd H T (.tup [x, y]) ∧ (prs xs.length)[t]? = some (i, j) ∧ xs[i]? = some x ∧ xs[j]? = some y,
    fun t _ => (prs xs.length).length ≤ t⟩
def Stt (it pool : Addr) (items : Array Value) (t : Nat) (h : Heap) : Prop :=
  h.get? pool = some (tupO items) ∧ ((t = 0 ∧ IsC h it pool (if 2 > items.size then 2 else 0) .none 0 1) ∨ ∃ (u i j : Nat) (last : Value), t = u + 1 ∧ (prs items.size)[u]? = some (i, j) ∧ IsC h it pool 1 last i j)
theorem turn_comb {P : Program} {w : World} {K : PySem.W.Frag} {tg : Expr} {xs : List V} {its : List Value} (rv : Vals xs its) (it pool : Addr) (lt : pool < it) : Turn P w K tg (Itcb xs) [it, pool] it (Stt it pool its.toArray) where
  mem := by simp
  obj := fun t h st b hb => by
    obtain ⟨hp, st⟩ := st
    have e : b = it ∨ b = pool := by simpa using hb
    rcases e with e | e
    · rw [e]
      rcases st with ⟨_, c⟩ | ⟨_, _, _, _, _, _, c⟩ <;> exact ⟨_, c, fun v q => nomatch q⟩
    · rw [e]
      exact ⟨_, hp, fun v q => nomatch q⟩
  keep := fun t h h' st k => by
    obtain ⟨hp, st⟩ := st
    refine ⟨k pool (by simp) _ hp, ?_⟩
    rcases st with ⟨e, c⟩ | ⟨u, i, j, last, e, hu, c⟩
    · exact .inl ⟨e, k it (by simp) _ c⟩
    · exact .inr ⟨u, i, j, last, e, hu, k it (by simp) _ c⟩
  item := by
    intro X hP hw hK hc t pins s σ H E I hf st hg
    subst hP hw hK
    obtain ⟨hp, st⟩ := st
    have len := rv.length
    have sz : its.toArray.size = xs.length := by rw [List.size_toArray, len]
    -- what comes of the pair (i, j)
    have out : ∀ (i j : Nat) (h' : Heap), (prs xs.length)[t]? = some (i, j) → (∀ b, b ≠ it → ∀ u, s.heap.get? b = some u → h'.get? b = some u) → h'.get? s.heap.objs.size = some (tupO #[its.toArray.getD i .none, its.toArray.getD j .none]) →
        IsC h' it pool 1 (.ref s.heap.objs.size) i j → ∃ u, some (Value.ref s.heap.objs.size) = some u ∧
        wpAny (model X.prog X.w) X.A (letOwnedTupleGo tg (.ref it) u) (fun _ s2 => ∃ x H', Inv X pins σ H' s2 ∧ RelV x u ∧ (Itcb xs).yld t H x H' ∧ Stt it pool its.toArray (t + 1) s2.heap ∧ ∀ b ∈ [it, pool], H' b = none) E { s with heap := h' } := by
      intro i j h' ht keep new rec
      obtain ⟨l1, l2, _⟩ := prs_step ht
      have hx : xs[i]? = some xs[i] := List.getElem?_eq_getElem (by omega)
      have hy : xs[j]? = some xs[j] := List.getElem?_eq_getElem (by omega)
      obtain ⟨u1, hu1, r1⟩ := rv.get hx
      obtain ⟨u2, hu2, r2⟩ := rv.get hy
      have g1 : its.toArray.getD i .none = u1 := by
        rw [Array.getD_eq_getD_getElem?, List.getElem?_toArray, hu1]
        rfl
      have g2 : its.toArray.getD j .none = u2 := by
        rw [Array.getD_eq_getD_getElem?, List.getElem?_toArray, hu2]
        rfl
      rw [g1, g2] at new
      have obj : ObjOk X.prog X.w (upd H s.heap.objs.size (.tup [xs[i], xs[j]])) h' s.heap.objs.size (.tup [xs[i], xs[j]]) :=
        ⟨by show 2 ≤ sizeLine; decide, [u1, u2], .cons r1 (.cons r2 .nil), ⟨_, new, rfl, _, rfl⟩⟩
      have I1 : Inv X pins σ (upd H s.heap.objs.size (.tup [xs[i], xs[j]])) { s with heap := h' } :=
        I.turnedNew (t' := s.toks) (ch := [it, pool]) (fun c o hb q => keep c (fun z => hb (by simp [z])) o q) hf (Nat.le_refl _) obj
      refine ⟨_, rfl, go_of (s := { s with heap := h' }) rec rfl rfl (by decide) ⟨.ref s.heap.objs.size, _, I1, rfl, ⟨_, i, j, _, _, rfl, I.hok.fresh (Nat.le_refl _), rfl, ht, hx, hy⟩, ⟨keep pool (Nat.ne_of_lt lt) _ hp, .inr ⟨t, i, j, _, rfl, by rw [sz]; exact ht, rec⟩⟩, fun c hcm => ?_⟩⟩
      have small : c < s.heap.objs.size := by
        have e : c = it ∨ c = pool := by simpa using hcm
        have hit : it < s.heap.objs.size := by
          rcases st with ⟨_, c⟩ | ⟨_, _, _, _, _, _, c⟩ <;> exact Heap.lt_size c
        rcases e with e | e
        · rw [e]; exact hit
        · rw [e]; exact Nat.lt_trans lt hit
      rw [upd_ne (Nat.ne_of_lt small)]
      exact (hf c hcm).1
    have hg' : t < (prs xs.length).length := hg
    obtain ⟨⟨i, j⟩, hij⟩ : ∃ q, (prs xs.length)[t]? = some q := ⟨_, List.getElem?_eq_getElem hg'⟩
    rcases st with ⟨e, c⟩ | ⟨u, i0, j0, last, e, hu, c⟩
    · subst e
      have h2 : 2 ≤ xs.length := by
        rcases Nat.lt_or_ge xs.length 2 with z | z
        · rw [prs_none z] at hg'
          cases hg'
        · exact z
      rw [prs_zero h2] at hij
      cases hij
      rw [sz, if_neg (by omega)] at c
      exact next_first (n := 0) c hp (by rw [sz]; exact h2) fun h' k new rec => out 0 1 h' (prs_zero h2) k new rec
    · subst e
      rw [sz] at hu
      obtain ⟨l1, l2, l3⟩ := prs_step hu
      refine next_more c hp (nx_some l1 (by rw [sz]; exact l2) (by rw [sz, ← l3]; exact hij)) fun h' k new rec => out i j h' hij k new rec
  done := by
    intro X hP hw hK hc t pins s σ H E I hf st hg
    subst hP hw hK
    obtain ⟨hp, st⟩ := st
    have len := rv.length
    have sz : its.toArray.size = xs.length := by rw [List.size_toArray, len]
    have hg' : (prs xs.length).length ≤ t := hg
    obtain ⟨f0, f1, f2, f3, f4, f5⟩ := hf it (by simp)
    have fin : ∀ h', Heap.ExtBut it s.heap h' → (none : Option Value) = none ∧ Inv X pins σ H { s with heap := h' } := fun h' eb => ⟨rfl, I.turned (t' := s.toks) (fun b o hb e => eb b o hb e) f0 f1 f3 f4 f5⟩
    rcases st with ⟨e, c⟩ | ⟨u, i0, j0, last, e, hu, c⟩
    · subst e
      have h2 : xs.length < 2 := by
        rcases Nat.lt_or_ge xs.length 2 with z | z
        · exact z
        · have := prs_zero z
          rw [List.getElem?_eq_none hg'] at this
          cases this
      rw [sz, if_pos (by omega)] at c
      exact next_none (i := 0) (j := 1) (I.ok.hd hc) c hp fin
    · subst e
      rw [sz] at hu
      obtain ⟨l1, l2, l3⟩ := prs_step hu
      rw [List.getElem?_eq_none hg'] at l3
      exact next_end (I.ok.hd hc) c hp (nx_none l1 (by rw [sz]; exact l2) (by rw [sz]; exact l3.symm)) fin
  self := fun A t s Q E st h => by
    obtain ⟨hp, st⟩ := st
    rcases st with ⟨_, c⟩ | ⟨_, _, _, _, _, _, c⟩ <;> exact iter_comb c h

section
variable {X : Cx} {tg : Expr}
def iComb (K : PySem.W.Frag) (ta : TA) : TI := fun σ H R => ta σ H fun vs H1 => ∃ a xs, vs = [.ref a, .int 2] ∧ SqL K H1 a xs ∧ R (Itcb xs) H1
theorem pi_comb {x : Str} {e e2 : Expr} {ta : TA} {p pos : Pos} (hg : Gl X x) (hm : X.mg x = some (.type "itertools.combinations")) (ha : PA X [e, e2] ta) (hdb : (x == ("__debug__" : Str)) = false := by decide)
    (hs : starEach [e, e2] X.env = (false, eval e X.env) :: starEach [e2] X.env := by rfl) (hpl : (backTo pos (starEach [e2] X.env)).any (·.1) = false := by rfl) :
    PI X tg (.Call (.Name x p) [e, e2] [] pos) (iComb X.K ta) := by
  refine ⟨fun pins s σ H R I h => ?_⟩
  refine wpAny_Call_Name_kw (ld_glob I hg hm ?_ hdb)
  refine PyProof.Rows.callWith_type1 (thn (ha.run pos pins s σ H _ I h) fun us s1 ⟨vs, H1, I1, r1, q1⟩ => ?_) hs hpl
  obtain ⟨a, xs, rfl, hq, q⟩ := q1
  obtain ⟨u1, u2, rfl, e1, ⟨t, rfl⟩⟩ := vals2 r1
  obtain rfl : u1 = Value.ref a := e1
  obtain ⟨its, rv, ⟨o, n, ho, hcl, hne, hda⟩, hz⟩ := I1.list hq
  have len := rv.length
  refine call_comb ho hcl hda (by rw [List.size_toArray, ← len]; exact hz) fun h1 keep => ?_
  have J0 : Inv X pins σ H1 { s1 with heap := h1 } := I1.kept (t' := s1.toks) keep
  have sz1 : (h1.push (tupO its.toArray)).objs.size = h1.objs.size + 1 := Heap.size_push ..
  have g1 : ((h1.push (tupO its.toArray)).push (recC h1.objs.size (if 2 > its.toArray.size then 2 else 0) .none 0 1)).get? h1.objs.size = some (tupO its.toArray) := Heap.get?_push_of_some _ (Heap.get?_push_size _ rfl)
  have g2 : ((h1.push (tupO its.toArray)).push (recC h1.objs.size (if 2 > its.toArray.size then 2 else 0) .none 0 1)).get? (h1.objs.size + 1) = some (recC h1.objs.size (if 2 > its.toArray.size then 2 else 0) .none 0 1) := by
    rw [← sz1]
    exact Heap.get?_push_size _ rfl
  refine iter_comb (s := { s1 with heap := _ }) g2 ?_
  have J1 : Inv X pins σ H1 { s1 with heap := (h1.push (tupO its.toArray)).push (recC h1.objs.size (if 2 > its.toArray.size then 2 else 0) .none 0 1) } :=
    I1.kept (t' := s1.toks) fun b o z => Heap.get?_push_of_some _ (Heap.get?_push_of_some _ (keep b o z))
  refine ⟨h1.objs.size + 1, [h1.objs.size + 1, h1.objs.size], _, _, H1, rfl, J1, turn_comb rv (h1.objs.size + 1) h1.objs.size (Nat.lt_succ_self _), ⟨g1, .inl ⟨rfl, g2⟩⟩, fun b hb => ?_, q⟩
  have low : h1.objs.size ≤ b := by
    have e : b = h1.objs.size + 1 ∨ b = h1.objs.size := by simpa using hb
    rcases e with e | e
    · rw [e]; exact Nat.le_succ _
    · rw [e]; exact Nat.le_refl _
  exact J0.fpOk low (J0.hok.fresh low)

/-- a comprehension over the pairs -/
theorem lc_comb {xs : List V} {g : TG} {tt : TT} {te : TE} {vs : List Nat} {σ : L2.St} {H1 : Hp} {D : Addr} {Qd : Hp → Prop} (Pv : Nat → Hp → Prop) (h0 : Pv 0 (upd H1 D (.lst [])))
    (hs : ∀ (t i j : Nat) (x y : V) (T : Addr) (H : Hp), (prs xs.length)[t]? = some (i, j) → xs[i]? = some x → xs[j]? = some y → Pv t H → H T = none → g (.ref T) (wipe σ vs) (upd H T (.tup [x, y])) fun σ2 H2 => wipe σ2 vs = wipe σ vs ∧ tt σ2 H2 fun b H3 =>
      if b = true then te σ2 H3 fun y H4 => ∃ acc, H4 D = some (.lst acc) ∧ acc.length < sizeLine ∧ Pv (t + 1) (upd H4 D (.lst (acc ++ [y]))) else Pv (t + 1) H3) (hd : ∀ H, Pv (prs xs.length).length H → Qd H) :
    ∃ W : Nat → Nat → Hp → Prop, (∃ m, W 0 m (upd H1 D (.lst []))) ∧ ∀ t m H, W t m H →
      ((Itcb xs).stop t H ∧ Qd H) ∨ ((Itcb xs).go t H ∧ ∃ Nx : Hp → Prop, (∀ H', Nx H' → ∃ m', m' < m ∧ W (t + 1) m' H') ∧ ∀ x H', (Itcb xs).yld t H x H' → g x (wipe σ vs) H' fun σ2 H2 => wipe σ2 vs = wipe σ vs ∧ tt σ2 H2 fun b H3 =>
        if b = true then te σ2 H3 fun y H4 => ∃ acc, H4 D = some (.lst acc) ∧ acc.length < sizeLine ∧ Nx (upd H4 D (.lst (acc ++ [y]))) else Nx H3) := by
  refine ⟨fun t m H => m = (prs xs.length).length - t ∧ t ≤ (prs xs.length).length ∧ Pv t H, ⟨_, rfl, Nat.zero_le _, h0⟩, ?_⟩
  rintro t m H ⟨rfl, ht, pv⟩
  rcases Nat.lt_or_ge t (prs xs.length).length with lt | ge
  · refine .inr ⟨lt, Pv (t + 1), fun H' p' => ⟨(prs xs.length).length - (t + 1), by omega, rfl, lt, p'⟩, fun v H' y => ?_⟩
    obtain ⟨T, i, j, a, b, rfl, hT, rfl, h1, h2, h3⟩ := y
    exact hs t i j a b T H h1 h2 h3 pv hT
  · have e : t = (prs xs.length).length := by omega
    subst e
    exact .inl ⟨Nat.le_refl _, hd H pv⟩
end
end Comb

namespace SortR
open PySem PySem.Spec PyProof.Rows L2 PySem.W
/-- lists of ints by their sequence -/
def rowLe (p q : Addr × List Int) : Bool := decide (p.2 ≤ q.2)
theorem enc_alike (p q : Addr × List Int) : alike (PyData.list (p.2.map .int)) (PyData.list (q.2.map .int)) = true := by
  simp only [alike]
  exact alike_ints p.2 q.2
theorem rows_dp {K : PySem.W.Frag} {H : Hp} : ∀ ns : List Int, DpAll K H (ns.map V.int) (ns.map PyData.int)
  | [] => .nil
  | n :: ns => .cons (.int n) (rows_dp ns)
theorem vals_each {h : Heap} {K : PySem.W.Frag} {H : Hp} {P : Addr × List Int → Prop} : ∀ {bs : List (Addr × List Int)} {us : List Value}, Vals (bs.map fun b => V.ref b.1) us → (∀ b ∈ bs, P b) → EachIs (fun v b => v = Value.ref b.1 ∧ P b) us bs
  | [], us, r, _ => by
    cases r
    exact .nil
  | b :: bs, us, r, hp => by
    cases r with
    | cons r1 r2 =>
      have e : _ = Value.ref b.1 := r1
      exact .cons ⟨e, hp b List.mem_cons_self⟩ (vals_each (h := h) (K := K) (H := H) r2 fun c hc => hp c (List.mem_cons_of_mem _ hc))
theorem each_back {P : Addr × List Int → Prop} : ∀ {us : List Value} {bs : List (Addr × List Int)}, EachIs (fun v b => v = Value.ref b.1 ∧ P b) us bs → Vals (bs.map fun b => V.ref b.1) us
  | _, _, .nil => .nil
  | _, _, .cons h t => .cons h.1 (each_back t)
theorem each_mono {α β : Type} {R S : α → β → Prop} : ∀ {as : List α} {bs : List β}, EachIs R as bs → (∀ a b, R a b → S a b) → EachIs S as bs
  | _, _, .nil, _ => .nil
  | _, _, .cons h t, f => .cons (f _ _ h) (each_mono t f)
section
variable {X : Cx}
/-- sorted(xs), xs a list of lists of ints, of any length -/
theorem call_sortedR (hu : X.A.units + 64 < cLine) : CallR X (.builtin "sorted") (fun xs H Q => ∃ (a : Addr) (bs : List (Addr × List Int)), xs = [V.ref a] ∧ SqL X.K H a (bs.map fun b => V.ref b.1) ∧ (∀ b ∈ bs, SqL X.K H b.1 (b.2.map V.int)) ∧
    ∀ p, H p = none → Q (.ref p) (upd H p (.lst ((bs.mergeSort rowLe).map fun b => V.ref b.1)))) := by
  intro pins s σ H xs us Q I r h
  obtain ⟨a, bs, rfl, hs, hb, q⟩ := h
  obtain ⟨u, rfl, ru⟩ := vals1 r
  obtain rfl : u = Value.ref a := ru
  obtain ⟨its, rv, hl, hz⟩ := I.list hs
  have each : EachIs (fun v b => v = Value.ref b.1 ∧ SqL X.K H b.1 (b.2.map V.int)) its bs := vals_each (h := s.heap) (K := X.K) (H := H) rv hb
  have len : its.length = bs.length := by rw [← rv.length, List.length_map]
  have each2 : EachIs (fun v (b : Addr × List Int) => ∃ as, Reads s.heap v (PyData.list (b.2.map .int)) as) its bs := each_mono each fun v b ⟨e, hq⟩ => by
    rw [e]
    exact Dp.reads I (PyData.list (b.2.map .int)) (.ref b.1) (.ref b.1) (.lst hq (rows_dp b.2)) rfl
  have le : dataLe false (fun b : Addr × List Int => PyData.list (b.2.map .int)) = rowLe := dataLe_rows (fun b : Addr × List Int => b.2)
  refine sorted_data (enc := fun b : Addr × List Int => PyData.list (b.2.map .int)) hl.isList each each2 (AllAlike.of enc_alike) (Sortable.others fun b => ⟨(fun z => nomatch z), fun xs z => nomatch z⟩) (by rw [← len]; rw [List.length_map] at hz; rw [len]; exact hz) (fun b _ => by
    have d : (PyData.list (b.2.map .int)).depth = 1 := by
      simp only [PyData.depth, depth_ints]
    rw [d]
    omega) fun out ho each3 => ?_
  rw [le] at each3
  have back := each_back each3
  obtain ⟨n, hn⟩ := sortedAll_at s.heap its out.toArray
  refine ⟨.ref (s.heap.objs.size + 1), upd H (s.heap.objs.size + 1) (.lst ((bs.mergeSort rowLe).map fun b => V.ref b.1)), I.laid (t' := s.toks) (fun b o e => sortedAll_old e) (Nat.le_succ _) ⟨?_, out, n, back, hn⟩, rfl, q _ (I.hok.fresh (Nat.le_succ _))⟩
  rw [List.length_map, List.length_mergeSort]
  rw [List.length_map] at hz
  exact hz
end
end SortR

namespace SortR
open PySem PySem.Spec PyProof.Rows L2 PySem.W
section
variable {X : Cx}
def rLtR (K : PySem.W.Frag) : R2 := fun x y H Q => ∃ (a b : Addr) (ns ms : List Int), x = .ref a ∧ y = .ref b ∧ SqL K H a (ns.map V.int) ∧ SqL K H b (ms.map V.int) ∧ Q (.bl (decide (ns < ms))) H
/-- xs < ys, two lists of ints -/
theorem op_ltR (hu : X.A.units + 64 < cLine) : OpR X (compareOp .Lt) (rLtR X.K) := by
  intro pins s σ H x y v u Q I rx ry h
  obtain ⟨a, b, ns, ms, rfl, rfl, hs, hm, q⟩ := h
  obtain ⟨as, r1⟩ := Dp.reads I (PyData.list (ns.map .int)) (.ref a) v (.lst hs (rows_dp ns)) rx
  obtain ⟨bs, r2⟩ := Dp.reads I (PyData.list (ms.map .int)) (.ref b) u (.lst hm (rows_dp ms)) ry
  have dep : (PyData.list (ns.map .int)).depth = 1 := by simp only [PyData.depth, depth_ints]
  have lt := rcLt_alike (PyData.list (ns.map .int)) (PyData.list (ms.map .int)) X.A s v u as bs r1 r2 (enc_alike (a, ns) (b, ms)) (fun z => nomatch z) (by rw [dep]; omega)
  have e : dataLt (PyData.list (ns.map .int)) (PyData.list (ms.map .int)) = decide (ns < ms) := by
    rw [dataLt_list]
    exact dataLt_ints ns ms
  rw [e] at lt
  exact lt _ _ _ _ ⟨.bl _, H, I, rfl, q⟩
/-- a comprehension over zip of two lists that stand still -/
theorem lc_zipL {K : PySem.W.Frag} {a b : Addr} {xs ys : List V} {g : TG} {tt : TT} {te : TE} {vs : List Nat} {σ : L2.St} {H1 : Hp} {D : Addr} {Qd : Hp → Prop} (Pv : Nat → Hp → Prop) (h0 : Pv 0 (upd H1 D (.lst []))) (hl : ∀ i H, Pv i H → SqL K H a xs ∧ SqL K H b ys)
    (hs : ∀ (i : Nat) (x y : V) (T : Addr) (H : Hp), xs[i]? = some x → ys[i]? = some y → Pv i H → H T = none → g (.ref T) (wipe σ vs) (upd H T (.tup [x, y])) fun σ2 H2 => wipe σ2 vs = wipe σ vs ∧ tt σ2 H2 fun b H3 =>
      if b = true then te σ2 H3 fun y H4 => ∃ acc, H4 D = some (.lst acc) ∧ acc.length < sizeLine ∧ Pv (i + 1) (upd H4 D (.lst (acc ++ [y]))) else Pv (i + 1) H3) (hd : ∀ H, Pv (min xs.length ys.length) H → Qd H) :
    ∃ W : Nat → Nat → Hp → Prop, (∃ m, W 0 m (upd H1 D (.lst []))) ∧ ∀ i m H, W i m H →
      ((Itz K a b).stop i H ∧ Qd H) ∨ ((Itz K a b).go i H ∧ ∃ Nx : Hp → Prop, (∀ H', Nx H' → ∃ m', m' < m ∧ W (i + 1) m' H') ∧ ∀ x H', (Itz K a b).yld i H x H' → g x (wipe σ vs) H' fun σ2 H2 => wipe σ2 vs = wipe σ vs ∧ tt σ2 H2 fun b H3 =>
        if b = true then te σ2 H3 fun y H4 => ∃ acc, H4 D = some (.lst acc) ∧ acc.length < sizeLine ∧ Nx (upd H4 D (.lst (acc ++ [y]))) else Nx H3) := by
  refine ⟨fun i m H => m = min xs.length ys.length - i ∧ i ≤ min xs.length ys.length ∧ Pv i H, ⟨_, rfl, Nat.zero_le _, h0⟩, ?_⟩
  rintro i m H ⟨rfl, hi, pv⟩
  obtain ⟨qx, qy⟩ := hl i H pv
  rcases Nat.lt_or_ge i (min xs.length ys.length) with lt | ge
  · have ex : xs[i]? = some xs[i] := List.getElem?_eq_getElem (by omega)
    have ey : ys[i]? = some ys[i] := List.getElem?_eq_getElem (by omega)
    refine .inr ⟨⟨xs, ys, _, _, qx, qy, ex, ey⟩, Pv (i + 1), fun H' p' => ⟨min xs.length ys.length - (i + 1), by omega, rfl, lt, p'⟩, fun v H' y => ?_⟩
    obtain ⟨T, x', y', rfl, hT, rfl, f1, f2⟩ := y
    exact hs i x' y' T H (f1 xs qx) (f2 ys qy) pv hT
  · have e : i = min xs.length ys.length := by omega
    subst e
    exact .inl ⟨⟨xs, ys, qx, qy, by omega⟩, hd H pv⟩
/-- a comprehension over enumerate of a list that stands still -/
theorem lc_enumL {K : PySem.W.Frag} {a : Addr} {xs : List V} {g : TG} {tt : TT} {te : TE} {vs : List Nat} {σ : L2.St} {H1 : Hp} {D : Addr} {Qd : Hp → Prop} (Pv : Nat → Hp → Prop) (h0 : Pv 0 (upd H1 D (.lst []))) (hl : ∀ i H, Pv i H → SqL K H a xs)
    (hs : ∀ (i : Nat) (x : V) (T : Addr) (H : Hp), xs[i]? = some x → Pv i H → H T = none → g (.ref T) (wipe σ vs) (upd H T (.tup [.int (i : Nat), x])) fun σ2 H2 => wipe σ2 vs = wipe σ vs ∧ tt σ2 H2 fun b H3 =>
      if b = true then te σ2 H3 fun y H4 => ∃ acc, H4 D = some (.lst acc) ∧ acc.length < sizeLine ∧ Pv (i + 1) (upd H4 D (.lst (acc ++ [y]))) else Pv (i + 1) H3) (hd : ∀ H, Pv xs.length H → Qd H) :
    ∃ W : Nat → Nat → Hp → Prop, (∃ m, W 0 m (upd H1 D (.lst []))) ∧ ∀ i m H, W i m H →
      ((Ite K a).stop i H ∧ Qd H) ∨ ((Ite K a).go i H ∧ ∃ Nx : Hp → Prop, (∀ H', Nx H' → ∃ m', m' < m ∧ W (i + 1) m' H') ∧ ∀ x H', (Ite K a).yld i H x H' → g x (wipe σ vs) H' fun σ2 H2 => wipe σ2 vs = wipe σ vs ∧ tt σ2 H2 fun b H3 =>
        if b = true then te σ2 H3 fun y H4 => ∃ acc, H4 D = some (.lst acc) ∧ acc.length < sizeLine ∧ Nx (upd H4 D (.lst (acc ++ [y]))) else Nx H3) := by
  refine ⟨fun i m H => m = xs.length - i ∧ i ≤ xs.length ∧ Pv i H, ⟨_, rfl, Nat.zero_le _, h0⟩, ?_⟩
  rintro i m H ⟨rfl, hi, pv⟩
  have qx := hl i H pv
  rcases Nat.lt_or_ge i xs.length with lt | ge
  · have ex : xs[i]? = some xs[i] := List.getElem?_eq_getElem lt
    refine .inr ⟨⟨xs, _, qx, ex⟩, Pv (i + 1), fun H' p' => ⟨xs.length - (i + 1), by omega, rfl, lt, p'⟩, fun v H' y => ?_⟩
    obtain ⟨T, x', rfl, hT, rfl, f1⟩ := y
    exact hs i x' T H (f1 xs qx) pv hT
  · have e : i = xs.length := by omega
    subst e
    exact .inl ⟨⟨xs, qx, Nat.le_refl _⟩, hd H pv⟩
end
end SortR

/-! Comprehensions without a test, by the value of each turn: what stood stands. -/
namespace LcM
open PySem PySem.Spec PyProof.Rows L2
/-- all that stood stands -/
def Grows (H H' : Hp) : Prop := ∀ b o, H b = some o → H' b = some o
theorem Grows.refl {H : Hp} : Grows H H := fun _ _ e => e
theorem Grows.trans {H H1 H2 : Hp} (x : Grows H H1) (y : Grows H1 H2) : Grows H H2 := fun b o e => y b o (x b o e)
theorem Grows.new {a : Addr} {H : Hp} {o : HO} (h : H a = none) : Grows H (upd H a o) := fun b u e => by
  rw [upd_ne (ne_of_none e h)]
  exact e
theorem Grows.seq {K : PySem.W.Frag} {H H' : Hp} {a : Addr} {xs : List V} (s : Grows H H') (h : SqL K H a xs) : SqL K H' a xs := by
  rcases h with (h | ⟨o, h⟩) | h
  · exact .inl (.inl (s _ _ h))
  · exact .inl (.inr ⟨o, s _ _ h⟩)
  · exact .inr h
theorem Grows.tup {K : PySem.W.Frag} {H H' : Hp} {a : Addr} {xs : List V} (s : Grows H H') (h : SqT K H a xs) : SqT K H' a xs := by
  rcases h with (h | ⟨o, h⟩) | h
  · exact .inl (.inl (s _ _ h))
  · exact .inl (.inr ⟨o, s _ _ h⟩)
  · exact .inr h
/-- the list that is made -/
def Ma (H0 : Hp) (D : Addr) (F : Nat → V) (i : Nat) (H : Hp) : Prop := Grows H0 H ∧ H D = some (.lst ((List.range i).map F))
theorem Ma.start {H0 : Hp} {D : Addr} {F : Nat → V} (hD : H0 D = none) : Ma H0 D F 0 (upd H0 D (.lst [])) := ⟨Grows.new hD, upd_same⟩
theorem yes_eq {te : TE} {A : L2.St → Prop} {R : V → Hp → Prop} {Y : Hp → Prop} :
    (fun (σ2 : L2.St) (H2 : Hp) => A σ2 ∧ tYes σ2 H2 fun b H3 => if b = true then te σ2 H3 R else Y H3) = fun σ2 H2 => A σ2 ∧ te σ2 H2 R := by
  funext σ2 H2
  unfold tYes
  dsimp only
  rw [if_pos rfl]
/-- one more -/
theorem Ma.more {H0 H H4 : Hp} {D : Addr} {F : Nat → V} {i : Nat} (hD : H0 D = none) (m : Ma H0 D F i H) (s : Grows H H4) (small : i < 1000000) :
    ∃ acc, H4 D = some (.lst acc) ∧ acc.length < sizeLine ∧ Ma H0 D F (i + 1) (upd H4 D (.lst (acc ++ [F i]))) := by
  refine ⟨_, s _ _ m.2, ?_, fun b o e => ?_, ?_⟩
  · rw [List.length_map, List.length_range]
    exact Nat.lt_trans small (by decide)
  · rw [upd_ne (ne_of_none e hD)]
    exact s _ _ (m.1 _ _ e)
  · rw [upd_same, List.range_succ, List.map_append]
    rfl
section
variable {K : PySem.W.Frag} {a b : Addr} {xs ys : List V} {g : TG} {te : TE} {vs : List Nat} {σ : L2.St} {H0 : Hp} {D : Addr} {Qd : Hp → Prop}
theorem lc_listM (F : Nat → V) (hD : H0 D = none) (hx : SqL K H0 a xs) (small : xs.length ≤ 1000000)
    (turn : ∀ (i : Nat) (x : V) (H : Hp) (R : V → Hp → Prop), xs[i]? = some x → Grows H0 H → (∀ H4, Grows H H4 → R (F i) H4) → g x (wipe σ vs) H fun σ2 H2 => wipe σ2 vs = wipe σ vs ∧ te σ2 H2 R)
    (done : ∀ H, Grows H0 H → H D = some (.lst ((List.range xs.length).map F)) → Qd H) :
    ∃ W : Nat → Nat → Hp → Prop, (∃ m, W 0 m (upd H0 D (.lst []))) ∧ ∀ i m H, W i m H →
      ((Itl K a).stop i H ∧ Qd H) ∨ ((Itl K a).go i H ∧ ∃ Nx : Hp → Prop, (∀ H', Nx H' → ∃ m', m' < m ∧ W (i + 1) m' H') ∧ ∀ x H', (Itl K a).yld i H x H' → g x (wipe σ vs) H' fun σ2 H2 => wipe σ2 vs = wipe σ vs ∧ tYes σ2 H2 fun b H3 =>
        if b = true then te σ2 H3 fun y H4 => ∃ acc, H4 D = some (.lst acc) ∧ acc.length < sizeLine ∧ Nx (upd H4 D (.lst (acc ++ [y]))) else Nx H3) := by
  refine lc_list (Ma H0 D F) (Ma.start hD) (fun i H _ m => m.1.seq hx) (fun i x H ex m => ?_) fun H m => done H m.1 m.2
  rw [yes_eq (A := fun σ2 => wipe σ2 vs = wipe σ vs)]
  exact turn i x H _ ex m.1 fun H4 s => m.more hD s (Nat.lt_of_lt_of_le (List.getElem?_eq_some_iff.mp ex).1 small)
theorem lc_zipM (F : Nat → V) (hD : H0 D = none) (hx : SqL K H0 a xs) (hy : SqL K H0 b ys) (small : xs.length ≤ 1000000)
    (turn : ∀ (i : Nat) (x y : V) (T : Addr) (H : Hp) (R : V → Hp → Prop), xs[i]? = some x → ys[i]? = some y → Grows H0 H → H T = none → (∀ H4, Grows (upd H T (.tup [x, y])) H4 → R (F i) H4) → g (.ref T) (wipe σ vs) (upd H T (.tup [x, y])) fun σ2 H2 => wipe σ2 vs = wipe σ vs ∧ te σ2 H2 R)
    (done : ∀ H, Grows H0 H → H D = some (.lst ((List.range (min xs.length ys.length)).map F)) → Qd H) :
    ∃ W : Nat → Nat → Hp → Prop, (∃ m, W 0 m (upd H0 D (.lst []))) ∧ ∀ i m H, W i m H →
      ((Itz K a b).stop i H ∧ Qd H) ∨ ((Itz K a b).go i H ∧ ∃ Nx : Hp → Prop, (∀ H', Nx H' → ∃ m', m' < m ∧ W (i + 1) m' H') ∧ ∀ x H', (Itz K a b).yld i H x H' → g x (wipe σ vs) H' fun σ2 H2 => wipe σ2 vs = wipe σ vs ∧ tYes σ2 H2 fun b H3 =>
        if b = true then te σ2 H3 fun y H4 => ∃ acc, H4 D = some (.lst acc) ∧ acc.length < sizeLine ∧ Nx (upd H4 D (.lst (acc ++ [y]))) else Nx H3) := by
  refine SortR.lc_zipL (Ma H0 D F) (Ma.start hD) (fun i H m => ⟨m.1.seq hx, m.1.seq hy⟩) (fun i x y T H ex ey m hT => ?_) fun H m => done H m.1 m.2
  rw [yes_eq (A := fun σ2 => wipe σ2 vs = wipe σ vs)]
  exact turn i x y T H _ ex ey m.1 hT fun H4 s => m.more hD ((Grows.new hT).trans s) (Nat.lt_of_lt_of_le (List.getElem?_eq_some_iff.mp ex).1 small)
theorem lc_enumM (F : Nat → V) (hD : H0 D = none) (hx : SqL K H0 a xs) (small : xs.length ≤ 1000000)
    (turn : ∀ (i : Nat) (x : V) (T : Addr) (H : Hp) (R : V → Hp → Prop), xs[i]? = some x → Grows H0 H → H T = none → (∀ H4, Grows (upd H T (.tup [.int (i : Nat), x])) H4 → R (F i) H4) → g (.ref T) (wipe σ vs) (upd H T (.tup [.int (i : Nat), x])) fun σ2 H2 => wipe σ2 vs = wipe σ vs ∧ te σ2 H2 R)
    (done : ∀ H, Grows H0 H → H D = some (.lst ((List.range xs.length).map F)) → Qd H) :
    ∃ W : Nat → Nat → Hp → Prop, (∃ m, W 0 m (upd H0 D (.lst []))) ∧ ∀ i m H, W i m H →
      ((Ite K a).stop i H ∧ Qd H) ∨ ((Ite K a).go i H ∧ ∃ Nx : Hp → Prop, (∀ H', Nx H' → ∃ m', m' < m ∧ W (i + 1) m' H') ∧ ∀ x H', (Ite K a).yld i H x H' → g x (wipe σ vs) H' fun σ2 H2 => wipe σ2 vs = wipe σ vs ∧ tYes σ2 H2 fun b H3 =>
        if b = true then te σ2 H3 fun y H4 => ∃ acc, H4 D = some (.lst acc) ∧ acc.length < sizeLine ∧ Nx (upd H4 D (.lst (acc ++ [y]))) else Nx H3) := by
  refine SortR.lc_enumL (Ma H0 D F) (Ma.start hD) (fun i H m => m.1.seq hx) (fun i x T H ex m hT => ?_) fun H m => done H m.1 m.2
  rw [yes_eq (A := fun σ2 => wipe σ2 vs = wipe σ vs)]
  exact turn i x T H _ ex m.1 hT fun H4 s => m.more hD ((Grows.new hT).trans s) (Nat.lt_of_lt_of_le (List.getElem?_eq_some_iff.mp ex).1 small)
theorem lc_combM (F : Nat → V) (hD : H0 D = none) (small : xs.length ≤ 1000)
    (turn : ∀ (t i j : Nat) (x y : V) (T : Addr) (H : Hp) (R : V → Hp → Prop), (Comb.prs xs.length)[t]? = some (i, j) → xs[i]? = some x → xs[j]? = some y → Grows H0 H → H T = none → (∀ H4, Grows (upd H T (.tup [x, y])) H4 → R (F t) H4) → g (.ref T) (wipe σ vs) (upd H T (.tup [x, y])) fun σ2 H2 => wipe σ2 vs = wipe σ vs ∧ te σ2 H2 R)
    (done : ∀ H, Grows H0 H → H D = some (.lst ((List.range (Comb.prs xs.length).length).map F)) → Qd H) :
    ∃ W : Nat → Nat → Hp → Prop, (∃ m, W 0 m (upd H0 D (.lst []))) ∧ ∀ t m H, W t m H →
      ((Comb.Itcb xs).stop t H ∧ Qd H) ∨ ((Comb.Itcb xs).go t H ∧ ∃ Nx : Hp → Prop, (∀ H', Nx H' → ∃ m', m' < m ∧ W (t + 1) m' H') ∧ ∀ x H', (Comb.Itcb xs).yld t H x H' → g x (wipe σ vs) H' fun σ2 H2 => wipe σ2 vs = wipe σ vs ∧ tYes σ2 H2 fun b H3 =>
        if b = true then te σ2 H3 fun y H4 => ∃ acc, H4 D = some (.lst acc) ∧ acc.length < sizeLine ∧ Nx (upd H4 D (.lst (acc ++ [y]))) else Nx H3) := by
  refine Comb.lc_comb (Ma H0 D F) (Ma.start hD) (fun t i j x y T H et ex ey m hT => ?_) fun H m => done H m.1 m.2
  rw [yes_eq (A := fun σ2 => wipe σ2 vs = wipe σ vs)]
  refine turn t i j x y T H _ et ex ey m.1 hT fun H4 s => m.more hD ((Grows.new hT).trans s) ?_
  have l1 := (List.getElem?_eq_some_iff.mp et).1
  have l2 := Comb.rows_len (xs.length - 1) 0
  have l3 : (xs.length - 1) * (xs.length - 1) ≤ 999 * 999 := Nat.mul_le_mul (by omega) (by omega)
  unfold Comb.prs at l1
  omega
end
/-- xs[1:] -/
theorem cut_tail (xs : List V) : cutV xs (some 1) none = xs.tail := by
  unfold cutV
  rw [HT.sIx_none, show (some (1 : Int)) = some ((1 : Nat) : Int) from rfl, HT.sIx_nat]
  cases xs with
  | nil => rfl
  | cons x l =>
    have e : min 1 (x :: l).length = 1 := by rw [List.length_cons]; omega
    rw [e, List.drop_one, List.tail_cons, List.length_cons, Nat.add_sub_cancel, List.take_length]
end LcM

/-! {key: value for target in iterable if test}, the keys tuples. -/
namespace DcT
open PySem PySem.Spec PyProof.Rows L2
section
variable {X : Cx} {pins : List (Addr × Obj)} {σ : L2.St} {H : Hp} {s : Shared}
/-- one entry is laid by the comprehension -/
theorem set_tup {Er : Value → Shared → Prop} {d b : Addr} {kvs : List (List L2.Key × V)} {k : List L2.Key} {v : V} {u r : Value} {Qu : Unit → Shared → Prop} (room : X.A.units + 1 < cLine) (I : Inv X pins σ H s) (at_d : H d = some (.dT kvs)) (few : kvs.length < sizeLine)
    (at_b : H b = some (.tup (k.map kV))) (ru : RelV (.ref b) u) (rr : RelV v r) (go : ∀ s', Inv X pins σ (upd H d (.dT (putK kvs k v))) s' → Qu () s') : wpAny (model X.prog X.w) X.A (dictSet d u r) Qu Er s := by
  obtain rfl : u = Value.ref b := ru
  obtain ⟨fits, notSys, xs, rel, raw⟩ := dt_of I.hok at_d
  have n1 : xs.length ≤ sizeLine := Paired.length rel ▸ fits
  have n2 : (putK kvs k v).length ≤ sizeLine := Nat.le_trans (length_putK kvs k v) few
  refine wpAny_dictSet_heap (hsz := n1) (show X.A.units < cLine from Nat.lt_of_succ_lt room) (key_of I.hok at_b) raw fun hp raw' same => go _ ?_
  obtain ⟨o, es, ep, g1, g2, g3, g4, _, g5⟩ := raw'
  refine d_write I (by rw [at_d]; exact True.intro) same ⟨o, g1⟩ ⟨n2, notSys, _, (rel.put k at_b rr).keeps fun c ys ec => ?_, o, es, ep, g1, g2, g3, g4, g5⟩
  rw [upd_ne (ne_of ec at_d fun z => nomatch z)]
  exact ec
end
section
variable {X : Cx}
def tDcT (wi : TI) (g : TG) (tt : TT) (tk tv : TE) (vs : List Nat) : TE := fun σ H Q => wi σ H fun J H1 => ∀ D, H1 D = none → ∃ W : Nat → Nat → Hp → Prop, (∃ m, W 0 m (upd H1 D (.dT []))) ∧ ∀ i m H, W i m H →
  (J.stop i H ∧ Q (.ref D) H) ∨ (J.go i H ∧ ∃ Nx : Hp → Prop, (∀ H', Nx H' → ∃ m', m' < m ∧ W (i + 1) m' H') ∧ ∀ x H', J.yld i H x H' → g x (wipe σ vs) H' fun σ2 H2 => wipe σ2 vs = wipe σ vs ∧ tt σ2 H2 fun t H3 =>
    if t = true then tk σ2 H3 fun y H4 => tv σ2 H4 fun z H5 => ∃ b kvs k, y = .ref b ∧ H5 b = some (.tup (k.map kV)) ∧ H5 D = some (.dT kvs) ∧ kvs.length < sizeLine ∧ Nx (upd H5 D (.dT (putK kvs k z))) else Nx H3)
theorem dcT_core {pins : List (Addr × Obj)} {s0 : Shared} {σ : L2.St} {H0 : Hp} {Q : VK} {kx vx tg iter : Expr} {ifs : List Expr} {scope : Scope} {own : List (Str × Nat)} {pos pos' : Pos} {wi : TI} {g : TG} {tt : TT} {tk tv : TE} {use : Option (Value → Sem Unit)} {Qf : Value → Shared → Prop}
    (room : X.A.units + 64 < cLine) (calm : X.calm = true) (nd : X.N.Nodup) (I0 : Inv X pins σ H0 s0) (pi : PI X tg iter wi) (ok : BlkOk X.N X.env.scope scope own)
    (pgs : ∀ (s : Shared) (H : Hp) (C : Addr) (cl : List (Str × Addr)) (fp : List Addr), PG (X.blk s H scope (compEnvC scope cl C X.env) fp) tg g) (pts : ∀ (s : Shared) (H : Hp) (C : Addr) (cl : List (Str × Addr)) (fp : List Addr), PTs (X.blk s H scope (compEnvC scope cl C X.env) fp) ifs tt)
    (pks : ∀ (s : Shared) (H : Hp) (C : Addr) (cl : List (Str × Addr)) (fp : List Addr), PE (X.blk s H scope (compEnvC scope cl C X.env) fp) kx tk) (pvs : ∀ (s : Shared) (H : Hp) (C : Addr) (cl : List (Str × Addr)) (fp : List Addr), PE (X.blk s H scope (compEnvC scope cl C X.env) fp) vx tv)
    (fold : ∀ x, foldedSetIterable iter X.env x = pure x) (rd : tDcT wi g tt tk tv (own.map (·.2)) σ H0 Q)
    (post : ∀ D C t ns G, Inv X pins σ G t → Q (.ref D) G → t.heap.Ns C ns → FpOk X pins G C → compPost (model X.prog X.w) X.A X.xe use Qf (.ref D) C (.ok .next) t) :
    wpAny (model X.prog X.w) X.A (comprehension (.DictComp kx vx [⟨tg, iter, ifs, 0⟩] scope pos) scope X.env pos' newDict false (eval iter X.env) use) Qf X.xe s0 := by
  have isFree : ∀ y ∈ scope.names, y.2 = .free → ∃ c, X.env.cells.lookup y.1 = some c := fun y hy ey => (ok.free y hy ey).elim (fun z => I0.ok.has _ (.inl z)) fun z => I0.ok.has _ (.inr z)
  refine wpAny_comprehension_free (use := use) rfl fold (closure_ok isFree) ok.kind (fun y hy ey => (ok.uniq y hy).trans (congrArg some ey)) (thn (pi.run pins s0 σ H0 _ I0 rd) fun _ sa ha => thn ha fun _ sb hb => ?_)
  obtain ⟨it, fp, tn, J, Hb, rfl, Ib, Tn, tn0, fb, q⟩ := hb
  refine wpAny_newObj_type (newEnv_comp ?_)
  have free0 : Hb sb.heap.objs.size = none := Ib.hok.fresh (Nat.le_refl _)
  obtain ⟨W, ⟨m0, w0⟩, turn⟩ := q _ free0
  -- with the dict, empty
  obtain ⟨sc, esc⟩ : ∃ z : Shared, z = { sb with heap := sb.heap.push { cls := .type "dict", data := .dict #[] } } := ⟨_, rfl⟩
  obtain ⟨Hc, eHc⟩ : ∃ z : Hp, z = upd Hb sb.heap.objs.size (.dT []) := ⟨_, rfl⟩
  have Ic : Inv X pins σ Hc sc := by
    rw [esc, eHc]
    exact Ib.laid (t' := sb.toks) (fun b o z => Heap.get?_push_of_some _ z) (Nat.le_refl _) (dt_empty sb.heap Ib.big)
  have up : ∀ b o, sb.heap.get? b = some o → sc.heap.get? b = some o := fun b o z => by
    rw [esc]
    exact Heap.get?_push_of_some _ z
  have below : ∀ b ∈ fp, b < sb.heap.objs.size := fun b hb => let ⟨_, z, _⟩ := Tn.obj _ _ tn0 b hb; Heap.lt_size z
  have fc : ∀ b ∈ fp, FpOk X pins Hc b ∧ b < sc.heap.objs.size := fun b hb => by
    obtain ⟨o, z, _⟩ := Tn.obj _ _ tn0 b hb
    refine ⟨⟨?_, (fb b hb).2⟩, Heap.lt_size (up b o z)⟩
    rw [eHc, upd_ne (Nat.ne_of_lt (below b hb))]
    exact (fb b hb).1
  have tnc : tn 0 sc.heap := Tn.keep _ _ _ tn0 fun b _ o z => up b o z
  have Ie := block_start Ic ok nd fc
  obtain ⟨cells, ecl⟩ : ∃ z, z = cellsFrom (sc.heap.objs.size + 1) scope.names (cloFrom X.env.cells scope.names []) := ⟨_, rfl⟩
  have pg := pgs sc Hc sc.heap.objs.size cells fp
  have pt := pts sc Hc sc.heap.objs.size cells fp
  have pk := pks sc Hc sc.heap.objs.size cells fp
  have pv := pvs sc Hc sc.heap.objs.size cells fp
  rw [← ecl] at Ie
  rw [← esc]
  show codeAny _ _ (.compStart _ 0 (.ref it) (.ref sb.heap.objs.size) (compEnvC scope (cellsFrom (sc.heap.objs.size + 1) scope.names (cloFrom X.env.cells scope.names [])) sc.heap.objs.size X.env)) (compPost _ _ X.xe use Qf (.ref sb.heap.objs.size) sc.heap.objs.size) _
  rw [← ecl]
  have loc : (compEnvC scope cells sc.heap.objs.size X.env).locals = sc.heap.objs.size := rfl
  rw [← eHc] at w0
  have empty : ∀ b ∈ fp, Hc b = none := fun b hb => (fc b hb).1.1
  obtain ⟨sd, esd⟩ : ∃ z : Shared, z = { sc with heap := pushCells (sc.heap.push { cls := .type "dict", data := .dict #[] }) scope.names } := ⟨_, rfl⟩
  have tnd : tn 0 sd.heap := Tn.keep _ _ _ tnc fun b _ o z => by
    rw [esd]
    exact pushCells_keeps _ _ _ _ (Heap.get?_push_of_some _ z)
  rw [← esd] at Ie ⊢
  generalize compEnvC scope cells sc.heap.objs.size X.env = ce at Ie pg pt pk pv loc ⊢
  -- the iterator's own objects in the block
  have own_ok : ∀ {ρ : L2.St} {G : Hp} {t : Shared}, Inv (X.blk sc Hc scope ce fp) [] ρ G t → (∀ b ∈ fp, G b = none) → ∀ b ∈ fp, FpOk (X.blk sc Hc scope ce fp) [] G b := fun {ρ G t} J hn b hb =>
    ⟨hn b hb, (J.ok.exf b hb).1, J.ok.exfs b hb, .inl hb, fun y c z => (J.ok.exf b hb).2 y c z, fun p hp => (nomatch hp)⟩
  have run : codeAny (model X.prog X.w) X.A (.compLoop (.DictComp kx vx [⟨tg, iter, ifs, 0⟩] scope pos) 0 (.ref it) (.ref sb.heap.objs.size) ce) (compPost (model X.prog X.w) X.A X.xe use Qf (.ref sb.heap.objs.size) sc.heap.objs.size) sd := by
    refine compLoop_anyD (fun m t => ∃ i G, Inv (X.blk sc Hc scope ce fp) [] (wipe σ (own.map (·.2))) G t ∧ tn i t.heap ∧ (∀ b ∈ fp, G b = none) ∧ W i m G) ?_ m0 ⟨0, Hc, Ie, tnd, empty, w0⟩
    rintro m t ⟨i, G, J, tni, none_, wi_⟩
    rcases turn i m G wi_ with ⟨stop, fin⟩ | ⟨go, Nx, less, step⟩
    · refine thnF (Tn.done (X.blk sc Hc scope ce fp) rfl rfl rfl calm i [] t _ G (fun _ _ => False) J (own_ok J none_) tni stop) fun r t2 ⟨er, J2⟩ => ?_
      subst er
      have back : Inv X pins σ G t2 := Ic.call' (ch := fp) J2.os J2.base J2.hok J2.bare fun b hb => ⟨(fc b hb).1.2.2.2.1, (fc b hb).1.2.1, (fc b hb).1.2.2.2.2.1, (fc b hb).1.2.2.2.2.2⟩
      have noC : G sc.heap.objs.size = none := by
        have z : G ce.locals = none := J2.free
        rwa [loc] at z
      obtain ⟨ns, isNs, _⟩ := J2.loc
      have isNs' : t2.heap.Ns ce.locals ns := isNs
      rw [loc] at isNs'
      exact post _ _ t2 ns G back fin isNs' (Ic.fpOk (Nat.le_refl _) noC)
    · refine thnF (Tn.item (X.blk sc Hc scope ce fp) rfl rfl rfl calm i [] t _ G (fun _ _ => False) J (own_ok J none_) tni go) fun r t2 ⟨u, er, h2⟩ => ?_
      subst er
      refine thnF h2 fun _ t3 ⟨x, G3, J3, r3, y3, tn3, none3⟩ => ?_
      have K3 := J3.pinned (own_ok J3 none3) (Tn.obj _ _ tn3)
      refine thnF (pg.run _ t3 _ G3 x u _ K3 r3 (step x G3 y3)) fun _ t4 ⟨ρ4, G4, J4, same4, q4⟩ => ?_
      refine thnF (pt.run _ t4 ρ4 G4 _ J4 q4) fun yes t5 ⟨G5, J5, q5⟩ => ?_
      have next : ∀ {t' : Shared} {G' : Hp}, Inv (X.blk sc Hc scope ce fp) ([] ++ pinsAt fp t3.heap) ρ4 G' t' → Nx G' → ∃ m', m' < m ∧ ∃ i G, Inv (X.blk sc Hc scope ce fp) [] (wipe σ (own.map (·.2))) G t' ∧ tn i t'.heap ∧ (∀ b ∈ fp, G b = none) ∧ W i m' G := fun {t' G'} J' nx => by
        obtain ⟨m', lt, w'⟩ := less G' nx
        have held : ∀ b ∈ fp, ∀ o, t3.heap.get? b = some o → t'.heap.get? b = some o ∧ G' b = none := fun b hb o z =>
          have p := J'.pin (b, o) (List.mem_append_right _ (List.mem_append_right _ (mem_pinsAt hb z)))
          ⟨p.1, p.2.1⟩
        have len : (wipe σ (own.map (·.2))).length = ρ4.length := by rw [← same4, wipe_length]
        refine ⟨m', lt, i + 1, G', (J'.unpinned (pins := [])).weak len (fun j v z => ?_), Tn.keep _ _ _ tn3 fun b hb o z => (held b hb o z).1, fun b hb => ?_, w'⟩
        · rw [← same4] at z
          exact (wipe_some z).1
        · obtain ⟨o, z, _⟩ := Tn.obj _ _ tn3 b hb
          exact (held b hb o z).2
      cases yes with
      | false =>
        simp only [Bool.false_eq_true, if_false] at q5 ⊢
        exact next J5 q5
      | true =>
        simp only [if_true] at q5 ⊢
        refine thnF (pk.run _ t5 ρ4 G5 _ J5 q5) fun ku t6 ⟨yk, G6, J6, r6, q6⟩ => thnF (pv.run _ t6 ρ4 G6 _ J6 q6) fun vu t7 ⟨yv, G7, J7, r7, b, kvs, k, ek, at_b, at_d, few, nx⟩ => ?_
        subst ek
        exact set_tup (X := X.blk sc Hc scope ce fp) (show X.A.units + 1 < cLine by omega) J7 at_d few at_b r6 r7 fun t8 J8 => next J8 nx
  exact codeAny_compStart_dict run (Tn.self X.A 0 _ _ _ tnd run)
/-- as a value -/
theorem pe_dcT {kx vx tg iter : Expr} {ifs : List Expr} {scope : Scope} {own : List (Str × Nat)} {pos : Pos} {wi : TI} {g : TG} {tt : TT} {tk tv : TE} (room : X.A.units + 64 < cLine) (calm : X.calm = true) (nd : X.N.Nodup) (pi : PI X tg iter wi) (ok : BlkOk X.N X.env.scope scope own)
    (pgs : ∀ (s : Shared) (H : Hp) (C : Addr) (cl : List (Str × Addr)) (fp : List Addr), PG (X.blk s H scope (compEnvC scope cl C X.env) fp) tg g) (pts : ∀ (s : Shared) (H : Hp) (C : Addr) (cl : List (Str × Addr)) (fp : List Addr), PTs (X.blk s H scope (compEnvC scope cl C X.env) fp) ifs tt)
    (pks : ∀ (s : Shared) (H : Hp) (C : Addr) (cl : List (Str × Addr)) (fp : List Addr), PE (X.blk s H scope (compEnvC scope cl C X.env) fp) kx tk) (pvs : ∀ (s : Shared) (H : Hp) (C : Addr) (cl : List (Str × Addr)) (fp : List Addr), PE (X.blk s H scope (compEnvC scope cl C X.env) fp) vx tv)
    (fold : ∀ x, foldedSetIterable iter X.env x = pure x := by intro _; rfl) : PE X (.DictComp kx vx [⟨tg, iter, ifs, 0⟩] scope pos) (tDcT wi g tt tk tv (own.map (·.2))) := by
  refine ⟨fun pins s0 σ H0 Q I0 rd => ?_⟩
  rw [arm_eval_DictComp]
  refine dcT_core room calm nd I0 pi ok pgs pts pks pvs fold rd fun D C t ns G J fin isNs ⟨f0, f1, f2, f3, f4, f5⟩ => ⟨ns, isNs, fun h2 sb2 => ⟨.ref D, G, J.turned (t' := t.toks) (fun b o ne z => (sb2.2 b ne).trans z) f0 f1 f3 f4 f5, rfl, fin⟩⟩
/-- name = {..} on one line, the name a local -/
theorem ps_setDcT {i : Nat} {y : Str} {py : Pos} {kx vx tg iter : Expr} {ifs : List Expr} {scope : Scope} {own : List (Str × Nat)} {pos spos : Pos} {wi : TI} {g : TG} {tt : TT} {tk tv : TE} (room : X.A.units + 64 < cLine) (calm : X.calm = true) (nd : X.N.Nodup) (at_y : X.N[i]? = some y) (loc : X.env.scope.names.lookup y = some .local)
    (sw : swapsWith (.DictComp kx vx [⟨tg, iter, ifs, 0⟩] scope pos) (some (.Name y py)) spos.line X.env = pure true) (pi : PI X tg iter wi) (ok : BlkOk X.N X.env.scope scope own)
    (pgs : ∀ (s : Shared) (H : Hp) (C : Addr) (cl : List (Str × Addr)) (fp : List Addr), PG (X.blk s H scope (compEnvC scope cl C X.env) fp) tg g) (pts : ∀ (s : Shared) (H : Hp) (C : Addr) (cl : List (Str × Addr)) (fp : List Addr), PTs (X.blk s H scope (compEnvC scope cl C X.env) fp) ifs tt)
    (pks : ∀ (s : Shared) (H : Hp) (C : Addr) (cl : List (Str × Addr)) (fp : List Addr), PE (X.blk s H scope (compEnvC scope cl C X.env) fp) kx tk) (pvs : ∀ (s : Shared) (H : Hp) (C : Addr) (cl : List (Str × Addr)) (fp : List Addr), PE (X.blk s H scope (compEnvC scope cl C X.env) fp) vx tv)
    (fold : ∀ x, foldedSetIterable iter X.env x = pure x := by intro _; rfl) : PS X (.Assign [.Name y py] (.DictComp kx vx [⟨tg, iter, ifs, 0⟩] scope pos) spos) (tAsg (tDcT wi g tt tk tv (own.map (·.2))) (gName i)) := by
  refine ⟨fun pins s0 σ H0 D I0 rd => ?_⟩
  rw [exec_Assign_Name_used _ _ _ _ sw]
  refine wpAny_bind (wpAny_standAt (wpAny_bind ?_))
  show wpAny _ X.A (do let _ ← comprehension (.DictComp kx vx [⟨tg, iter, ifs, 0⟩] scope pos) scope X.env (firstIterPos [⟨tg, iter, ifs, 0⟩] pos) newDict false (eval iter X.env) (some (assign (.Name y py) X.env))) _ _ s0
  have rd' : tDcT wi g tt tk tv (own.map (·.2)) σ H0 (fun x G => gName i x σ G D.nx) := rd
  refine wpAny_bind (thn (dcT_core (Qf := fun _ t => SP X pins D .next t) room calm nd I0 pi ok pgs pts pks pvs fold rd' fun L C t ns G J fin isNs fo => ?_) fun _ _ z => wpAny_pure (wpAny_pure z))
  obtain ⟨f0, f1, f2, f3, f4, f5⟩ := fo
  show wpAny _ _ (assign (.Name y py) X.env (.ref L)) _ _ _
  refine wpAny_assign_Name (store_ok2 (v := V.ref L) J nd at_y (.inl loc) rfl (fun t2 J2 ⟨c, sb, hc⟩ => ?_) (.inr loc))
  have ne : C ≠ c := hc.elim (fun z => z ▸ f1) fun z e => f4 y c z e.symm
  exact ⟨ns, isNs.sameBut sb ne, fun h3 sb3 => ⟨_, G, J2.turned (t' := t2.toks) (fun b o hb e => (sb3.2 b hb).trans e) f0 f1 f3 f4 f5, fin⟩⟩
theorem sw_dict {kx vx : Expr} {gs : List Comprehension} {scope : Scope} {pos py : Pos} {y : Str} {l : Nat} {env : Env} (fn : env.scope.kind = .function) (loc : env.scope.names.lookup y = some .local) (row : (py.line == pos.line) = true)
    (other : (scope.names.any fun (n, k) => n == y && (k == .local || k == .cell)) = false) : swapsWith (.DictComp kx vx gs scope pos) (some (.Name y py)) l env = pure true := by
  have k1 : env.kindOf y = some .local := loc
  have k2 : env.blockKind = .function := by
    unfold Env.blockKind
    rw [fn]
    rfl
  unfold swapsWith
  simp only [k1, k2, other, Expr.pos, row]
  rfl
end
end DcT

/-! sorted(d), the keys of d tuples of ints, of any number. -/
namespace SortR
open PySem PySem.Spec PyProof.Rows L2 PySem.W
theorem enc_alikeT (p q : Addr × List Int) : alike (PyData.tuple (p.2.map .int)) (PyData.tuple (q.2.map .int)) = true := by
  simp only [alike]
  exact alike_ints p.2 q.2
theorem le_tuples : dataLe false (fun b : Addr × List Int => PyData.tuple (b.2.map .int)) = rowLe := by
  have e : dataLe false (fun b : Addr × List Int => PyData.tuple (b.2.map .int)) = dataLe false (fun b : Addr × List Int => PyData.list (b.2.map .int)) := by
    funext p q
    simp only [dataLe_eq, dataLt_tuple, dataLt_list]
  rw [e]
  exact dataLe_rows (fun b : Addr × List Int => b.2)
/-- the keys' tuples, in the dict's sequence -/
theorem key_rows {H : Hp} : ∀ {kvs : List (List L2.Key × V)} {ks : List (List L2.Key × Addr × Value)} {bs : List (List Int)},
    Paired (fun (p : List L2.Key × V) (q : List L2.Key × Addr × Value) => p.1 = q.1 ∧ H q.2.1 = some (.tup (p.1.map kV)) ∧ RelV p.2 q.2.2) kvs ks → kvs.map (·.1) = bs.map (fun ns => ns.map Sum.inl) →
    ∃ as : List (Addr × List Int), as.map (·.1) = ks.map (·.2.1) ∧ as.map (·.2) = bs ∧ ∀ b ∈ as, H b.1 = some (.tup (b.2.map V.int))
  | _, _, [], .nil, _ => ⟨[], rfl, rfl, fun _ m => nomatch m⟩
  | _, _, n :: bs, .cons (a := p) (b := q) h t, e => by
    rw [List.map_cons, List.map_cons] at e
    obtain ⟨e1, e2⟩ := List.cons.inj e
    obtain ⟨as, f1, f2, f3⟩ := key_rows t e2
    refine ⟨(q.2.1, n) :: as, by rw [List.map_cons, List.map_cons, f1], by rw [List.map_cons, f2], fun b m => ?_⟩
    rcases List.mem_cons.mp m with z | z
    · rw [z]
      have g := h.2.1
      rw [e1, List.map_map] at g
      exact g
    · exact f3 b z
  | _, _, [], .cons _ _, e => by cases e
  | _, _, _ :: _, .nil, e => by cases e
section
variable {X : Cx}
theorem call_sortedDT (hu : X.A.units + 64 < cLine) (calm : X.calm = true) : CallR X (.builtin "sorted") (fun xs H Q => ∃ (d : Addr) (kvs : List (List L2.Key × V)) (bs : List (List Int)), xs = [V.ref d] ∧ H d = some (.dT kvs) ∧ kvs.map (·.1) = bs.map (fun ns => ns.map Sum.inl) ∧ (∀ k ∈ bs, k ≠ []) ∧
    ∀ as : List (Addr × List Int), as.map (·.2) = bs → (∀ b ∈ as, H b.1 = some (.tup (b.2.map V.int))) → ∀ p, H p = none → Q (.ref p) (upd H p (.lst ((as.mergeSort rowLe).map fun b => V.ref b.1)))) := by
  intro pins s σ H xs us Q I r h
  obtain ⟨d, kvs, bs, rfl, hd, hk, hne, q⟩ := h
  obtain ⟨u, rfl, ru⟩ := vals1 r
  obtain rfl : u = Value.ref d := ru
  obtain ⟨z, hs, ks, pr, o, es, ep, ho, hx, hdt, he, hn⟩ := (show ObjOk X.prog X.w H s.heap d (.dT kvs) from I.hok d _ hd)
  obtain ⟨as, a1, a2, a3⟩ := key_rows pr hk
  have l0 : es.size = ks.length := size_of_entries he
  have l1 : kvs.length = ks.length := Paired.length pr
  have l2 : as.length = ks.length := by rw [← List.length_map (f := (·.1)), a1, List.length_map]
  have fits : ks.length ≤ sizeLine := l1 ▸ z
  refine Calls.call_function_entry PyProof.Rows.kind_sorted PyProof.Rows.plain_sorted PyProof.Rows.entry_sorted (PyProof.Rows.args_sorted1 _) ?_
  unfold Builtin.«sorted»
  refine wpAny_bind (m := checkCount "sorted" 1 1 _) (wpAny_pure (wpAny_bind (kdu_collect (A := X.A.in1) (kdl_raw hs hx hdt) (I.ok.hd calm) ho (l0 ▸ fits) fun h1 tk acc keep it => ?_)))
  have ea : acc.toList = as.map fun b => Value.ref b.1 := by
    have e1 : acc.toList = ks.map fun x => Value.ref x.2.1 := by
      have len : acc.toList.length = ks.length := by rw [Array.length_toList, it.1, l0]
      refine List.ext_getElem (by rw [List.length_map, len]) fun j j1 j2 => ?_
      obtain ⟨en, hen, hv⟩ := it.2 j acc.toList[j] (by rw [← Array.getElem?_toList, List.getElem?_eq_getElem j1])
      have at_j := entry_at he j
      rw [hen, List.getElem?_eq_getElem (len ▸ j1)] at at_j
      have e2 : en = entryOfKey (tupleKind (mixKind X.prog X.w)) (ks[j]'(len ▸ j1)) := Option.some.inj at_j
      rw [hv, e2, List.getElem_map]
      rfl
    rw [e1]
    have e3 := congrArg (List.map Value.ref) a1
    rw [List.map_map, List.map_map] at e3
    exact e3.symm
  have len : acc.toList.length = as.length := by rw [ea, List.length_map]
  have I1 : Inv X pins σ H { s with heap := h1, toks := tk } := I.kept keep
  refine wpAny_bind (wpAny_newList ?_ (by rw [len, l2]; exact fits))
  have at_p : (h1.push (seqObj "list" acc.toList.toArray 0)).get? h1.objs.size = some (seqObj "list" acc.toList.toArray 0) := Heap.get?_push_size _ rfl
  have old : ∀ b u, h1.get? b = some u → b ≠ h1.objs.size ∧ (h1.push (seqObj "list" acc.toList.toArray 0)).get? b = some u := fun b u e => ⟨Nat.ne_of_lt (Heap.lt_size e), Heap.get?_push_of_some _ e⟩
  have each : EachIs (fun v (b : Addr × List Int) => v = Value.ref b.1 ∧ True) acc.toList as := by
    have vr : Vals (as.map fun b => V.ref b.1) acc.toList := by
      rw [ea]
      clear ea a1 a2 a3 l2 len q it
      induction as with
      | nil => exact .nil
      | cons b as ih => exact .cons rfl ih
    exact vals_each (h := s.heap) (K := X.K) (H := H) (P := fun _ => True) vr fun _ _ => trivial
  obtain ⟨hS, ehS⟩ : ∃ z, z = sortingHeap (h1.push (seqObj "list" acc.toList.toArray 0)) h1.objs.size acc.toList := ⟨_, rfl⟩
  have reads : EachIs (fun v (b : Addr × List Int) => ∃ rs, Reads hS v (PyData.tuple (b.2.map .int)) rs) acc.toList as := by
    have each2 : EachIs (fun v (b : Addr × List Int) => v = Value.ref b.1 ∧ H b.1 = some (.tup (b.2.map V.int))) acc.toList as := by
      have vr : Vals (as.map fun b => V.ref b.1) acc.toList := each_back each
      exact vals_each (h := s.heap) (K := X.K) (H := H) vr a3
    refine each_mono each2 fun v b ⟨ev, hb⟩ => ?_
    rw [ev]
    obtain ⟨rs, rr⟩ := Dp.reads I1 (PyData.tuple (b.2.map .int)) (.ref b.1) (.ref b.1) (.tup (SqT.of hb) (rows_dp b.2)) rfl
    refine ⟨rs, PyProof.Rows.Reads.keeps (fun c u e => ?_) rr⟩
    rw [ehS]
    obtain ⟨n1, n2⟩ := old c u e
    exact sortingHeap_old n1 n2
  have alikeAll_ : AllAlike (as.map fun b => PyData.tuple (b.2.map .int)) := AllAlike.of enc_alikeT
  have sortable : Sortable (as.map fun b => PyData.tuple (b.2.map .int)) := .inl fun dd hm => by
    obtain ⟨b, hb, rfl⟩ := List.mem_map.mp hm
    have mem : b.2 ∈ bs := a2 ▸ List.mem_map.mpr ⟨b, hb, rfl⟩
    cases e : b.2 with
    | nil => exact absurd e (hne _ mem)
    | cons x l => exact ⟨_, _, rfl⟩
  have shallow : ∀ dd ∈ as.map (fun b => PyData.tuple (b.2.map .int)), dd.depth = 1 := fun dd hm => by
    obtain ⟨b, _, rfl⟩ := List.mem_map.mp hm
    simp only [PyData.depth, depth_ints]
  show wpAny _ _ _ _ _ { s with heap := h1.push (seqObj "list" acc.toList.toArray 0), toks := tk }
  have sorts : ∀ Ar : Around, Ar.units ≤ X.A.units + 8 → SortsAt X.prog X.w Ar { s with heap := hS, toks := tk } (dataKind hS (as.map fun b => PyData.tuple (b.2.map .int))) acc.toList := fun Ar hA =>
    SortsAt.data (s := { s with heap := hS, toks := tk }) (each_map (R := fun v dd => ∃ rs, Reads hS v dd rs) (fun b : Addr × List Int => PyData.tuple (b.2.map .int)) reads) alikeAll_ sortable fun dd hm => by rw [shallow dd hm]; omega
  rw [ehS] at sorts reads
  have each3 := sortVals_data (R := fun v (b : Addr × List Int) => v = Value.ref b.1 ∧ True) (enc := fun b : Addr × List Int => PyData.tuple (b.2.map .int)) false each reads alikeAll_
  rw [le_tuples] at each3
  have back := each_back each3
  have short : ((as.mergeSort rowLe).map fun b => V.ref b.1).length ≤ sizeLine := by
    rw [List.length_map, List.length_mergeSort, l2]
    exact fits
  refine wpAny_bind (wpAny_holding (wpAny_call_entry PyProof.Rows.slot_list_sort ⟨_, at_p, rfl⟩ PyProof.Rows.entry_list_sort
    (list_sort_vals (s := { s with heap := h1.push (seqObj "list" acc.toList.toArray 0), toks := tk }) at_p (sorts _ (by show X.A.units + 1 + 1 ≤ X.A.units + 8; omega)) (by rw [len, l2]; exact fits) ⟨_, rfl, ?_⟩) (PyProof.Rows.args_list_sort _)))
  obtain ⟨n2, at2⟩ := PyProof.Rows.sortedHeap_at (vs := acc.toList) (out := (sortVals (dataKind (sortingHeap (h1.push (seqObj "list" acc.toList.toArray 0)) h1.objs.size acc.toList) (as.map fun b => PyData.tuple (b.2.map .int))) false acc.toList acc.toList).toArray) at_p
  refine wpAny_pure ⟨_, rfl, .ref h1.objs.size, upd H h1.objs.size (.lst ((as.mergeSort rowLe).map fun b => V.ref b.1)), I1.laid (t' := tk) (fun b u e => ?_) (Nat.le_refl _) ⟨short, _, n2, back, at2⟩, rfl, q as a2 a3 _ (I1.hok.fresh (Nat.le_refl _))⟩
  obtain ⟨n1, g⟩ := old b u e
  rw [PyProof.Rows.sortedHeap_old n1 (Heap.lt_size g)]
  exact g
end
end SortR

/-! Comprehensions with a test, and dict comprehensions, by the value of each turn. -/
namespace LcM
open PySem PySem.Spec PyProof.Rows L2
/-- what is kept -/
def kept (p : Nat → Bool) (F : Nat → V) (n : Nat) : List V := ((List.range n).filter p).map F
theorem kept_yes {p : Nat → Bool} {F : Nat → V} {n : Nat} (h : p n = true) : kept p F (n + 1) = kept p F n ++ [F n] := by
  unfold kept
  rw [List.range_succ, List.filter_append, List.map_append, List.filter_cons_of_pos h]
  rfl
theorem kept_no {p : Nat → Bool} {F : Nat → V} {n : Nat} (h : p n = false) : kept p F (n + 1) = kept p F n := by
  unfold kept
  rw [List.range_succ, List.filter_append, List.map_append, List.filter_cons_of_neg (by rw [h]; exact Bool.false_ne_true)]
  exact List.append_nil _
theorem kept_le (p : Nat → Bool) (F : Nat → V) (n : Nat) : (kept p F n).length ≤ n := by
  unfold kept
  rw [List.length_map]
  exact Nat.le_trans (List.length_filter_le _ _) (Nat.le_of_eq List.length_range)
section
variable {K : PySem.W.Frag} {a : Addr} {xs : List V} {g : TG} {tt : TT} {te tk tv : TE} {vs : List Nat} {σ : L2.St} {H0 : Hp} {D : Addr} {Qd : Hp → Prop}
theorem lc_listT (p : Nat → Bool) (F : Nat → V) (hD : H0 D = none) (hx : SqL K H0 a xs) (small : xs.length ≤ 1000000)
    (turn : ∀ (i : Nat) (x : V) (H : Hp) (Ry : V → Hp → Prop) (Rn : Hp → Prop), xs[i]? = some x → Grows H0 H → (p i = true → ∀ H4, Grows H H4 → Ry (F i) H4) → (p i = false → ∀ H4, Grows H H4 → Rn H4) →
      g x (wipe σ vs) H fun σ2 H2 => wipe σ2 vs = wipe σ vs ∧ tt σ2 H2 fun t H3 => if t = true then te σ2 H3 Ry else Rn H3)
    (done : ∀ H, Grows H0 H → H D = some (.lst (kept p F xs.length)) → Qd H) :
    ∃ W : Nat → Nat → Hp → Prop, (∃ m, W 0 m (upd H0 D (.lst []))) ∧ ∀ i m H, W i m H →
      ((Itl K a).stop i H ∧ Qd H) ∨ ((Itl K a).go i H ∧ ∃ Nx : Hp → Prop, (∀ H', Nx H' → ∃ m', m' < m ∧ W (i + 1) m' H') ∧ ∀ x H', (Itl K a).yld i H x H' → g x (wipe σ vs) H' fun σ2 H2 => wipe σ2 vs = wipe σ vs ∧ tt σ2 H2 fun b H3 =>
        if b = true then te σ2 H3 fun y H4 => ∃ acc, H4 D = some (.lst acc) ∧ acc.length < sizeLine ∧ Nx (upd H4 D (.lst (acc ++ [y]))) else Nx H3) := by
  refine lc_list (fun i H => Grows H0 H ∧ H D = some (.lst (kept p F i))) ⟨Grows.new hD, upd_same⟩ (fun i H _ m => m.1.seq hx) (fun i x H ex m => ?_) fun H m => done H m.1 m.2
  have il := Nat.lt_of_lt_of_le (List.getElem?_eq_some_iff.mp ex).1 small
  refine turn i x H _ _ ex m.1 (fun hp H4 s => ⟨_, s _ _ m.2, ?_, fun b o e => ?_, ?_⟩) fun hp H4 s => ⟨m.1.trans s, ?_⟩
  · exact Nat.lt_of_le_of_lt (kept_le p F i) (Nat.lt_trans il (by decide))
  · rw [upd_ne (ne_of_none e hD)]
    exact s _ _ (m.1 _ _ e)
  · rw [upd_same, kept_yes hp]
  · rw [kept_no hp]
    exact s _ _ m.2
/-- a dict's entries, laid one after another -/
def laid {κ : Type} [DecidableEq κ] (p : Nat → Bool) (G : Nat → κ) (F : Nat → V) : Nat → List (κ × V)
  | 0 => []
  | n + 1 => if p n = true then putK (laid p G F n) (G n) (F n) else laid p G F n
theorem laid_le {κ : Type} [DecidableEq κ] (p : Nat → Bool) (G : Nat → κ) (F : Nat → V) : ∀ n, (laid p G F n).length ≤ n
  | 0 => Nat.le_refl _
  | n + 1 => by
    have ih := laid_le p G F n
    unfold laid
    by_cases h : p n = true
    · rw [if_pos h]
      exact Nat.le_trans (length_putK _ _ _) (Nat.succ_le_succ ih)
    · rw [if_neg h]
      exact Nat.le_succ_of_le ih
/-- over enumerate, keys ints or texts, no test -/
theorem dc_enumM (G : Nat → L2.Key) (F : Nat → V) (hD : H0 D = none) (hx : SqL K H0 a xs) (small : xs.length ≤ 1000000)
    (turn : ∀ (i : Nat) (x : V) (T : Addr) (H : Hp) (R : V → Hp → V → Hp → Prop), xs[i]? = some x → Grows H0 H → H T = none → (∀ H4 H5, Grows (upd H T (.tup [.int (i : Nat), x])) H4 → Grows H4 H5 → R (kV (G i)) H4 (F i) H5) →
      g (.ref T) (wipe σ vs) (upd H T (.tup [.int (i : Nat), x])) fun σ2 H2 => wipe σ2 vs = wipe σ vs ∧ tk σ2 H2 fun y H4 => tv σ2 H4 fun z H5 => R y H4 z H5)
    (done : ∀ H, Grows H0 H → H D = some (.dK (laid (fun _ => true) G F xs.length)) → Qd H) :
    ∃ W : Nat → Nat → Hp → Prop, (∃ m, W 0 m (upd H0 D (.dK []))) ∧ ∀ i m H, W i m H →
      ((Ite K a).stop i H ∧ Qd H) ∨ ((Ite K a).go i H ∧ ∃ Nx : Hp → Prop, (∀ H', Nx H' → ∃ m', m' < m ∧ W (i + 1) m' H') ∧ ∀ x H', (Ite K a).yld i H x H' → g x (wipe σ vs) H' fun σ2 H2 => wipe σ2 vs = wipe σ vs ∧ tYes σ2 H2 fun b H3 =>
        if b = true then tk σ2 H3 fun y H4 => tv σ2 H4 fun z H5 => ∃ kvs k, y = kV k ∧ H5 D = some (.dK kvs) ∧ kvs.length < sizeLine ∧ Nx (upd H5 D (.dK (putK kvs k z))) else Nx H3) := by
  let inv : Nat → Hp → Prop := fun i H => Grows H0 H ∧ H D = some (.dK (laid (fun _ => true) G F i))
  refine ⟨fun i m H => m = xs.length - i ∧ i ≤ xs.length ∧ inv i H, ⟨_, rfl, Nat.zero_le _, Grows.new hD, upd_same⟩, ?_⟩
  rintro i m H ⟨rfl, hi, pv⟩
  rcases Nat.lt_or_ge i xs.length with lt | ge
  · have ex : xs[i]? = some xs[i] := List.getElem?_eq_getElem lt
    refine .inr ⟨⟨xs, _, pv.1.seq hx, ex⟩, inv (i + 1), fun H' p' => ⟨xs.length - (i + 1), by omega, rfl, lt, p'⟩, fun v H' y => ?_⟩
    obtain ⟨T, x, rfl, hT, rfl, f1⟩ := y
    have e0 : (fun (σ2 : L2.St) (H2 : Hp) => wipe σ2 vs = wipe σ vs ∧ tYes σ2 H2 fun b H3 => if b = true then tk σ2 H3 fun y H4 => tv σ2 H4 fun z H5 => ∃ kvs k, y = kV k ∧ H5 D = some (.dK kvs) ∧ kvs.length < sizeLine ∧ inv (i + 1) (upd H5 D (.dK (putK kvs k z))) else inv (i + 1) H3) =
        fun σ2 H2 => wipe σ2 vs = wipe σ vs ∧ tk σ2 H2 fun y H4 => tv σ2 H4 fun z H5 => ∃ kvs k, y = kV k ∧ H5 D = some (.dK kvs) ∧ kvs.length < sizeLine ∧ inv (i + 1) (upd H5 D (.dK (putK kvs k z))) := by
      funext σ2 H2
      unfold tYes
      dsimp only
      rw [if_pos rfl]
    rw [e0]
    refine turn i x T H (fun y _ z H5 => ∃ kvs k, y = kV k ∧ H5 D = some (.dK kvs) ∧ kvs.length < sizeLine ∧ inv (i + 1) (upd H5 D (.dK (putK kvs k z)))) (f1 xs (pv.1.seq hx)) pv.1 hT fun H4 H5 s4 s5 => ⟨_, G i, rfl, s5 _ _ (s4 _ _ (Grows.new hT _ _ pv.2)), ?_, fun b o e => ?_, ?_⟩
    · exact Nat.lt_of_le_of_lt (laid_le _ G F i) (Nat.lt_of_lt_of_le lt (Nat.le_trans small (by decide)))
    · rw [upd_ne (ne_of_none e hD)]
      exact s5 _ _ (s4 _ _ (Grows.new hT _ _ (pv.1 _ _ e)))
    · rw [upd_same]
      rfl
  · have e : i = xs.length := by omega
    subst e
    exact .inl ⟨⟨xs, pv.1.seq hx, Nat.le_refl _⟩, done H pv.1 pv.2⟩
/-- over a list, the keys tuples, with a test -/
theorem dc_listTT (p : Nat → Bool) (G : Nat → List L2.Key) (F : Nat → V) (hD : H0 D = none) (hx : SqL K H0 a xs) (small : xs.length ≤ 1000000)
    (turn : ∀ (i : Nat) (x : V) (H : Hp) (R : V → V → Hp → Prop) (Rn : Hp → Prop), xs[i]? = some x → Grows H0 H → (p i = true → ∀ b H5, Grows H H5 → H5 b = some (.tup ((G i).map kV)) → R (.ref b) (F i) H5) → (p i = false → ∀ H4, Grows H H4 → Rn H4) →
      g x (wipe σ vs) H fun σ2 H2 => wipe σ2 vs = wipe σ vs ∧ tt σ2 H2 fun t H3 => if t = true then tk σ2 H3 fun y H4 => tv σ2 H4 fun z H5 => R y z H5 else Rn H3)
    (done : ∀ H, Grows H0 H → H D = some (.dT (laid p G F xs.length)) → Qd H) :
    ∃ W : Nat → Nat → Hp → Prop, (∃ m, W 0 m (upd H0 D (.dT []))) ∧ ∀ i m H, W i m H →
      ((Itl K a).stop i H ∧ Qd H) ∨ ((Itl K a).go i H ∧ ∃ Nx : Hp → Prop, (∀ H', Nx H' → ∃ m', m' < m ∧ W (i + 1) m' H') ∧ ∀ x H', (Itl K a).yld i H x H' → g x (wipe σ vs) H' fun σ2 H2 => wipe σ2 vs = wipe σ vs ∧ tt σ2 H2 fun t H3 =>
        if t = true then tk σ2 H3 fun y H4 => tv σ2 H4 fun z H5 => ∃ b kvs k, y = .ref b ∧ H5 b = some (.tup (k.map kV)) ∧ H5 D = some (.dT kvs) ∧ kvs.length < sizeLine ∧ Nx (upd H5 D (.dT (putK kvs k z))) else Nx H3) := by
  let inv : Nat → Hp → Prop := fun i H => Grows H0 H ∧ H D = some (.dT (laid p G F i))
  refine ⟨fun i m H => m = xs.length - i ∧ i ≤ xs.length ∧ inv i H, ⟨_, rfl, Nat.zero_le _, Grows.new hD, upd_same⟩, ?_⟩
  rintro i m H ⟨rfl, hi, pv⟩
  rcases Nat.lt_or_ge i xs.length with lt | ge
  · have ex : xs[i]? = some xs[i] := List.getElem?_eq_getElem lt
    refine .inr ⟨⟨xs, _, pv.1.seq hx, ex⟩, inv (i + 1), fun H' p' => ⟨xs.length - (i + 1), by omega, rfl, lt, p'⟩, fun v H' y => ?_⟩
    obtain ⟨rfl, y⟩ := y
    refine turn i v _ (fun y z H5 => ∃ b kvs k, y = .ref b ∧ H5 b = some (.tup (k.map kV)) ∧ H5 D = some (.dT kvs) ∧ kvs.length < sizeLine ∧ inv (i + 1) (upd H5 D (.dT (putK kvs k z)))) (inv (i + 1)) (y xs (pv.1.seq hx)) pv.1 (fun hp b H5 s5 hb => ⟨b, _, G i, rfl, hb, s5 _ _ pv.2, ?_, fun c o e => ?_, ?_⟩) fun hp H4 s4 => ⟨pv.1.trans s4, ?_⟩
    · exact Nat.lt_of_le_of_lt (laid_le _ G F i) (Nat.lt_of_lt_of_le lt (Nat.le_trans small (by decide)))
    · rw [upd_ne (ne_of_none e hD)]
      exact s5 _ _ (pv.1 _ _ e)
    · rw [upd_same]
      show _ = some (HO.dT (if p i = true then _ else _))
      rw [if_pos hp]
    · rw [s4 _ _ pv.2]
      show _ = some (HO.dT (if p i = true then _ else _))
      rw [if_neg (by rw [hp]; exact Bool.false_ne_true)]
  · have e : i = xs.length := by omega
    subst e
    exact .inl ⟨⟨xs, pv.1.seq hx, Nat.le_refl _⟩, done H pv.1 pv.2⟩
end
end LcM

/-! A comprehension that makes new lists of ints. -/
namespace LcM
open PySem PySem.Spec PyProof.Rows L2
/-- new lists of ints -/
structure Nw (H0 H : Hp) (cs : List (Addr × List Int)) : Prop where
  lists : ∀ c ∈ cs, H c.1 = some (.lst (c.2.map V.int))
  new : ∀ c ∈ cs, H0 c.1 = none
  nodup : (cs.map (·.1)).Nodup
theorem Nw.keep {H0 H H' : Hp} {cs : List (Addr × List Int)} (n : Nw H0 H cs) (s : Grows H H') : Nw H0 H' cs := ⟨fun c m => s _ _ (n.lists c m), n.new, n.nodup⟩
section
variable {K : PySem.W.Frag} {a : Addr} {xs : List V} {g : TG} {te : TE} {vs : List Nat} {σ : L2.St} {H0 : Hp} {D : Addr} {Qd : Hp → Prop}
theorem lc_listR (R : Nat → List Int) (hD : H0 D = none) (hx : SqL K H0 a xs) (small : xs.length ≤ 1000000)
    (turn : ∀ (i : Nat) (x : V) (H : Hp) (Rk : V → Hp → Prop), xs[i]? = some x → Grows H0 H → (∀ q H4, Grows H H4 → H q = none → H4 q = some (.lst ((R i).map V.int)) → Rk (.ref q) H4) → g x (wipe σ vs) H fun σ2 H2 => wipe σ2 vs = wipe σ vs ∧ te σ2 H2 Rk)
    (done : ∀ H cs, Grows H0 H → cs.map (·.2) = (List.range xs.length).map R → Nw H0 H cs → (∀ c ∈ cs, c.1 ≠ D) → H D = some (.lst (cs.map fun c => V.ref c.1)) → Qd H) :
    ∃ W : Nat → Nat → Hp → Prop, (∃ m, W 0 m (upd H0 D (.lst []))) ∧ ∀ i m H, W i m H →
      ((Itl K a).stop i H ∧ Qd H) ∨ ((Itl K a).go i H ∧ ∃ Nx : Hp → Prop, (∀ H', Nx H' → ∃ m', m' < m ∧ W (i + 1) m' H') ∧ ∀ x H', (Itl K a).yld i H x H' → g x (wipe σ vs) H' fun σ2 H2 => wipe σ2 vs = wipe σ vs ∧ tYes σ2 H2 fun b H3 =>
        if b = true then te σ2 H3 fun y H4 => ∃ acc, H4 D = some (.lst acc) ∧ acc.length < sizeLine ∧ Nx (upd H4 D (.lst (acc ++ [y]))) else Nx H3) := by
  refine lc_list (fun i H => ∃ cs : List (Addr × List Int), Grows H0 H ∧ cs.map (·.2) = (List.range i).map R ∧ Nw H0 H cs ∧ (∀ c ∈ cs, c.1 ≠ D) ∧ H D = some (.lst (cs.map fun c => V.ref c.1)))
    ⟨[], Grows.new hD, rfl, ⟨(fun _ m => nomatch m), (fun _ m => nomatch m), List.Pairwise.nil⟩, (fun _ m => nomatch m), upd_same⟩ (fun i H _ ⟨_, s, _⟩ => s.seq hx) (fun i x H ex ⟨cs, s, e, n, apart, top⟩ => ?_) fun H ⟨cs, s, e, n, apart, top⟩ => done H cs s e n apart top
  rw [yes_eq (A := fun σ2 => wipe σ2 vs = wipe σ vs)]
  refine turn i x H _ ex s fun q H4 s4 hq at_q => ?_
  have il := Nat.lt_of_lt_of_le (List.getElem?_eq_some_iff.mp ex).1 small
  have len : cs.length = i := by
    have := congrArg List.length e
    rw [List.length_map, List.length_map, List.length_range] at this
    exact this
  have qD : q ≠ D := fun z => by
    rw [z, top] at hq
    cases hq
  have all : Grows H0 (upd H4 D (.lst (cs.map (fun c => V.ref c.1) ++ [.ref q]))) := fun b o eb => by
    rw [upd_ne (ne_of_none eb hD)]
    exact s4 _ _ (s _ _ eb)
  have q0 : H0 q = none := by
    rcases Option.eq_none_or_eq_some (H0 q) with z | ⟨o, z⟩
    · exact z
    · have := s _ _ z
      rw [hq] at this
      cases this
  refine ⟨_, s4 _ _ top, ?_, cs ++ [(q, R i)], all, ?_, ⟨?_, ?_, ?_⟩, ?_, ?_⟩
  · rw [List.length_map, len]
    exact Nat.lt_trans il (by decide)
  · rw [List.map_append, e, List.range_succ, List.map_append]
    rfl
  · intro c m
    rcases List.mem_append.mp m with m | m
    · rw [upd_ne (apart c m)]
      exact s4 _ _ (n.lists c m)
    · rw [List.mem_singleton.mp m, upd_ne qD]
      exact at_q
  · intro c m
    rcases List.mem_append.mp m with m | m
    · exact n.new c m
    · rw [List.mem_singleton.mp m]
      exact q0
  · rw [List.map_append, List.nodup_append]
    refine ⟨n.nodup, List.nodup_cons.mpr ⟨(fun z => nomatch z), List.Pairwise.nil⟩, fun b mb d md => ?_⟩
    obtain ⟨c, mc, rfl⟩ := List.mem_map.mp mb
    have ed : d = q := by simpa using md
    rw [ed]
    intro z
    have := n.lists c mc
    rw [z, hq] at this
    cases this
  · intro c m
    rcases List.mem_append.mp m with m | m
    · exact apart c m
    · rw [List.mem_singleton.mp m]
      exact qD
  · rw [upd_same, List.map_append]
    rfl
end
end LcM

/-! Rules with their readings named by K, for use within comprehensions. -/
namespace LcM
open PySem PySem.Spec PyProof.Rows L2
def rLenS (K : PySem.W.Frag) : List V → Hp → VK → Prop := fun xs H Q => ∃ p ys, xs = [.ref p] ∧ (SqL K H p ys ∨ SqT K H p ys) ∧ Q (.int ys.length) H
def rLst (K : PySem.W.Frag) : List V → Hp → VK → Prop := fun xs H Q => ∃ p ys, xs = [.ref p] ∧ (SqL K H p ys ∨ SqT K H p ys) ∧ ∀ l, H l = none → Q (.ref l) (upd H l (.lst ys))
def rTup (K : PySem.W.Frag) : List V → Hp → VK → Prop := fun xs H Q => ∃ p ys, xs = [.ref p] ∧ SqL K H p ys ∧ ∀ t, H t = none → Q (.ref t) (upd H t (.tup ys))
section
variable {X : Cx}
theorem call_lenK : CallR X (.builtin "len") (rLenS X.K) := fun pins s σ H xs us Q I r ⟨p, ys, e, h, q⟩ => call_len_seq pins s σ H xs us Q I r ⟨p, ys, e, h, q⟩
theorem call_lstK : CallR X (.type "list") (rLst X.K) := fun pins s σ H xs us Q I r ⟨p, ys, e, h, q⟩ => call_list_of pins s σ H xs us Q I r ⟨p, ys, e, h, q⟩
theorem call_tupK : CallR X (.type "tuple") (rTup X.K) := fun pins s σ H xs us Q I r ⟨p, ys, e, h, q⟩ => call_tuple_of pins s σ H xs us Q I r ⟨p, ys, e, .inl ⟨h, q⟩⟩
end
end LcM

/-! What cut gives, on lists of lists of ints. -/
namespace LcM
open PySem PySem.Spec PyProof.Rows L2 SortR
/-- the last place of x among the first n -/
def plcN (ns : List Int) (x : Int) : Nat → Option Nat
  | 0 => none
  | n + 1 => if ns.getD n 0 = x then some n else plcN ns x n
def plc (ns : List Int) (x : Int) : Option Nat := plcN ns x ns.length
theorem valV_laid (ns : List Int) (x : Int) : ∀ n, valV (laid (fun _ => true) (fun i => (Sum.inl (ns.getD i 0) : L2.Key)) (fun i => V.int (i : Nat)) n) (Sum.inl x) = (plcN ns x n).map fun j => V.int (j : Nat)
  | 0 => rfl
  | n + 1 => by
    have ih := valV_laid ns x n
    unfold laid plcN
    rw [if_pos rfl, valV_put]
    by_cases e : ns.getD n 0 = x
    · rw [if_pos e, if_pos (by rw [e])]
      rfl
    · rw [if_neg e, if_neg (fun z => e (Sum.inl.inj z).symm)]
      exact ih
/-- a group's persons who stay, by their places -/
def meet (ns r : List Int) : List Int := ((List.range r.length).filter fun i => (plc ns (r.getD i 0)).isSome).map fun i => (((plc ns (r.getD i 0)).getD 0 : Nat) : Int)
def two (m : List Int) : Bool := decide (2 ≤ (m.length : Int))
/-- unlike rows, in the sequence in which they come first -/
def firsts (p : Nat → Bool) (M : Nat → List Int) : Nat → List (List Int)
  | 0 => []
  | n + 1 => if p n = true then (if M n ∈ firsts p M n then firsts p M n else firsts p M n ++ [M n]) else firsts p M n
theorem put_keys {κ : Type} [DecidableEq κ] (kvs : List (κ × V)) (k : κ) (v : V) : (putK kvs k v).map (·.1) = if k ∈ kvs.map (·.1) then kvs.map (·.1) else kvs.map (·.1) ++ [k] := by
  unfold putK
  by_cases h : (kvs.any fun kv => decide (kv.1 = k)) = true
  · rw [if_pos h]
    obtain ⟨kv, hm, e⟩ := List.any_eq_true.mp h
    rw [if_pos (List.mem_map.mpr ⟨kv, hm, of_decide_eq_true e⟩), List.map_map]
    refine List.map_congr_left fun q _ => ?_
    show (if q.1 = k then (q.1, v) else q).1 = q.1
    split <;> rfl
  · rw [if_neg h, if_neg fun z => ?_, List.map_append]
    · rfl
    · obtain ⟨kv, hm, e⟩ := List.mem_map.mp z
      exact h (List.any_eq_true.mpr ⟨kv, hm, decide_eq_true e⟩)
theorem inl_inj {m n : List Int} (h : (m.map Sum.inl : List L2.Key) = n.map Sum.inl) : m = n := by
  induction m generalizing n with
  | nil =>
    cases n with
    | nil => rfl
    | cons _ _ => cases h
  | cons x m ih =>
    cases n with
    | nil => cases h
    | cons y n =>
      rw [List.map_cons, List.map_cons] at h
      obtain ⟨h1, h2⟩ := List.cons.inj h
      rw [Sum.inl.inj h1, ih h2]
theorem keys_laid (p : Nat → Bool) (M : Nat → List Int) (F : Nat → V) : ∀ n, (laid p (fun i => ((M i).map Sum.inl : List L2.Key)) F n).map (·.1) = (firsts p M n).map fun m => m.map Sum.inl
  | 0 => rfl
  | n + 1 => by
    have ih := keys_laid p M F n
    unfold laid firsts
    by_cases h : p n = true
    · rw [if_pos h, if_pos h, put_keys, ih]
      by_cases m : M n ∈ firsts p M n
      · rw [if_pos m, if_pos (List.mem_map.mpr ⟨_, m, rfl⟩)]
      · rw [if_neg m, if_neg fun z => ?_, List.map_append]
        · rfl
        · obtain ⟨r, hr, e⟩ := List.mem_map.mp z
          rw [inl_inj e] at hr
          exact m hr
    · rw [if_neg h, if_neg h]
      exact ih
theorem firsts_of (p : Nat → Bool) (M : Nat → List Int) : ∀ n, ∀ r ∈ firsts p M n, ∃ i, i < n ∧ p i = true ∧ r = M i
  | 0, _, h => nomatch h
  | n + 1, r, h => by
    have ih := firsts_of p M n r
    unfold firsts at h
    have old : r ∈ firsts p M n → ∃ i, i < n + 1 ∧ p i = true ∧ r = M i := fun z => let ⟨i, a, b, c⟩ := ih z; ⟨i, Nat.lt_succ_of_lt a, b, c⟩
    by_cases hp : p n = true
    · rw [if_pos hp] at h
      split at h
      · exact old h
      · rcases List.mem_append.mp h with z | z
        · exact old z
        · exact ⟨n, Nat.lt_succ_self n, hp, List.mem_singleton.mp z⟩
    · rw [if_neg hp] at h
      exact old h
theorem firsts_le (p : Nat → Bool) (M : Nat → List Int) : ∀ n, (firsts p M n).length ≤ n
  | 0 => Nat.le_refl _
  | n + 1 => by
    have ih := firsts_le p M n
    unfold firsts
    split
    · split
      · omega
      · rw [List.length_append, List.length_singleton]
        omega
    · omega
def cutR (rs : List (List Int)) (ns : List Int) : List (List Int) := (firsts (fun i => two (meet ns (rs.getD i []))) (fun i => meet ns (rs.getD i [])) rs.length).mergeSort fun p q => decide (p ≤ q)
theorem sort_rows (as : List (Addr × List Int)) : (as.mergeSort rowLe).map (·.2) = (as.map (·.2)).mergeSort fun p q => decide (p ≤ q) := List.map_mergeSort fun _ _ _ _ => rfl
end LcM

/-! Lists of ints and lists of such, as data. -/
namespace LcM
open PySem PySem.Spec PyProof.Rows L2 SortR
theorem eqvAll_ints : ∀ ns ms : List Int, PyData.eqvAll (ns.map .int) (ms.map .int) = decide (ns = ms)
  | [], [] => by
    simp only [List.map_nil, PyData.eqvAll]
    exact (decide_eq_true (rfl : ([] : List Int) = [])).symm
  | x :: ns, y :: ms => by
    rw [List.map_cons, List.map_cons, PyData.eqvAll, eqvAll_ints ns ms, PyData.eqv]
    by_cases e : x = y
    · rw [e, beq_self_eq_true, Bool.true_and]
      by_cases e2 : ns = ms
      · rw [decide_eq_true e2, decide_eq_true (by rw [e2])]
      · rw [decide_eq_false e2, decide_eq_false fun z => e2 (List.cons.inj z).2]
    · rw [beq_eq_false_iff_ne.mpr e, Bool.false_and, decide_eq_false fun z => e (List.cons.inj z).1]
  | [], _ :: _ => by
    rw [List.map_nil, List.map_cons, PyData.eqvAll]
    exact (decide_eq_false fun z => nomatch z).symm
  | _ :: _, [] => by
    rw [List.map_nil, List.map_cons, PyData.eqvAll]
    exact (decide_eq_false fun z => nomatch z).symm
theorem eqv_ints (ns ms : List Int) : PyData.eqv (PyData.list (ns.map .int)) (PyData.list (ms.map .int)) = decide (ns = ms) := by
  rw [PyData.eqv]
  exact eqvAll_ints ns ms
theorem eqvAll_rows : ∀ rs qs : List (List Int), PyData.eqvAll (rs.map fun r => .list (r.map .int)) (qs.map fun r => .list (r.map .int)) = decide (rs = qs)
  | [], [] => by
    simp only [List.map_nil, PyData.eqvAll]
    exact (decide_eq_true (rfl : ([] : List (List Int)) = [])).symm
  | x :: ns, y :: ms => by
    rw [List.map_cons, List.map_cons, PyData.eqvAll, eqvAll_rows ns ms, eqv_ints]
    by_cases e : x = y
    · rw [decide_eq_true e, Bool.true_and]
      by_cases e2 : ns = ms
      · rw [decide_eq_true e2, decide_eq_true (by rw [e, e2])]
      · rw [decide_eq_false e2, decide_eq_false fun z => e2 (List.cons.inj z).2]
    · rw [decide_eq_false e, Bool.false_and, decide_eq_false fun z => e (List.cons.inj z).1]
  | [], _ :: _ => by
    rw [List.map_nil, List.map_cons, PyData.eqvAll]
    exact (decide_eq_false fun z => nomatch z).symm
  | _ :: _, [] => by
    rw [List.map_nil, List.map_cons, PyData.eqvAll]
    exact (decide_eq_false fun z => nomatch z).symm
theorem eqv_rows (rs qs : List (List Int)) : PyData.eqv (PyData.list (rs.map fun r => .list (r.map .int))) (PyData.list (qs.map fun r => .list (r.map .int))) = decide (rs = qs) := by
  rw [PyData.eqv]
  exact eqvAll_rows rs qs
theorem lay_ints : ∀ ns : List Int, PyData.canLayAll0 (ns.map .int) = true
  | [] => by simp only [List.map_nil, PyData.canLayAll0]
  | n :: ns => by simp only [List.map_cons, PyData.canLayAll0, PyData.canLay0, lay_ints ns, Bool.and_self]
theorem lay_rows : ∀ rs : List (List Int), PyData.canLayAll0 (rs.map fun r => .list (r.map .int)) = true
  | [] => by simp only [List.map_nil, PyData.canLayAll0]
  | r :: rs => by simp only [List.map_cons, PyData.canLayAll0, PyData.canLay0, lay_ints r, lay_rows rs, Bool.and_self]
theorem depth_rows : ∀ rs : List (List Int), PyData.depthAll (rs.map fun r => .list (r.map .int)) ≤ 1
  | [] => by simp only [List.map_nil, PyData.depthAll]; omega
  | r :: rs => by
    have := depth_rows rs
    simp only [List.map_cons, PyData.depthAll, PyData.depth, PySem.W.depth_ints]
    omega
theorem shaped_ints (ns : List Int) : SeqAt.shaped (PyData.list (ns.map .int)) = true := by
  unfold SeqAt.shaped
  simp only [PyData.canLay0, lay_ints, PyData.depth, PySem.W.depth_ints]
  decide
theorem shaped_rows (rs : List (List Int)) : SeqAt.shaped (PyData.list (rs.map fun r => .list (r.map .int))) = true := by
  have d := depth_rows rs
  have e : (PyData.list (rs.map fun r => .list (r.map .int))).depth ≤ 64 := by
    simp only [PyData.depth]
    omega
  unfold SeqAt.shaped
  rw [decide_eq_true e, Bool.and_true]
  simp only [PyData.canLay0, lay_rows]
/-- lists of lists as data -/
theorem rows_data {K : PySem.W.Frag} {H : Hp} : ∀ {bs : List (Addr × List Int)}, (∀ b ∈ bs, SqL K H b.1 (b.2.map V.int)) → DpAll K H (bs.map fun b => V.ref b.1) ((bs.map (·.2)).map fun r => .list (r.map .int))
  | [], _ => .nil
  | b :: bs, h => .cons (.lst (h b List.mem_cons_self) (rows_dp b.2)) (rows_data fun c m => h c (List.mem_cons_of_mem _ m))
end LcM

/-! sorted(xs), xs ints, THE sorted list. -/
namespace SortR
open PySem PySem.Spec PyProof.Rows L2 PySem.W
def intLe (p q : Int) : Bool := decide (p ≤ q)
theorem ints_each {h : Heap} : ∀ {ns : List Int} {us : List Value}, Vals (ns.map V.int) us → EachIs (fun v (n : Int) => ∃ t, v = Value.int n t) us ns
  | [], _, .nil => .nil
  | _ :: _, _, .cons h1 h2 => .cons h1 (ints_each (h := h) h2)
theorem each_ints : ∀ {us : List Value} {ns : List Int}, EachIs (fun v (n : Int) => ∃ t, v = Value.int n t) us ns → Vals (ns.map V.int) us
  | _, _, .nil => .nil
  | _, _, .cons h t => .cons h (each_ints t)
section
variable {X : Cx}
theorem call_sortedInts (hu : X.A.units + 64 < cLine) : CallR X (.builtin "sorted") (fun xs H Q => ∃ (a : Addr) (ns : List Int), xs = [V.ref a] ∧ SqL X.K H a (ns.map V.int) ∧ ∀ p, H p = none → Q (.ref p) (upd H p (.lst ((ns.mergeSort intLe).map V.int)))) := by
  intro pins s σ H xs us Q I r h
  obtain ⟨a, ns, rfl, hs, q⟩ := h
  obtain ⟨u, rfl, ru⟩ := vals1 r
  obtain rfl : u = Value.ref a := ru
  obtain ⟨its, rv, hl, hz⟩ := I.list hs
  have each := ints_each (h := s.heap) rv
  have len : its.length = ns.length := by rw [← rv.length, List.length_map]
  have reads : EachIs (fun v (n : Int) => ∃ as, Reads s.heap v (PyData.int n) as) its ns := each_mono each fun v n ⟨t, e⟩ => by
    rw [e]
    exact ⟨_, Reads.int n t⟩
  have le : dataLe false (fun n : Int => PyData.int n) = intLe := dataLe_int fun n : Int => n
  refine sorted_data (enc := fun n : Int => PyData.int n) hl.isList each reads (AllAlike.of fun p q => by simp only [alike]) (Sortable.others fun b => ⟨(fun z => nomatch z), fun xs z => nomatch z⟩) (by rw [List.length_map] at hz; exact hz) (fun b _ => by
    have d : (PyData.int b).depth = 0 := by simp only [PyData.depth]
    rw [d]
    omega) fun out ho each3 => ?_
  rw [le] at each3
  have back := each_ints each3
  obtain ⟨n, hn⟩ := sortedAll_at s.heap its out.toArray
  refine ⟨.ref (s.heap.objs.size + 1), upd H (s.heap.objs.size + 1) (.lst ((ns.mergeSort intLe).map V.int)), I.laid (t' := s.toks) (fun b o e => sortedAll_old e) (Nat.le_succ _) ⟨?_, out, n, back, hn⟩, rfl, q _ (I.hok.fresh (Nat.le_succ _))⟩
  rw [List.length_map, List.length_mergeSort]
  rw [List.length_map] at hz
  exact hz
end
end SortR

/-! Comprehensions over a tuple or a list, each turn's value by a relation that lasts. -/
namespace LcM
open PySem PySem.Spec PyProof.Rows L2
/-- so far -/
structure Mx (H0 : Hp) (D : Addr) (Rel : Nat → V → Hp → Prop) (i : Nat) (H : Hp) (ys : List V) : Prop where
  grow : Grows H0 H
  top : H D = some (.lst ys)
  len : ys.length = i
  rel : ∀ j y, ys[j]? = some y → Rel j y H
theorem Mx.more {H0 H H4 : Hp} {D : Addr} {Rel : Nat → V → Hp → Prop} {i : Nat} {ys : List V} {y : V} (last : ∀ j y H H', Grows H H' → Rel j y H → Rel j y H') (free : ∀ j y H zs, Rel j y H → H D = some (.lst zs) → ∀ u, Rel j y (upd H D u)) (hD : H0 D = none) (m : Mx H0 D Rel i H ys) (s : Grows H H4) (r : Rel i y H4) (small : i < 1000000) :
    ∃ acc, H4 D = some (.lst acc) ∧ acc.length < sizeLine ∧ ∃ ys', Mx H0 D Rel (i + 1) (upd H4 D (.lst (acc ++ [y]))) ys' := by
  have at_D := s _ _ m.top
  refine ⟨ys, at_D, ?_, ys ++ [y], fun b o e => ?_, upd_same, ?_, fun j z e => ?_⟩
  · rw [m.len]
    exact Nat.lt_trans small (by decide)
  · rw [upd_ne (ne_of_none e hD)]
    exact s _ _ (m.grow _ _ e)
  · rw [List.length_append, m.len]
    rfl
  · rcases Nat.lt_or_ge j ys.length with l | g
    · rw [List.getElem?_append_left l] at e
      exact free j z H4 _ (last j z H H4 s (m.rel j z e)) at_D _
    · rw [List.getElem?_append_right g] at e
      have zero : j - ys.length = 0 := by
        rcases Nat.eq_zero_or_pos (j - ys.length) with q | q
        · exact q
        · rw [List.getElem?_eq_none (by show 1 ≤ j - ys.length; omega)] at e
          cases e
      rw [zero] at e
      obtain rfl : y = z := Option.some.inj e
      obtain rfl : j = i := by rw [← m.len]; omega
      exact free j y H4 _ r at_D _
section
variable {K : PySem.W.Frag} {a : Addr} {xs : List V} {g : TG} {te : TE} {vs : List Nat} {σ : L2.St} {H0 : Hp} {D : Addr} {Qd : Hp → Prop}
theorem lc_tupX (Rel : Nat → V → Hp → Prop) (last : ∀ j y H H', Grows H H' → Rel j y H → Rel j y H') (free : ∀ j y H zs, Rel j y H → H D = some (.lst zs) → ∀ u, Rel j y (upd H D u)) (hD : H0 D = none) (hx : SqT K H0 a xs) (small : xs.length ≤ 1000000)
    (turn : ∀ (i : Nat) (x : V) (H : Hp) (Rk : V → Hp → Prop), xs[i]? = some x → Grows H0 H → H D ≠ none → (∀ y H4, Grows H H4 → Rel i y H4 → Rk y H4) → g x (wipe σ vs) H fun σ2 H2 => wipe σ2 vs = wipe σ vs ∧ te σ2 H2 Rk)
    (done : ∀ H ys, Mx H0 D Rel xs.length H ys → Qd H) :
    ∃ W : Nat → Nat → Hp → Prop, (∃ m, W 0 m (upd H0 D (.lst []))) ∧ ∀ i m H, W i m H →
      ((Itt K a).stop i H ∧ Qd H) ∨ ((Itt K a).go i H ∧ ∃ Nx : Hp → Prop, (∀ H', Nx H' → ∃ m', m' < m ∧ W (i + 1) m' H') ∧ ∀ x H', (Itt K a).yld i H x H' → g x (wipe σ vs) H' fun σ2 H2 => wipe σ2 vs = wipe σ vs ∧ tYes σ2 H2 fun b H3 =>
        if b = true then te σ2 H3 fun y H4 => ∃ acc, H4 D = some (.lst acc) ∧ acc.length < sizeLine ∧ Nx (upd H4 D (.lst (acc ++ [y]))) else Nx H3) := by
  refine lc_tup (fun i H => ∃ ys, Mx H0 D Rel i H ys) ⟨[], Grows.new hD, upd_same, rfl, fun j y e => by rw [List.getElem?_nil] at e; cases e⟩ (fun i H _ ⟨_, m⟩ => m.grow.tup hx) (fun i x H ex ⟨ys, m⟩ => ?_) fun H ⟨ys, m⟩ => done H ys m
  rw [yes_eq (A := fun σ2 => wipe σ2 vs = wipe σ vs)]
  exact turn i x H _ ex m.grow (by rw [m.top]; exact fun z => nomatch z) fun y H4 s r => m.more last free hD s r (Nat.lt_of_lt_of_le (List.getElem?_eq_some_iff.mp ex).1 small)
theorem lc_listX (Rel : Nat → V → Hp → Prop) (last : ∀ j y H H', Grows H H' → Rel j y H → Rel j y H') (free : ∀ j y H zs, Rel j y H → H D = some (.lst zs) → ∀ u, Rel j y (upd H D u)) (hD : H0 D = none) (hx : SqL K H0 a xs) (small : xs.length ≤ 1000000)
    (turn : ∀ (i : Nat) (x : V) (H : Hp) (Rk : V → Hp → Prop), xs[i]? = some x → Grows H0 H → H D ≠ none → (∀ y H4, Grows H H4 → Rel i y H4 → Rk y H4) → g x (wipe σ vs) H fun σ2 H2 => wipe σ2 vs = wipe σ vs ∧ te σ2 H2 Rk)
    (done : ∀ H ys, Mx H0 D Rel xs.length H ys → Qd H) :
    ∃ W : Nat → Nat → Hp → Prop, (∃ m, W 0 m (upd H0 D (.lst []))) ∧ ∀ i m H, W i m H →
      ((Itl K a).stop i H ∧ Qd H) ∨ ((Itl K a).go i H ∧ ∃ Nx : Hp → Prop, (∀ H', Nx H' → ∃ m', m' < m ∧ W (i + 1) m' H') ∧ ∀ x H', (Itl K a).yld i H x H' → g x (wipe σ vs) H' fun σ2 H2 => wipe σ2 vs = wipe σ vs ∧ tYes σ2 H2 fun b H3 =>
        if b = true then te σ2 H3 fun y H4 => ∃ acc, H4 D = some (.lst acc) ∧ acc.length < sizeLine ∧ Nx (upd H4 D (.lst (acc ++ [y]))) else Nx H3) := by
  refine lc_list (fun i H => ∃ ys, Mx H0 D Rel i H ys) ⟨[], Grows.new hD, upd_same, rfl, fun j y e => by rw [List.getElem?_nil] at e; cases e⟩ (fun i H _ ⟨_, m⟩ => m.grow.seq hx) (fun i x H ex ⟨ys, m⟩ => ?_) fun H ⟨ys, m⟩ => done H ys m
  rw [yes_eq (A := fun σ2 => wipe σ2 vs = wipe σ vs)]
  exact turn i x H _ ex m.grow (by rw [m.top]; exact fun z => nomatch z) fun y H4 s r => m.more last free hD s r (Nat.lt_of_lt_of_le (List.getElem?_eq_some_iff.mp ex).1 small)
/-- a loop over enumerate of a list that stands still -/
theorem for_enumL {tb : TS} {Dn : Ends} (Pv : Nat → L2.St → Hp → Prop) (h0 : Pv 0 σ H0) (hl : ∀ i σ H, Pv i σ H → SqL K H a xs)
    (hs : ∀ (i : Nat) (x : V) (T : Addr) (σ : L2.St) (H : Hp), xs[i]? = some x → Pv i σ H → H T = none → g (.ref T) σ (upd H T (.tup [.int (i : Nat), x])) fun σ2 H2 => tb { Dn with nx := Pv (i + 1), ct := Pv (i + 1), bk := Dn.nx } σ2 H2) (hd : ∀ σ H, Pv xs.length σ H → Dn.nx σ H) :
    ∃ W : Nat → Nat → L2.St → Hp → Prop, (∃ m, W 0 m σ H0) ∧ ∀ i m σ H, W i m σ H →
      ((Ite K a).stop i H ∧ Dn.nx σ H) ∨ ((Ite K a).go i H ∧ ∃ N : L2.St → Hp → Prop, (∀ σ' H', N σ' H' → ∃ m', m' < m ∧ W (i + 1) m' σ' H') ∧ ∀ v H', (Ite K a).yld i H v H' → g v σ H' fun σ2 H2 => tb { Dn with nx := N, ct := N, bk := Dn.nx } σ2 H2) := by
  refine ⟨fun i m σ H => m = xs.length - i ∧ i ≤ xs.length ∧ Pv i σ H, ⟨_, rfl, Nat.zero_le _, h0⟩, ?_⟩
  rintro i m σ H ⟨rfl, hi, pv⟩
  have qx := hl i σ H pv
  rcases Nat.lt_or_ge i xs.length with lt | ge
  · have ex : xs[i]? = some xs[i] := List.getElem?_eq_getElem lt
    refine .inr ⟨⟨xs, _, qx, ex⟩, Pv (i + 1), fun σ' H' p' => ⟨xs.length - (i + 1), by omega, rfl, lt, p'⟩, fun v H' y => ?_⟩
    obtain ⟨T, x', rfl, hT, rfl, f1⟩ := y
    exact hs i x' T σ H (f1 xs qx) pv hT
  · have e : i = xs.length := by omega
    subst e
    exact .inl ⟨⟨xs, qx, Nat.le_refl _⟩, hd σ H pv⟩
end
end LcM

/-! f(k = v, ..): a def called by keywords alone. -/
namespace LcM
open PySem PySem.Spec PyProof.Rows L2
section
variable {X : Cx} {CX : CXT} {k : Nat} {f : Addr} {fd : FuncData} {ps ks : List Str} {sp : Sp} {E : XK} {x : Str} {p pos : Pos} {kws : List Keyword} {tk : TA} {g : List Value → List Value → List Value} {gV : List V → List V → List V}
theorem pe_callKw (F : FnOk X.prog X.w X.K X.mg X.base CX k f fd ps sp) (room : Room k X.A) (hg : Gl X x) (hm : X.mg x = some (.ref f)) (kp : PySem.W.keepIn X.K (.ref f) = true) (bd : KBinds X.K fd ps ks g gV) (ps' : Passes CX X E) (args : PK X kws tk)
    (all : (backToKw pos (keywordEach kws X.env)).all (·.1.isSome) = true := by rfl) (names : (backToKw pos (keywordEach kws X.env)).filterMap (·.1) = ks := by rfl) (hdb : (x == ("__debug__" : Str)) = false := by decide)
    (plain : ((backTo pos (starEach [] X.env)).any (·.1) || (backToKw pos (keywordEach kws X.env)).any (·.1.isNone)) = false := by rfl) :
    PE X (.Call (.Name x p) [] kws pos) (tCallK sp gV E tNil tk) := by
  refine ⟨fun pins s σ H Q I rd => ?_⟩
  refine wpAny_Call_Name_kw (ld_glob I hg hm ?_ hdb)
  refine PySem.W.callWith_KW0 (h₀ := X.base) I.ok.mod.kin kp all (thn (args.run pos pins s σ H _ I rd) fun ws s2 ⟨zs, H2, I2, rz, q2⟩ => ⟨I2.kIn, ?_⟩) plain
  rw [names]
  exact run_fnk (us := []) (vs := []) F room bd ps' I2 .nil rz q2
end
end LcM

/-! Masks of ascending lists, bit by bit. -/
namespace LcM
open PySem
def mk (ns : List Nat) : Nat := (ns.map (2 ^ ·)).sum
theorem mk_cons (x : Nat) (xs : List Nat) : mk (x :: xs) = 2 ^ x + mk xs := by
  unfold mk
  rw [List.map_cons, List.sum_cons]
theorem mk_dvd (y : Nat) : ∀ xs : List Nat, (∀ z ∈ xs, y ≤ z) → 2 ^ y ∣ mk xs
  | [], _ => ⟨0, rfl⟩
  | x :: xs, h => by
    rw [mk_cons]
    exact Nat.dvd_add (Nat.pow_dvd_pow 2 (h x List.mem_cons_self)) (mk_dvd y xs fun z hz => h z (List.mem_cons_of_mem _ hz))
theorem mk_bit : ∀ (xs : List Nat) (i : Nat), xs.Pairwise (· < ·) → (mk xs).testBit i = decide (i ∈ xs)
  | [], i, _ => by
    show Nat.testBit 0 i = _
    rw [Nat.zero_testBit]
    rfl
  | x :: xs, i, h => by
    obtain ⟨h1, h2⟩ := List.pairwise_cons.mp h
    have ih := mk_bit xs i h2
    obtain ⟨k, hk⟩ := mk_dvd (x + 1) xs fun z hz => h1 z hz
    rw [mk_cons, Nat.add_comm, hk, Nat.testBit_two_pow_mul_add k (Nat.pow_lt_pow_right (by decide) (Nat.lt_succ_self x))]
    rw [hk] at ih
    by_cases l : i < x + 1
    · rw [if_pos l, Nat.testBit_two_pow]
      have no : i ∉ xs := fun z => by
        have := h1 i z
        omega
      by_cases e : x = i
      · rw [decide_eq_true e, e, decide_eq_true List.mem_cons_self]
      · rw [decide_eq_false e, decide_eq_false fun z => (List.mem_cons.mp z).elim (fun q => e q.symm) no]
    · rw [if_neg l]
      have z := Nat.testBit_two_pow_mul_add k (b := 0) (i := x + 1) (Nat.two_pow_pos _) i
      rw [if_neg l, Nat.add_zero] at z
      rw [← z, ih]
      have ne : i ≠ x := by omega
      by_cases m : i ∈ xs
      · rw [decide_eq_true m, decide_eq_true (List.mem_cons_of_mem _ m)]
      · rw [decide_eq_false m, decide_eq_false fun q => (List.mem_cons.mp q).elim ne m]
/-- masks of lists that do not cross -/
theorem mk_and {xs ys : List Nat} (hx : xs.Pairwise (· < ·)) (hy : ys.Pairwise (· < ·)) (h : (∀ z ∈ xs, z ∉ ys) ∨ (∀ z ∈ xs, z ∈ ys) ∨ ∀ z ∈ ys, z ∈ xs) : mk xs &&& mk ys = 0 ∨ mk xs &&& mk ys = mk xs ∨ mk xs &&& mk ys = mk ys := by
  have bit : ∀ i, (mk xs &&& mk ys).testBit i = (decide (i ∈ xs) && decide (i ∈ ys)) := fun i => by rw [Nat.testBit_and, mk_bit xs i hx, mk_bit ys i hy]
  rcases h with h | h | h
  · refine .inl (Nat.eq_of_testBit_eq fun i => ?_)
    rw [bit, Nat.zero_testBit]
    by_cases m : i ∈ xs
    · rw [decide_eq_false (h i m), Bool.and_false]
    · rw [decide_eq_false m, Bool.false_and]
  · refine .inr (.inl (Nat.eq_of_testBit_eq fun i => ?_))
    rw [bit, mk_bit xs i hx]
    by_cases m : i ∈ xs
    · rw [decide_eq_true m, decide_eq_true (h i m)]
      rfl
    · rw [decide_eq_false m, Bool.false_and]
  · refine .inr (.inr (Nat.eq_of_testBit_eq fun i => ?_))
    rw [bit, mk_bit ys i hy]
    by_cases m : i ∈ ys
    · rw [decide_eq_true m, decide_eq_true (h i m)]
      rfl
    · rw [decide_eq_false m, Bool.and_false]
end LcM

/-! Data whose text is short. -/
namespace LcM
open PySem PySem.Spec PyProof.Rows L2
structure Brief (n : Nat) (d : PyData) : Prop where
  sh : d.showable = true
  dp : d.depth ≤ 10
  lv : PyData.leavesShort 13 d = true
  wt : d.weight ≤ n
def Smalls (ns : List Int) : Prop := ∀ x ∈ ns, x.natAbs < 10 ^ 12
theorem small_bits {n : Int} (h : n.natAbs < 10 ^ 12) : n.natAbs.log2 < 40 := by
  by_cases z : n.natAbs = 0
  · rw [z]
    decide
  · exact (Nat.log2_lt z).mpr (Nat.lt_trans h (by decide))
theorem show_ints : ∀ ns : List Int, Smalls ns → PyData.showableAll (ns.map .int) = true
  | [], _ => by simp only [List.map_nil, PyData.showableAll]
  | n :: ns, h => by
    have b := small_bits (h n List.mem_cons_self)
    simp only [List.map_cons, PyData.showableAll, PyData.showable, show_ints ns fun x m => h x (List.mem_cons_of_mem _ m), Bool.and_true]
    exact decide_eq_true (by omega)
theorem weight_ints : ∀ ns : List Int, Smalls ns → PyData.weightAll (ns.map .int) ≤ ns.length * 42
  | [], _ => by simp only [List.map_nil, PyData.weightAll]; exact Nat.zero_le _
  | n :: ns, h => by
    have b := small_bits (h n List.mem_cons_self)
    have ih := weight_ints ns fun x m => h x (List.mem_cons_of_mem _ m)
    simp only [List.map_cons, PyData.weightAll, PyData.weight, List.length_cons]
    split <;> omega
theorem brief_ints {ns : List Int} (h : Smalls ns) : Brief (ns.length * 42) (PyData.list (ns.map .int)) := by
  refine ⟨?_, ?_, ?_, ?_⟩
  · simp only [PyData.showable, show_ints ns h]
  · simp only [PyData.depth, PySem.W.depth_ints]
    decide
  · refine PyData.leavesShort_of_canLay0 13 _ ?_ ?_
    · simp only [PyData.canLay0, lay_ints]
    · simp only [PyData.intsShort]
      exact PyData.intsShortAll_ints ns h
  · simp only [PyData.weight]
    exact weight_ints ns h
def rowD (rs : List (List Int)) : List PyData := rs.map fun r => .list (r.map .int)
theorem show_rows : ∀ rs : List (List Int), (∀ r ∈ rs, Smalls r) → PyData.showableAll (rowD rs) = true
  | [], _ => by simp only [rowD, List.map_nil, PyData.showableAll]
  | r :: rs, h => by
    have ih := show_rows rs fun q m => h q (List.mem_cons_of_mem _ m)
    unfold rowD at ih ⊢
    simp only [List.map_cons, PyData.showableAll, PyData.showable, show_ints r (h r List.mem_cons_self), ih, Bool.and_self]
theorem short_rows : ∀ rs : List (List Int), (∀ r ∈ rs, Smalls r) → PyData.intsShortAll 13 (rowD rs) = true
  | [], _ => by simp only [rowD, List.map_nil, PyData.intsShortAll]
  | r :: rs, h => by
    have ih := short_rows rs fun q m => h q (List.mem_cons_of_mem _ m)
    unfold rowD at ih ⊢
    simp only [List.map_cons, PyData.intsShortAll, PyData.intsShort, ih, PyData.intsShortAll_ints r (h r List.mem_cons_self), Bool.and_self]
theorem weight_rows {m : Nat} : ∀ rs : List (List Int), (∀ r ∈ rs, Smalls r ∧ r.length ≤ m) → PyData.weightAll (rowD rs) ≤ rs.length * (m * 42 + 1)
  | [], _ => by simp only [rowD, List.map_nil, PyData.weightAll]; exact Nat.zero_le _
  | r :: rs, h => by
    have ih := weight_rows rs fun q m => h q (List.mem_cons_of_mem _ m)
    have l := (h r List.mem_cons_self).2
    have w := weight_ints r (h r List.mem_cons_self).1
    unfold rowD at ih ⊢
    simp only [List.map_cons, PyData.weightAll, PyData.weight, List.length_cons]
    rw [Nat.add_mul]
    omega
theorem brief_rows {rs : List (List Int)} {m : Nat} (h : ∀ r ∈ rs, Smalls r ∧ r.length ≤ m) : Brief (rs.length * (m * 42 + 1)) (PyData.list (rowD rs)) := by
  refine ⟨?_, ?_, ?_, ?_⟩
  · simp only [PyData.showable, show_rows rs fun r m => (h r m).1]
  · have := depth_rows rs
    unfold rowD
    simp only [PyData.depth]
    omega
  · refine PyData.leavesShort_of_canLay0 13 _ ?_ ?_
    · have := lay_rows rs
      unfold rowD
      simp only [PyData.canLay0, this]
    · simp only [PyData.intsShort]
      exact short_rows rs fun r m => (h r m).1
  · simp only [PyData.weight]
    exact weight_rows rs h
theorem brief_two {a b : PyData} {m n : Nat} (x : Brief m a) (y : Brief n b) (l : m + n ≤ 100000) :
    PyData.showableAll [a, b] = true ∧ PyData.depthAll [a, b] ≤ 40 ∧ (listText (PyData.shownAll [a, b])).length ≤ sizeLine := by
  refine ⟨?_, ?_, ?_⟩
  · simp only [PyData.showableAll, x.sh, y.sh, Bool.and_self]
  · have := x.dp
    have := y.dp
    simp only [PyData.depthAll]
    omega
  · have e : (PyData.list [a, b]).shown = listText (PyData.shownAll [a, b]) := by simp only [PyData.shown]
    rw [← e]
    refine PyData.shown_fits (B := 13) (by decide) (by decide) ?_ ?_
    · simp only [PyData.leavesShort, PyData.leavesShortAll, x.lv, y.lv, Bool.and_self]
    · have := x.wt
      have := y.wt
      simp only [PyData.weight, PyData.weightAll]
      omega
end LcM

/-! min(list of lists of ints, key=len). -/
namespace LcM
open PySem PySem.Spec PyProof PyProof.Rows L2 SortR
def lenAt (bs : List (Addr × List Int)) (i : Nat) : Int := ((bs.getD i (0, [])).2.length : Nat)
def firstMin (bs : List (Addr × List Int)) (i : Nat) : Prop := ∀ j, j < bs.length → lenAt bs i ≤ lenAt bs j ∧ (j < i → lenAt bs i < lenAt bs j)
def rMinLen (K : PySem.W.Frag) (Q : VK) : List V → Hp → Prop := fun vs H1 => ∃ (a : Addr) (bs : List (Addr × List Int)), vs = [.ref a] ∧ SqL K H1 a (bs.map fun b => V.ref b.1) ∧ (∀ b ∈ bs, SqL K H1 b.1 (b.2.map V.int)) ∧ bs ≠ [] ∧
  ∀ i, i < bs.length → firstMin bs i → Q (.ref (bs.getD i (0, [])).1) H1
def tMinLen (K : PySem.W.Frag) (te : TE) : TE := fun σ H Q => tCons te tNil σ H (rMinLen K Q)
section
variable {X : Cx} {e : Expr} {te : TE} {p p2 pos kp : Pos}
theorem ns_one {h : Heap} {a : Addr} {m m' : Str → Option Value} (x : h.Ns a m) (y : h.Ns a m') : m = m' := x.eq_nsMap.trans y.eq_nsMap.symm
/-- what only lets the names stand elsewhere changes nothing -/
theorem inv_fr {pins : List (Addr × Obj)} {σ : L2.St} {H : Hp} {s : Shared} {h' : Heap} {tk : Nat} {m : Str → Option Value} (I : Inv X pins σ H s) (n0 : s.heap.Ns X.env.locals m) (n1 : h'.Ns X.env.locals m) (keep : ∀ b o, b ≠ X.env.locals → s.heap.get? b = some o → h'.get? b = some o) :
    Inv X pins σ H { s with heap := h', toks := tk } := by
  refine I.step (ch := []) (fun b hb => nomatch hb) (fun b o nl _ _ q _ => keep b o nl q) (fun b o nl _ _ q _ => ⟨o.slots, keep b o nl q⟩) (fun b o _ _ z => z) (fun b o _ q => ?_) (fun _ _ z => z) (fun _ _ _ z => z) (fun _ ps z => ⟨#[], by rw [Array.append_empty]; exact z⟩) (fun m' z => ns_one n0 z ▸ n1) ?_ I.bare
  · by_cases el : b = X.env.locals
    · obtain ⟨o', _, _, q', _⟩ := n1
      exact ⟨o', el ▸ q'⟩
    · exact ⟨o, keep b o el q⟩
  · intro a o h
    refine (I.hok a o h).stay (fun b u hb q => keep b u (fun z => ?_) q) (fun _ z => z) (fun _ _ z => z)
    have f := I.free
    rw [← z] at f
    rcases hb with hb | hb
    · rw [hb, h] at f
      cases f
    · rw [hb] at f
      cases f
theorem pe_minLen (calm : X.calm = true) (hg : Gl X "min") (hm : X.mg "min" = none) (hl : Gl X "len") (ml : X.mg "len" = none) (he : PE X e te)
    (h1 : starEach [e] X.env = (false, eval e X.env) :: starEach [] X.env := by rfl) (h2 : backTo pos (starEach [e] X.env) = (false, eval e X.env) :: backTo pos (starEach [] X.env) := by rfl) (h3 : ((backTo pos (starEach [e] X.env)).any fun x => x.1) = false := by rfl) : PE X (.Call (.Name "min" p) [e] [⟨some "key", .Name "len" p2, kp⟩] pos) (tMinLen X.K te) := by
  refine ⟨fun pins s σ H Q I rd => ?_⟩
  refine wpAny_Call_Name_kw (ld_blt (u := Value.builtin "min") I hg hm (by decide +kernel) ?_)
  refine Rows.callWith_kw (thn ((pa_cons he pa_nil (hs := h1)).run pos pins s σ H (rMinLen X.K Q) I rd) fun us s1 ⟨vs, H1, I1, rv, q⟩ => ?_) h2 h3
  obtain ⟨a, bs, rfl, hA, hB, hne, k⟩ := q
  obtain ⟨u, rfl, ru⟩ := vals1 rv
  obtain rfl : u = Value.ref a := ru
  refine Rows.evalAll_cons (wpAny_bind (ld_blt (u := Value.builtin "len") I1 hl ml (by decide +kernel) (wpAny_bind (wpAny_standAt (wpAny_pure (Rows.evalAll_nil ?_))))))
  obtain ⟨its, rvs, pl, hz⟩ := I1.list hA
  obtain ⟨m, ns, look⟩ := I1.loc
  obtain ⟨m', fr'⟩ := I1.fr
  have fr : Rows.Fr X.base X.env.locals s1.heap m := ⟨ns, fr'.keep, fr'.above⟩
  have kept : ∀ h, Rows.Fr X.base X.env.locals h m → Rows.News X.base X.env.locals h (allNews X.base s1.heap X.env.locals) → ∀ b o, b ≠ X.env.locals → s1.heap.get? b = some o → h.get? b = some o := fun h f n b o nl q => by
    rcases Option.eq_none_or_eq_some (X.base.get? b) with z | ⟨o', z⟩
    · exact (n (b, o) (mem_allNews nl z q)).1
    · have := fr.keep b o' z
      rw [q] at this
      cases this
      exact f.keep b o z
  have apart : ∀ {b : Addr} {xs : Array Value}, PlainL s1.heap b xs → b ≠ X.env.locals := fun {b xs} hb z => by
    obtain ⟨o, n, g, _, _, d⟩ := hb
    obtain ⟨o', es, ep, g', d', _⟩ := ns
    rw [z, g'] at g
    cases g
    rw [d'] at d
    cases d
  have len : its.length = bs.length := by
    rw [← rvs.length, List.length_map]
  have get : ∀ {i : Nat} {v : Value}, its[i]? = some v → i < bs.length ∧ v = Value.ref (bs.getD i (0, [])).1 := fun {i v} hv => by
    have il : i < bs.length := by
      rw [← len]
      exact (List.getElem?_eq_some_iff.mp hv).1
    refine ⟨il, ?_⟩
    have e1 : (bs.map fun b => V.ref b.1)[i]? = some (V.ref (bs.getD i (0, [])).1) := by
      rw [List.getElem?_map, List.getElem?_eq_getElem il, List.getD_eq_getElem?_getD, List.getElem?_eq_getElem il]
      rfl
    obtain ⟨u, hu, ru⟩ := rvs.get e1
    rw [hv] at hu
    cases hu
    exact ru
  refine Rows.kmb_min (kid := "len") (news := allNews X.base s1.heap X.env.locals) (vs := its) (lenAt bs) (I1.ok.hd calm) fr news_all (fun h f n => (pl.at fun o q => kept h f n a o (apart pl) q).isList) ?_ (fun i v hv h tk own f n => ?_) fun i v h' tk' hv hmin f n => ?_
  · rw [len]
    rcases Nat.eq_zero_or_pos bs.length with z | z
    · exact absurd (List.length_eq_zero_iff.mp z) hne
    · exact z
  · obtain ⟨il, rfl⟩ := get hv
    have n' : Rows.News X.base X.env.locals h (allNews X.base s1.heap X.env.locals) := fun p hp => n p (List.mem_append_left _ hp)
    have mem : bs.getD i (0, []) ∈ bs := by
      rw [List.getD_eq_getElem?_getD, List.getElem?_eq_getElem il]
      exact List.getElem_mem il
    obtain ⟨rs, rvr, plr, hzr⟩ := I1.list (hB _ mem)
    have lenr : rs.length = (bs.getD i (0, [])).2.length := by rw [← rvr.length, List.length_map]
    refine Calls.call_len_list ((plr.at fun o q => kept h f n' _ o (apart plr) q).isList) ?_ ⟨h, _, tk + 1, rfl, ?_, f, n⟩
    · rw [List.size_toArray, lenr]
      rw [List.length_map] at hzr
      have : sizeLine < 2 ^ 63 := by decide
      omega
    · unfold lenAt
      rw [List.size_toArray, lenr]
  · obtain ⟨il, rfl⟩ := get hv
    refine ⟨V.ref (bs.getD i (0, [])).1, H1, inv_fr I1 ns f.ns (kept h' f n), rfl, k i il fun j jl => ?_⟩
    exact hmin j (by rw [len]; exact jl)
end
end LcM

/-! for i, x in enumerate(list, start=k). -/
namespace LcM
open PySem PySem.Spec PyProof PyProof.Rows L2
def ItS (K : PySem.W.Frag) (a : Addr) (k : Int) : It where
  go := fun i H => ∃ xs x, SqL K H a xs ∧ xs[i]? = some x
  yld := fun i H v H' => ∃ T x, v = .ref T ∧ H T = none ∧ H' = upd H T (.tup [.int (k + (i : Nat)), x]) ∧ ∀ xs, SqL K H a xs → xs[i]? = some x
  stop := fun i H => ∃ xs, SqL K H a xs ∧ xs.length = i
theorem turn_enumS {P : Program} {w : World} {K : PySem.W.Frag} {elts : List Expr} {kk : Nat} {tpos : Pos} (a e it : Addr) (k : Int) :
    Turn P w K (.Tuple elts kk tpos) (ItS K a k) [e, it] e (fun i h => (∃ old, IsEnum h e it (k + (i : Nat)) old) ∧ h.IsListIter it a i ∧ e ≠ it) where
  mem := by simp
  obj := fun t h st b hb => by
    obtain ⟨⟨old, ie⟩, ⟨o, ho, _, hd⟩, _⟩ := st
    have q : b = e ∨ b = it := by simpa using hb
    rcases q with q | q
    · rw [q]
      exact ⟨_, ie, fun v z => nomatch z⟩
    · rw [q]
      exact ⟨o, ho, fun v z => by rw [hd] at z; cases z⟩
  keep := fun t h h' st kp => by
    obtain ⟨⟨old, ie⟩, ⟨o, ho, hc, hd⟩, ne⟩ := st
    exact ⟨⟨old, kp e (by simp) _ ie⟩, ⟨o, kp it (by simp) _ ho, hc, hd⟩, ne⟩
  item := by
    intro X hP hw hK hc i pins s σ H E I hf st hg
    subst hP hw hK
    obtain ⟨⟨old, ie⟩, li, ne⟩ := st
    obtain ⟨xs, x, hS, hx⟩ := hg
    obtain ⟨its, rv, pl, hz⟩ := I.list hS
    have hli := li
    obtain ⟨oi, hoi, hci, hdi⟩ := hli
    have ha_e : a ≠ e := fun z => by
      obtain ⟨o, ho, hcl, _⟩ := pl.isList
      rw [z, ie] at ho
      cases ho
      exact absurd (Value.type.inj hcl) (by decide)
    have ha_it : a ≠ it := fun z => by
      obtain ⟨o, ho, hcl, _⟩ := pl.isList
      rw [z, hoi] at ho
      cases ho
      rw [hci] at hcl
      exact absurd (Value.type.inj hcl) (by decide)
    have il : i < its.toArray.size := by
      rw [List.size_toArray, ← rv.length]
      exact (List.getElem?_eq_some_iff.mp hx).1
    obtain ⟨u, hu, ru⟩ := rv.get hx
    have W := WalksT.enumFrom (prog := X.prog) (w := X.w) (A := X.A) k (Draws.list (A := X.A.in1) (by exact I.ok.hd hc) it a ha_it its.toArray) e ne (fun z => by simp at z; exact z.elim ne ha_e.symm) (List.mem_cons_self)
    refine W.item i s _ E il ⟨⟨old, ie⟩, li, pl.isList⟩ fun T vals h' tk pt big isT mid keep => ⟨.ref T, rfl, W.go elts kk tpos i T { s with heap := h', toks := tk } _ E mid fun h2 st2 keep2 => ?_⟩
    obtain ⟨t, y, py, rfl⟩ := pt
    have ey : y = u := by
      have q : its.toArray[i]? = some y := py
      rw [List.getElem?_toArray, hu] at q
      cases q
      rfl
    subst ey
    have nT := W.apart i T h' mid
    obtain ⟨oT, gT, cT, n, dT⟩ := isT
    have gT2 := keep2 T oT nT gT
    have obj : ObjOk X.prog X.w (upd H T (.tup [.int (k + (i : Nat)), x])) h2 T (.tup [.int (k + (i : Nat)), x]) :=
      ⟨by show 2 ≤ sizeLine; decide, [_, y], .cons ⟨t, rfl⟩ (.cons ru .nil), ⟨oT, gT2, cT, n, dT⟩⟩
    have I1 : Inv X pins σ (upd H T (.tup [.int (k + (i : Nat)), x])) { s with heap := h2, toks := tk } :=
      I.turnedNew (t' := tk) (ch := [e, it]) (fun c o hb q => keep2 c o hb (keep c o hb q)) hf big obj
    refine ⟨.ref T, _, I1, rfl, ⟨T, x, rfl, I.hok.fresh big, rfl, fun xs' h' => ?_⟩, ⟨?_, st2.2.1, ne⟩, fun b hb => ?_⟩
    · rw [I.list_inj h' hS]
      exact hx
    · obtain ⟨⟨old', ie'⟩, _⟩ := st2
      exact ⟨old', ie'⟩
    · have low : b < s.heap.objs.size := by
        have q : b = e ∨ b = it := by simpa using hb
        rcases q with q | q
        · rw [q]; exact Heap.lt_size ie
        · rw [q]; exact Heap.lt_size hoi
      rw [upd_ne (Nat.ne_of_lt (Nat.lt_of_lt_of_le low big))]
      exact (hf b hb).1
  done := by
    intro X hP hw hK hc i pins s σ H E I hf st hg
    subst hP hw hK
    obtain ⟨⟨old, ie⟩, li, ne⟩ := st
    obtain ⟨xs, hS, rfl⟩ := hg
    obtain ⟨its, rv, pl, hz⟩ := I.list hS
    have hli := li
    obtain ⟨oi, hoi, hci, hdi⟩ := hli
    have ha_e : a ≠ e := fun z => by
      obtain ⟨o, ho, hcl, _⟩ := pl.isList
      rw [z, ie] at ho
      cases ho
      exact absurd (Value.type.inj hcl) (by decide)
    have ha_it : a ≠ it := fun z => by
      obtain ⟨o, ho, hcl, _⟩ := pl.isList
      rw [z, hoi] at ho
      cases ho
      rw [hci] at hcl
      exact absurd (Value.type.inj hcl) (by decide)
    have sz : its.toArray.size = xs.length := by rw [List.size_toArray, ← rv.length]
    have W := WalksT.enumFrom (prog := X.prog) (w := X.w) (A := X.A) k (Draws.list (A := X.A.in1) (by exact I.ok.hd hc) it a ha_it its.toArray) e ne (fun z => by simp at z; exact z.elim ne ha_e.symm) (List.mem_cons_self)
    refine W.done s _ E (by rw [sz]; exact ⟨⟨old, ie⟩, li, pl.isList⟩) fun h' tk keep => ⟨rfl, ?_⟩
    exact I.turnedL (t' := tk) (ch := [e, it]) keep hf
  self := fun A i s Q E st q => by
    obtain ⟨⟨old, ie⟩, _⟩ := st
    exact wpAny_pyIter_enum ie q
section
variable {X : Cx} {K : PySem.W.Frag} {a : Addr} {xs : List V} {g : TG} {tb : TS} {Dn : Ends} {σ : L2.St} {H0 : Hp}
def iEnumS (K : PySem.W.Frag) (k : Int) (ta : TA) : TI := fun σ H R => ta σ H fun vs H1 => ∃ a xs, vs = [.ref a] ∧ SqL K H1 a xs ∧ R (ItS K a k) H1
theorem pi_enumS {elts : List Expr} {kk : Nat} {tpos p p2 pos kp : Pos} {e : Expr} {ta : TA} {k : Int} {j : Nat} (hg : Gl X "enumerate") (hm : X.mg "enumerate" = none) (h0 : -2 ^ 63 ≤ k) (h1 : k < 2 ^ 63) (ha : PA X [e] ta) (calm : X.calm = true)
    (hs : starEach [e] X.env = (false, eval e X.env) :: starEach [] X.env := by rfl) (hb : backTo pos (starEach [e] X.env) = (false, eval e X.env) :: backTo pos (starEach [] X.env) := by rfl) (hpl : (backTo pos (starEach [e] X.env)).any (·.1) = false := by rfl) :
    PI X (.Tuple elts kk tpos) (.Call (.Name "enumerate" p) [e] [⟨some "start", .Constant (.int k) j p2, kp⟩] pos) (iEnumS X.K k ta) := by
  refine ⟨fun pins s σ H R I h => ?_⟩
  refine wpAny_Call_Name_kw (ld_blt (u := Value.type "enumerate") I hg hm (by decide +kernel) ?_)
  refine PySem.W.callWith_of (P := fun _ => True) (by rw [hpl]; rfl) (fun _ _ => ⟨.machine, .inr (.inl rfl), fun _ _ _ _ _ q => wpAny_pure q⟩) ?_
  refine Rows.evalArgs_kw2 (by rfl) (thn (ha.run pos pins s σ H _ I h) fun us s1 ⟨vs, H1, I1, r1, q1⟩ => ?_) hs
  obtain ⟨a, xs, rfl, hq, q⟩ := q1
  obtain ⟨u1, rfl, e1⟩ := vals1 r1
  obtain rfl : u1 = Value.ref a := e1
  refine thn ((pk_cons (nm := some "start") pe_int pk_nil).run pos pins s1 σ H1 (fun zs G => zs = [V.int k] ∧ G = H1) I1 ⟨rfl, rfl⟩) fun ks s2 ⟨zs, G, I2, r2, ez, eG⟩ => ⟨trivial, ?_⟩
  subst ez eG
  obtain ⟨u2, rfl, ⟨t, rfl⟩⟩ := vals1 r2
  obtain ⟨its, rv, pl, hz⟩ := I2.list hq
  refine enum_begins_start (begins_list a its.toArray) pl.isList h0 h1 fun h' ie git size keep => ?_
  have J : Inv X pins σ G { s2 with heap := h' } := I2.kept (t' := s2.toks) keep
  refine wpAny_pyIter_enum (s := { s2 with heap := h' }) ie ⟨s2.heap.objs.size + 1, [s2.heap.objs.size + 1, s2.heap.objs.size], _, _, G, rfl, J, turn_enumS a (s2.heap.objs.size + 1) s2.heap.objs.size k, ⟨⟨.none, ?_⟩, ⟨_, git, rfl, rfl⟩, Nat.succ_ne_self _⟩, fun b hb => ?_, q⟩
  · show IsEnum h' (s2.heap.objs.size + 1) s2.heap.objs.size (k + ((0 : Nat) : Int)) .none
    rw [Int.natCast_zero, Int.add_zero]
    exact ie
  · have low : s2.heap.objs.size ≤ b := by
      have e : b = s2.heap.objs.size + 1 ∨ b = s2.heap.objs.size := by simpa using hb
      rcases e with e | e
      · rw [e]; exact Nat.le_succ _
      · rw [e]; exact Nat.le_refl _
    have q' := I2.fpOk low (I2.hok.fresh low)
    exact q'
/-- for i, x in enumerate(list, start=k) -/
theorem for_enumS {k : Int} (Pv : Nat → L2.St → Hp → Prop) (h0 : Pv 0 σ H0) (hl : ∀ i σ H, Pv i σ H → SqL K H a xs)
    (hs : ∀ (i : Nat) (x : V) (T : Addr) (σ : L2.St) (H : Hp), xs[i]? = some x → Pv i σ H → H T = none → g (.ref T) σ (upd H T (.tup [.int (k + (i : Nat)), x])) fun σ2 H2 => tb { Dn with nx := Pv (i + 1), ct := Pv (i + 1), bk := Dn.nx } σ2 H2) (hd : ∀ σ H, Pv xs.length σ H → Dn.nx σ H) :
    ∃ W : Nat → Nat → L2.St → Hp → Prop, (∃ m, W 0 m σ H0) ∧ ∀ i m σ H, W i m σ H →
      ((ItS K a k).stop i H ∧ Dn.nx σ H) ∨ ((ItS K a k).go i H ∧ ∃ N : L2.St → Hp → Prop, (∀ σ' H', N σ' H' → ∃ m', m' < m ∧ W (i + 1) m' σ' H') ∧ ∀ v H', (ItS K a k).yld i H v H' → g v σ H' fun σ2 H2 => tb { Dn with nx := N, ct := N, bk := Dn.nx } σ2 H2) := by
  refine ⟨fun i m σ H => m = xs.length - i ∧ i ≤ xs.length ∧ Pv i σ H, ⟨_, rfl, Nat.zero_le _, h0⟩, ?_⟩
  rintro i m σ H ⟨rfl, hi, pv⟩
  have qx := hl i σ H pv
  rcases Nat.lt_or_ge i xs.length with lt | ge
  · have ex : xs[i]? = some xs[i] := List.getElem?_eq_getElem lt
    refine .inr ⟨⟨xs, _, qx, ex⟩, Pv (i + 1), fun σ' H' p' => ⟨xs.length - (i + 1), by omega, rfl, lt, p'⟩, fun v H' y => ?_⟩
    obtain ⟨T, x, rfl, hT, rfl, same⟩ := y
    exact hs i x T σ H (same xs qx) pv hT
  · have e : i = xs.length := by omega
    subst e
    exact .inl ⟨⟨xs, qx, rfl⟩, hd σ H pv⟩
end
end LcM

/-! xs[::-1] of a list. -/
namespace LcM
open PySem PySem.Spec PyProof PyProof.Rows L2
theorem vals_revE : ∀ {xs : List V} {us : List Value}, Vals xs us → Vals xs.reverse us.reverse
  | _, _, .nil => .nil
  | _, _, .cons r t => by
    rw [List.reverse_cons, List.reverse_cons]
    exact (vals_revE t).append (.cons r .nil)
def tRev (K : PySem.W.Frag) (te : TE) : TE := fun σ H Q => te σ H fun x H1 => ∃ (a : Addr) (xs : List V), x = .ref a ∧ SqL K H1 a xs ∧ ∀ D, H1 D = none → Q (.ref D) (upd H1 D (.lst xs.reverse))
section
variable {X : Cx} {te : TE} {x : Str} {p p2 p3 p4 pos : Pos} {j : Nat}
theorem pe_rev (he : PE X (.Name x p) te) : PE X (.Subscript (.Name x p) (.Slice none none (some (.UnaryOp .USub (.Constant (.int 1) j p2) p3)) p4) pos) (tRev X.K te) := by
  refine ⟨fun pins s σ H Q I rd => ?_⟩
  refine Rows.Subscript_ (thn (he.run pins s σ H _ I rd) fun v s1 ⟨y, H1, I1, rv, a, xs, ey, hS, k⟩ => ?_)
  subst ey
  obtain rfl : v = Value.ref a := rv
  refine wpAny_Slice (wpAny_pure (wpAny_pure (thn ((po_some (pe_un un_neg pe_int)).run pins s1 σ H1 (fun o G => o = some (-1) ∧ G = H1) I1 ?_) fun st s2 ⟨o, G, I2, ip, eo, eG⟩ => ?_)))
  · exact ⟨1, rfl, -1, rfl, rfl, rfl⟩
  · subst eo eG
    obtain ⟨its, rvs, pl, hz⟩ := I2.list hS
    have up : ∀ b o, s2.heap.get? b = some o → (s2.heap.push { cls := .type "slice", data := .fields #[.none, .none, st] }).get? b = some o := fun b o q => Heap.get?_push_of_some _ q
    have isl := (pl.keeps up).isList
    have gs : (s2.heap.push { cls := .type "slice", data := .fields #[.none, .none, st] }).get? s2.heap.objs.size = some { cls := .type "slice", data := .fields #[.none, .none, st] } := Heap.get?_push_size _ rfl
    refine Rows.subscriptTail_ops (T := "list") (id := "list.__getitem__") ?_ PySem.F.slot_list_getitem.lookup (wpAny_getItem_list_slice isl ⟨_, gs, rfl, rfl⟩ .none .none ip (by decide) ?_ (by rw [List.size_toArray, ← rvs.length]; exact hz)) rfl fun _ => rfl
    · exact isl.typeIs (s := { s2 with heap := s2.heap.push { cls := .type "slice", data := .fields #[.none, .none, st] } })
    · rw [PySem.W.krv_pick]
      have big : s2.heap.objs.size ≤ (s2.heap.push { cls := .type "slice", data := .fields #[.none, .none, st] }).objs.size := by
        rw [Heap.size_push]
        exact Nat.le_succ _
      refine ⟨.ref _, upd G _ (.lst xs.reverse), I2.laid (t' := s2.toks) (fun b o q => Heap.get?_push_of_some _ (up b o q)) big ⟨?_, its.reverse, 0, ?_, ?_⟩, rfl, k _ (I2.hok.fresh big)⟩
      · rw [List.length_reverse]
        exact hz
      · exact vals_revE rvs
      · exact Heap.get?_push_size _ rfl
end
end LcM

/-! set(xs), xs a list of ints; the layer has it for tuples (HandS.SetFor), whose steps this follows with a list's. -/
namespace SetL
open PySem PySem.Spec PyProof.Rows L2
/-- a set that was just made -/
abbrev mt (w : World) : Obj := ⟨.type "set", none, .set #[] 0 (.fresh 0 0 (!w.params.followText "set-order")), #[]⟩
section
variable {P : Program} {w : World} {A : Around} {E : Value → Shared → Prop} {s : Shared} {ns : List Int} {l : Addr} {xs : Array Value}
/-- what the set holds when it's made -/
abbrev Made (w : World) (s : Shared) (ns : List Int) (h' : Heap) (c : Nat) : Prop := SetR w h' s.heap.objs.size (fun j => decide (j ∈ ns)) c ∧ c ≤ ns.length ∧ ∀ b o, s.heap.get? b = some o → h'.get? b = some o
abbrev EndI (w : World) (E : Value → Shared → Prop) (s : Shared) (ns : List Int) : Result → Shared → Prop :=
  wants (fun r s₂ => r = .none ∧ ∃ h' tk c, s₂ = { s with heap := h', toks := tk } ∧ Made w s ns h' c) E
/-- its __init__ -/
theorem init_ints (hh : A.handled = none) (hl : s.heap.IsList l xs) (hx : IntsAre xs.toList ns) (few : ns.length + 1 < scanBound)
    (ty : Shared.TypeIs { s with heap := s.heap.push (mt w) } (.ref s.heap.objs.size) "set") :
    wpAny (model P w) A (call (.type "set") [.ref l]) (fun v s' => ∃ h' tk c, v = .ref s.heap.objs.size ∧ s' = { s with heap := h', toks := tk } ∧ Made w s ns h' c) E s := by
  have sz : xs.size = ns.length := by
    have q := IntsAre.length hx
    rwa [Array.length_toList] at q
  obtain ⟨_, _, mro⟩ := F.called_set.mro
  have m1 := F.called_set.made
  have m2 := F.called_set.sub
  have m3 := F.called_set.notType
  have m4 := F.called_set.canCreate
  have m5 := F.typeCall_set_1 (.ref l)
  refine wpAny_call <| codeAny_of_tree ?_
  show wpAny (model P w) _ (callAny (.type "set") ⟨[.ref l], []⟩) _ _ _
  refine wpAny_pure <| ⟨Code.quiet_builtin _ (by decide +kernel), codeAny_builtin F.entry_type_call ?_⟩
  rw [Around.under_plain (weight_type_call_type "set" [.ref l] []) rfl]
  repeat (any_goals (first | wp_step | assumption))
  refine codeAny_mono (code_set_led1 (.ref l) (E := E) (Q₁ := fun v s₁ => v = .ref s.heap.objs.size ∧ s₁ = { s with heap := s.heap.push (mt w) }) ⟨rfl, rfl⟩) fun r s₁ hr => ?_
  rcases r with e | fl
  · exact hr
  rcases fl with v | _ | _ | _
  all_goals try exact hr.elim
  obtain ⟨rfl, rfl⟩ := hr
  have i1 := F.called_set.init.lookup
  have i2 := F.called_set.init.bind (.ref s.heap.objs.size)
  repeat (any_goals (first | wp_step | assumption))
  refine codeAny_mono (codeAny_call_builtin (R := EndI w E s ns) F.called_set.init.plain F.entry_set_init (check_set_init_1 ty ?_)) fun r2 s2 hr2 => ?_
  · obtain ⟨o, ho, hc, k, hd⟩ := hl
    obtain ⟨oc, od, dat, sl⟩ := o
    dsimp only at hc hd
    subst hc hd
    have at_l : (s.heap.push (mt w)).get? l = some ⟨.type "list", od, .seq xs k, sl⟩ := Heap.get?_push_of_some _ ho
    have is_l : (s.heap.push (mt w)).IsList l xs := ⟨_, at_l, rfl, k, rfl⟩
    have n1 := F.sub_list_set
    have n2 := F.sub_list_frozenset
    have n3 : (Value.type "list" == Value.type "dict") = false := by decide
    have low : l < s.heap.objs.size := Heap.lt_size ho
    have big : (s.heap.push (mt w)).objs.size = s.heap.objs.size + 1 := Heap.size_push ..
    unfold Builtin.«set.__init__» noKeywords Builtin.Frozenset.updateFrom
    generalize ei : pyIter = it
    wp_walk
    subst ei
    refine wpAny_pyIter_list is_l (wpAny_bind (wpAny_runValue ?_))
    have cold : A.in1.in1.in1.handled = none := by simp [hh]
    have off : l ≠ (s.heap.push (mt w)).objs.size := by
      rw [big]
      exact Nat.ne_of_lt (Nat.lt_succ_of_lt low)
    have apart : s.heap.objs.size ∉ [(s.heap.push (mt w)).objs.size, l] := fun z => by
      rw [big] at z
      simp only [List.mem_cons, List.not_mem_nil, or_false] at z
      rcases z with z | z
      · exact absurd z (Nat.ne_of_lt (Nat.lt_succ_self _))
      · exact absurd z (Nat.ne_of_gt low)
    have each : ∀ (i : Nat) (v : Value), xs[i]? = some v → ∃ n t, ns[i]? = some n ∧ v = .int n t := fun i v hv => by
      have il : i < ns.length := by
        have := (Array.getElem?_eq_some_iff.mp hv).1
        omega
      obtain ⟨t, e⟩ := IntsAre.int_at hx i v (by rw [Array.getElem?_toList, hv])
      refine ⟨ns[i], t, List.getElem?_eq_getElem il, e.trans ?_⟩
      rw [List.getD_eq_getElem?_getD, List.getElem?_eq_getElem il]
      rfl
    have self : (s.heap.push (mt w)).get? s.heap.objs.size = some (mt w) := Heap.get?_push_size _ rfl
    refine set_update_ints ((Walks.list cold _ l off xs).toS) s.heap.objs.size apart ns sz few each xs.size 0 _ rfl (Nat.zero_le _) ⟨⟨_, Heap.get?_push_size _ rfl, rfl, rfl⟩, is_l.push _⟩ ⟨0, Nat.le_refl 0, setR_new_at (Heap.get?_push_of_some _ self)⟩ ?_
    rintro ⟨h', g', d', tk', os'⟩ c mv cl R
    obtain rfl : g' = s.gens := mv.gens
    obtain rfl : d' = s.drawn := mv.drawn
    obtain rfl : os' = s.os := mv.os
    refine wpAny_pure (show wpAny _ _ (ret Value.none) _ _ _ from wpAny_pure ⟨rfl, h', tk', c, rfl, R, by omega, fun b o e => ?_⟩)
    have bl : b < s.heap.objs.size := Heap.lt_size e
    refine mv.heap b o (fun z => ?_) (Heap.get?_push_of_some _ (Heap.get?_push_of_some _ e))
    simp only [List.mem_cons, List.not_mem_nil, or_false] at z
    rcases z with z | z
    · exact absurd z (Nat.ne_of_lt bl)
    · have z : b = (s.heap.push (mt w)).objs.size := z
      rw [big] at z
      exact absurd z (Nat.ne_of_lt (Nat.lt_succ_of_lt bl))
  · rcases r2 with e | fl
    · exact hr2
    rcases fl with v | _ | _ | _
    all_goals try exact hr2.elim
    obtain ⟨rfl, h', tk, c, rfl, made⟩ := hr2
    repeat (any_goals (first | wp_step | assumption))
    exact ⟨h', _, c, rfl, rfl, made⟩
theorem call_ints (hh : A.handled = none) (hl : s.heap.IsList l xs) (hx : IntsAre xs.toList ns) (few : ns.length + 1 < scanBound) {Q : Value → Shared → Prop} (h : ∀ h' tk c, Made w s ns h' c → Q (.ref s.heap.objs.size) { s with heap := h', toks := tk }) :
    wpAny (model P w) A (call (.type "set") [.ref l]) Q E s :=
  thn (init_ints hh hl hx few ⟨_, Heap.get?_push_size _ rfl, rfl⟩) fun v s' ⟨h', tk, c, e1, e2, m⟩ => by
    subst e1 e2
    exact h h' tk c m
end
section
variable {X : Cx}
/-- set(xs) -/
def rSetL (K : PySem.W.Frag) (w : World) : List V → Hp → VK → Prop := fun xs H Q => ∃ (l : Addr) (ns : List Int), xs = [.ref l] ∧ SqL K H l (ns.map V.int) ∧ ns.length ≤ 60 ∧
  ∀ (p : Addr) (n : Nat), H p = none → n ≤ ns.length → Q (.ref p) (upd H p (SetO w p (fun j => decide (j ∈ ns)) n))
theorem cr_setL (hc : X.calm = true) : CallR X (.type "set") (rSetL X.K X.w) := by
  intro pins s σ H xs us Q I r h
  obtain ⟨l, ns, rfl, hq, few, q⟩ := h
  rw [Vals.ref1 r]
  obtain ⟨its, rv, pl, hz⟩ := I.list hq
  refine call_ints (I.ok.hd hc) pl.isList (ns := ns) (by simpa using rv.ints) (by unfold scanBound; omega) fun h' tk c ⟨R, cl, keep⟩ => ?_
  have hn : H s.heap.objs.size = none := I.hok.fresh (Nat.le_refl _)
  exact ⟨.ref _, _, I.laid (t' := tk) keep (Nat.le_refl _) (setO_new R), rfl, q _ c hn cl⟩
end
end SetL

/-! repr of a bool -/
namespace RepBl
open PySem PySem.Spec PyProof.Rows L2
def txB (b : Bool) : Str := if b then "True" else "False"
theorem txB_inj (a b : Bool) : decide (txB a = txB b) = decide (a = b) := by
  cases a <;> cases b <;> decide +kernel
def rRepB : List V → Hp → VK → Prop := fun xs H Q => ∃ b, xs = [V.bl b] ∧ Q (.str (txB b)) H
theorem call_repr_bl {X : Cx} : CallR X (.builtin "repr") rRepB := by
  intro pins s σ H xs us Q I r h
  obtain ⟨b, rfl, q⟩ := h
  obtain ⟨u, rfl, t⟩ := vals1 r
  cases t
  exact PySem.P.repr_of_bool ⟨.str _, H, I.tok _, ⟨_, rfl⟩, q⟩
end RepBl

namespace K01
open PySem PySem.Spec PyProof.Rows L2 LcM
def top (i : Nat) : Stmt := PySem.Challenge.pw_twopartings_k01_partings_judged.main.body.getD i (.Pass ⟨0, 0, 0, 0⟩)
abbrev sPouch : Stmt := top 14
abbrev sDip : Stmt := top 15
abbrev sItems : Stmt := top 16

/-! ### power of a great base -/
def CPowW (i j : Int) : Prop := 0 ≤ j ∧ (Builtin.Int.intBits i : Int) * j ≤ 2 ^ 27
section
variable {X : Cx}
theorem op_powW : OpR X (binaryOp .Pow) (rI CPowW fun i j => .int (i ^ j.toNat)) := opI fun _ _ _ _ _ _ _ hc q => pow_int hc.1 hc.2 q
end
theorem bits_of {i : Int} {n : Nat} (h : i.natAbs < 2 ^ n) (h0 : 0 < n) : Builtin.Int.intBits i ≤ n := by
  unfold Builtin.Int.intBits
  split
  · omega
  · have := PySem.Flt.log2_lt_of h0 h
    omega
theorem pow3' {i : Int} {n : Nat} (h : i.natAbs < 2 ^ 64) (hn : n ≤ 1000) : CPowW i n := ⟨by omega, by
  have := bits_of h (by decide)
  have z : (Builtin.Int.intBits i : Int) * (n : Int) ≤ 64 * 1000 := Int.mul_le_mul (by omega) (by omega) (by omega) (by decide)
  omega⟩
theorem pow3 {i : Int} (h : i.natAbs < 2 ^ 300) : CPowW i 3 := ⟨by decide, by have := bits_of h (by decide); omega⟩

/-! ### the heap grows: all of it stays but at one place -/
def Gr (p : Addr) (H H' : Hp) : Prop := ∀ b o, b ≠ p → H b = some o → H' b = some o
theorem Gr.refl {p : Addr} {H : Hp} : Gr p H H := fun _ _ _ e => e
theorem Gr.trans {p : Addr} {H H1 H2 : Hp} (x : Gr p H H1) (y : Gr p H1 H2) : Gr p H H2 := fun b o n e => y b o n (x b o n e)
theorem Gr.new {p a : Addr} {H : Hp} {o : HO} (h : H a = none) : Gr p H (upd H a o) := fun b u n e => by
  rw [upd_ne (ne_of_none e h)]
  exact e
theorem Gr.at {p : Addr} {H : Hp} {o : HO} : Gr p H (upd H p o) := fun b u n e => by
  rw [upd_ne n]
  exact e
theorem _root_.LcM.Grows.gr {p : Addr} {H H' : Hp} (x : Grows H H') : Gr p H H' := fun b o _ e => x b o e
/-! ### the pouch -/
def Pch (H : Hp) (p : Addr) (m : Int) : Prop := ∃ d b n : Int, H p = some (.lst [.int d, .int b, .int n]) ∧ 0 ≤ b ∧ b < 2 ^ 200 ∧ 0 ≤ n ∧ n ≤ m
theorem Pch.le {H : Hp} {p : Addr} {m k : Int} (h : Pch H p m) (l : m ≤ k) : Pch H p k := by
  obtain ⟨d, b, n, e, h1, h2, h3, h4⟩ := h
  exact ⟨d, b, n, e, h1, h2, h3, by omega⟩
theorem Pch.same {H H' : Hp} {p : Addr} {m : Int} (h : Pch H p m) (s : Grows H H') : Pch H' p m := by
  obtain ⟨d, b, n, e, r⟩ := h
  exact ⟨d, b, n, s _ _ e, r⟩
structure Txt0 (mg : Str → Option Value) : Prop where
  int : mg "int" = none
  range : mg "range" = none
  len : mg "len" = none
  abs : mg "abs" = none
  max : mg "max" = none
  min : mg "min" = none
def spPouch (K : PySem.W.Frag) : Sp := fun vs H Q _ => ∃ (a : Addr) (i : Int) (ns : List Int), vs = [.ref a, .int i] ∧ SqL K H a (ns.map V.int) ∧ 0 ≤ i ∧ i < 1000 ∧ ∀ (p : Addr) (H' : Hp), H p = none → Grows H H' → Pch H' p 0 → Q (.ref p) H'
def spDip : Sp := fun vs H Q _ => ∃ (p : Addr) (w m : Int), vs = [.ref p, .int w] ∧ Pch H p m ∧ m < 2 ^ 60 ∧ 0 < w ∧ w.natAbs < 2 ^ 200 ∧ ∀ (v : Int) (H' : Hp), 0 ≤ v → v < w → Pch H' p (m + 1) → (∀ b, b ≠ p → H' b = H b) → Q (.int v) H'

section
variable {P : Program} {w : World} {K : PySem.W.Frag} {mg : Str → Option Value} {base : Heap}
theorem scPouch : FnScope ["script", "at", "cell"] ["script", "at"] (defScope sPouch) := ⟨rfl, rfl, rfl, by decide +kernel, rfl, by decide +kernel, by decide +kernel⟩
theorem ok_pouch {f : Addr} {fd : FuncData} (F : Fun K "_law_pouch" "_law_pouch" sPouch f fd) (T : Txt0 mg) : FnOk P w K mg base CX0 1 f fd ["script", "at"] (spPouch K) := by
  refine F.ok scPouch (fun vs H Q E h => ?_) (fun cdv A outer s H vs Q E hr h => ?_)
  · obtain ⟨a, i, ns, rfl, _⟩ := h
    rfl
  · obtain ⟨a, i, ns, rfl, hS, h0, h1, k⟩ := h
    refine ⟨_, (pss_cons (ps_set (i := 2) scPouch.nd rfl (.inl rfl) (pe_ifExp (pt_cmpR op_lt (pv 1) (pe_callB call_len_seq (by rfl) T.len (by decide +kernel) (pa_cons (pv 0) pa_nil)) (nomark _)) (pe_ix (r := rIxL K) ix_list (pv 0) (pv 1) (fun _ _ => rfl)) pe_int))
      (pss_one (ps_ret (pe_lst (pa_cons (pe_callB (call_max2 rfl) (by rfl) T.max (by decide +kernel) (pa_cons pe_int (pa_cons (pe_op op_sub (pe_callB call_abs (by rfl) T.abs (by decide +kernel) (pa_cons (pv 2) pa_nil)) (pe_op op_powW pe_int pe_int)) pa_nil))) (pa_cons (pe_op op_add (pe_op op_add (pe_op op_mul (pe_op op_mod (pe_callTy call_int1 (by rfl) T.int (by decide +kernel) (pa_cons (pv 2) pa_nil)) (pe_op op_add (pe_op op_powW pe_int pe_int) pe_int)) pe_int) (pe_op op_mul pe_int (pv 1))) pe_int) (pa_cons pe_int pa_nil))))))), ?_⟩
    have hP : CPowW 10 18 := pow3' (by decide) (by decide)
    have hP2 : CPowW 10 38 := pow3' (by decide) (by decide)
    have pos : (0 : Int) < (10 : Int) ^ (38 : Int).toNat + 133 := by decide
    have fin : ∀ c : Int, gName 2 (V.int c) (L2.start ["script", "at", "cell"] [V.ref a, V.int i]) H
        ({ nx := tRet (tLst (tCons (tCB (fun xs H Q => ∃ i j, xs = [V.int i, V.int j] ∧ Q (V.int (if j > i then j else i)) H) (tCons (tC (V.int 0)) (tCons (tOp (rI0 fun i j => V.int (i - j)) (tCB (fun xs H Q => ∃ i, xs = [V.int i] ∧ Q (V.int (if i < 0 then -i else i)) H) (tCons (tVar 2) tNil)) (tOp (rI CPowW fun i j => V.int (i ^ j.toNat)) (tC (V.int 10)) (tC (V.int 18)))) tNil)))
              (tCons (tOp (rI0 fun i j => V.int (i + j)) (tOp (rI0 fun i j => V.int (i + j)) (tOp (rI CMul fun i j => V.int (i * j)) (tOp (rI (fun x j => 0 < j) fun i j => V.int (i % j)) (tCB (fun xs H Q => (∃ i, xs = [V.int i] ∧ Q (V.int i) H) ∨ ∃ k, xs = [V.bl k] ∧ Q (V.int (if k = true then 1 else 0)) H) (tCons (tVar 2) tNil))
                (tOp (rI0 fun i j => V.int (i + j)) (tOp (rI CPowW fun i j => V.int (i ^ j.toNat)) (tC (V.int 10)) (tC (V.int 38))) (tC (V.int 133)))) (tC (V.int 107))) (tOp (rI CMul fun i j => V.int (i * j)) (tC (V.int 71)) (tVar 1))) (tC (V.int 29))) (tCons (tC (V.int 0)) tNil))))
            ({ nx := fun _ H' => Q V.non H', rt := Q } : Ends), rt := Q } : Ends).nx := fun c => by
      refine ⟨_, rfl, _, rfl, _, _, rfl, rfl, hP, _, _, rfl, rfl, _, _, rfl, _, rfl, .inl ⟨_, rfl, _, _, rfl, rfl, hP2, _, _, rfl, rfl, _, _, rfl, rfl, pos, _, _, rfl, rfl, .inr ⟨by decide, by decide⟩, _, rfl, _, _, rfl, rfl, .inl ⟨by decide, by decide⟩, _, _, rfl, rfl, _, _, rfl, rfl, ?_⟩⟩
      have l0 := Int.emod_nonneg c (Int.ne_of_gt pos)
      have l1 := Int.emod_lt_of_pos c pos
      have e0 : (10 : Int) ^ (38 : Int).toNat + 133 = 100000000000000000000000000000000000133 := by decide
      rw [e0] at l0 l1 ⊢
      refine ⟨(by show 3 ≤ sizeLine; decide), fun l hl => k l _ hl (Grows.new hl) ⟨_, _, _, upd_same, ?_, ?_, by decide, by decide⟩⟩
      · omega
      · omega
    refine ⟨_, rfl, _, rfl, a, _, rfl, .inl hS, _, _, rfl, rfl, _, rfl, ?_⟩
    refine ite2 (fun e => ?_) (fun e => ?_)
    · have lt : i.toNat < ns.length := by
        have q := of_decide_eq_true e
        rw [List.length_map] at q
        omega
      have g : (ns.map V.int)[i.toNat]? = some (.int ns[i.toNat]) := by
        rw [List.getElem?_map, List.getElem?_eq_getElem lt]
        rfl
      have g2 : atI (ns.map V.int) i = some (.int ns[i.toNat]) := by
        have q := atI_nat g
        rw [Int.toNat_of_nonneg h0] at q
        exact q
      refine ⟨_, rfl, _, rfl, a, _, _, _, rfl, rfl, hS, g2, ?_⟩
      exact fin _
    · exact fin _
end
end K01

namespace K01
open PySem PySem.Spec PyProof.Rows L2 LcM
section
variable {P : Program} {w : World} {K : PySem.W.Frag} {mg : Str → Option Value} {base : Heap}
theorem scDip : FnScope ["pouch", "wide", "taken", "mixed"] ["pouch", "wide"] (defScope sDip) := ⟨rfl, rfl, rfl, by decide +kernel, rfl, by decide +kernel, by decide +kernel⟩
theorem ok_dip {f : Addr} {fd : FuncData} (F : Fun K "_law_dip" "_law_dip" sDip f fd) (T : Txt0 mg) : FnOk P w K mg base CX0 1 f fd ["pouch", "wide"] spDip := by
  refine F.ok scDip (fun vs H Q E h => ?_) (fun cdv A outer s H vs Q E hr h => ?_)
  · obtain ⟨p, wd, m, rfl, _⟩ := h
    rfl
  · obtain ⟨p, wd, m, rfl, ⟨d, b, n, e, b0, b1, n0, n1⟩, hm, hw, hw2, k⟩ := h
    refine ⟨_, (pss_cons (ps_if (pt_cmpR op_gt (pe_ix (r := rIxL K) ix_list (pv 0) pe_int (fun _ _ => rfl)) pe_int (nomark _)) (pss_cons (ps_set (i := 2) scDip.nd rfl (.inl rfl) (pe_op op_mod (pe_callTy call_int1 (by rfl) T.int (by decide +kernel) (pa_cons (pe_ix (r := rIxL K) ix_list (pv 0) pe_int (fun _ _ => rfl)) pa_nil)) (pv 1)))
      (pss_cons (ps_asg (pe_op op_fdivW (pe_ix (r := rIxL K) ix_list (pv 0) pe_int (fun _ _ => rfl)) (pv 1)) (pg_sub (pv 0) pe_int set_list))
      (pss_one (ps_ret (pv 2))))) pss_nil)
      (pss_cons (ps_asg (pe_op op_add (pe_ix (r := rIxL K) ix_list (pv 0) pe_int (fun _ _ => rfl)) pe_int) (pg_sub (pv 0) pe_int set_list))
      (pss_cons (ps_set (i := 3) scDip.nd rfl (.inl rfl) (pe_op op_mod (pe_op op_powW (pe_callTy call_int1 (by rfl) T.int (by decide +kernel) (pa_cons (pe_op op_add (pe_ix (r := rIxL K) ix_list (pv 0) pe_int (fun _ _ => rfl)) (pe_op op_mul pe_int (pe_ix (r := rIxL K) ix_list (pv 0) pe_int (fun _ _ => rfl)))) pa_nil)) pe_int) (pe_op op_add (pe_op op_powW pe_int pe_int) pe_int)))
      (pss_cons (ps_set (i := 3) scDip.nd rfl (.inl rfl) (pe_op op_mod (pe_op op_powW (pe_callTy call_int1 (by rfl) T.int (by decide +kernel) (pa_cons (pe_op op_add (pv 3) (pe_op op_mul pe_int (pe_ix (r := rIxL K) ix_list (pv 0) pe_int (fun _ _ => rfl)))) pa_nil)) pe_int) (pe_op op_add (pe_op op_powW pe_int pe_int) pe_int)))
      (pss_one (ps_ret (pe_op op_mod (pe_callTy call_int1 (by rfl) T.int (by decide +kernel) (pa_cons (pe_op op_fdivW (pv 3) pe_int) pa_nil)) (pv 1)))))))), ?_⟩
    refine ⟨_, rfl, p, _, _, _, rfl, rfl, SqL.of e, rfl, _, _, rfl, rfl, _, rfl, ?_⟩
    refine ite2 (fun _ => ?_) (fun _ => ?_)
    · refine ⟨_, rfl, p, _, _, _, rfl, rfl, SqL.of e, rfl, .inl ⟨_, rfl, _, rfl, _, _, rfl, rfl, hw, _, rfl, p, _, _, _, rfl, rfl, SqL.of e, rfl, _, rfl, _, _, rfl, rfl, wide_div hw hw2 (by decide) (by decide), _, rfl, p, _, _, 0, rfl, rfl, e, rfl, _, rfl, ?_⟩⟩
      exact k _ _ (Int.emod_nonneg _ (by omega)) (Int.emod_lt_of_pos _ hw) ⟨_, _, _, upd_same, b0, b1, n0, by omega⟩ fun _ h => upd_ne h
    · refine ⟨_, rfl, p, _, _, _, rfl, rfl, SqL.of e, rfl, _, _, rfl, rfl, _, rfl, p, _, _, 2, rfl, rfl, e, rfl, ?_⟩
      have hP : CPowW 10 41 := pow3' (by decide) (by decide)
      have hP2 : CPowW 10 39 := pow3' (by decide) (by decide)
      have q0 : (0 : Int) < (10 : Int) ^ (41 : Int).toNat + 37 := by decide
      have q1 : (0 : Int) < (10 : Int) ^ (39 : Int).toNat + 3 := by decide
      have q2 : (10 : Int) ^ (41 : Int).toNat + 37 < 2 ^ 200 := by decide
      have c1 : CPowW (b + 870022201 * (n + 1)) 3 := pow3 (by omega)
      refine ⟨_, rfl, p, _, _, _, rfl, rfl, SqL.of upd_same, rfl, _, rfl, p, _, _, _, rfl, rfl, SqL.of upd_same, rfl, _, _, rfl, rfl, .inl ⟨by decide, by decide⟩, _, _, rfl, rfl, .inl ⟨_, rfl, _, _, rfl, rfl, c1, _, _, rfl, rfl, hP, _, _, rfl, rfl, _, _, rfl, rfl, q0, ?_⟩⟩
      obtain ⟨y, hy⟩ : ∃ y : Int, y = (b + 870022201 * (n + 1)) ^ (3 : Int).toNat % ((10 : Int) ^ (41 : Int).toNat + 37) := ⟨_, rfl⟩
      have y0 : 0 ≤ y := hy ▸ Int.emod_nonneg _ (Int.ne_of_gt q0)
      have y1 : y < (10 : Int) ^ (41 : Int).toNat + 37 := hy ▸ Int.emod_lt_of_pos _ q0
      have c2 : CPowW (y + 334214467 * (n + 1)) 3 := pow3 (by omega)
      show gName 3 (.int ((b + 870022201 * (n + 1)) ^ (3 : Int).toNat % ((10 : Int) ^ (41 : Int).toNat + 37))) _ _ _
      rw [← hy]
      refine ⟨_, rfl, _, rfl, p, _, _, _, rfl, rfl, SqL.of upd_same, rfl, _, _, rfl, rfl, .inl ⟨by decide, by decide⟩, _, _, rfl, rfl, .inl ⟨_, rfl, _, _, rfl, rfl, c2, _, _, rfl, rfl, hP2, _, _, rfl, rfl, _, _, rfl, rfl, q1, ?_⟩⟩
      refine ⟨_, rfl, _, _, rfl, rfl, ⟨by decide, by decide⟩, .inl ⟨_, rfl, _, rfl, _, _, rfl, rfl, hw, ?_⟩⟩
      exact k _ _ (Int.emod_nonneg _ (by omega)) (Int.emod_lt_of_pos _ hw) ⟨_, _, _, upd_same, b0, b1, by omega, by omega⟩ fun _ h => upd_ne h
end
end K01

namespace K01
open PySem PySem.Spec PyProof.Rows L2 LcM
theorem at_in {xs : List V} {v : Int} (h0 : 0 ≤ v) (h1 : v < xs.length) : ∃ z ∈ xs, atI xs v = some z := by
  have lt : v.toNat < xs.length := by omega
  have q := atI_nat (List.getElem?_eq_getElem lt)
  rw [Int.toNat_of_nonneg h0] at q
  exact ⟨_, List.getElem_mem lt, q⟩
/-- items of newcomers: each within its bounds -/
def Bnd (xs : List Int) : Prop := ∀ (j : Nat) (x : Int), xs[j]? = some x → -(j : Int) ≤ x ∧ x ≤ (j : Int)
theorem Bnd.add {xs : List Int} {x : Int} (h : Bnd xs) (h0 : -(xs.length : Int) ≤ x) (h1 : x ≤ (xs.length : Int)) : Bnd (xs ++ [x]) := fun j y e => by
  rcases Nat.lt_or_ge j xs.length with z | z
  · rw [List.getElem?_append_left z] at e
    exact h j y e
  · rw [List.getElem?_append_right z] at e
    have : j - xs.length = 0 := by
      rcases Nat.eq_zero_or_pos (j - xs.length) with q | q
      · exact q
      · rw [List.getElem?_eq_none (by show 1 ≤ j - xs.length; omega)] at e
        cases e
    rw [this] at e
    have e' : x = y := Option.some.inj e
    omega
def spItems : Sp := fun vs H Q _ => ∃ (p : Addr) (mn m : Int), vs = [.ref p, .int mn] ∧ Pch H p m ∧ m < 2 ^ 50 ∧ 1 ≤ mn ∧ mn ≤ 20 ∧
  ∀ (l : Addr) (xs : List Int) (H' : Hp), (xs.length : Int) = mn - 1 → Bnd xs → Pch H' p (m + 100) → Gr p H H' → H l = none → H' l = some (.lst (xs.map V.int)) → Q (.ref l) H'
theorem but_at {p a : Addr} {H H' : Hp} {o : HO} (h : ∀ b, b ≠ p → H' b = H b) (e : H a = some o) (n : a ≠ p) : H' a = some o := (h a n).trans e
theorem but_gr {p : Addr} {H H' : Hp} (h : ∀ b, b ≠ p → H' b = H b) : Gr p H H' := fun b o n e => (h b n).trans e
theorem pch_ne {p a : Addr} {H : Hp} {m : Int} (h : Pch H p m) (n : H a = none) : a ≠ p := fun e => by
  obtain ⟨_, _, _, q, _⟩ := h
  rw [← e, n] at q
  cases q
section
variable {P : Program} {w : World} {K : PySem.W.Frag} {mg : Str → Option Value} {base : Heap}
structure TxtD (mg : Str → Option Value) (fD : Addr) : Prop extends Txt0 mg where
  gD : mg "_law_dip" = some (.ref fD)
theorem scItems : FnScope ["pouch", "many", "style", "found", "fresh", "near", "pick"] ["pouch", "many"] (defScope sItems) := ⟨rfl, rfl, rfl, by decide +kernel, rfl, by decide +kernel, by decide +kernel⟩
theorem ok_items {f fD : Addr} {fd fdD : FuncData} (F : Fun K "_law_items" "_law_items" sItems f fd) (T : TxtD mg fD) (FD : Fun K "_law_dip" "_law_dip" sDip fD fdD) (bD : Binds K fdD ["pouch", "wide"] []) : FnOk P w K mg base CX0 2 f fd ["pouch", "many"] spItems := by
  have GD : FnOk P w K mg base CX0 1 fD fdD ["pouch", "wide"] spDip := ok_dip FD T.toTxt0
  refine F.ok scItems (fun vs H Q E h => ?_) (fun cdv A outer s H vs Q E hr h => ?_)
  · obtain ⟨p, mn, m, rfl, _⟩ := h
    rfl
  · obtain ⟨p, mn, m, rfl, hP, hm, hmn, hmx, k⟩ := h
    refine ⟨_, (pss_cons (ps_par (i := 2) (j := 3) (by rfl) scItems.nd rfl rfl (by decide) rfl rfl (pa_cons (pe_call GD (hr.mono (by decide)) rfl T.gD FD.kp bD .nil pass0 (pa_cons (pv 0) (pa_cons pe_int pa_nil))) (pa_cons (pe_lst pa_nil) pa_nil)) (by rfl))
      (pss_cons (ps_for PassesOwn.never rfl (pi_range2 (by rfl) T.range (pa_cons pe_int (pa_cons (pv 1) pa_nil))) (pg_name (i := 4) scItems.nd rfl (.inl rfl))
      (pss_cons (ps_set (i := 5) scItems.nd rfl (.inl rfl) (pe_lst (pa_cons (pe_op op_add (pe_op op_sub (pe_call GD (hr.mono (by decide)) rfl T.gD FD.kp bD .nil pass0 (pa_cons (pv 0) (pa_cons (pe_op op_sub (pe_op op_mul pe_int (pv 4)) pe_int) pa_nil))) (pv 4)) pe_int) (pa_cons (pe_op op_sub (pv 4) pe_int) (pa_cons (pe_op op_sub pe_int (pv 4)) (pa_cons pe_int (pa_cons (pe_op op_sub pe_int (pe_callB (call_min2 rfl) (by rfl) T.min (by decide +kernel) (pa_cons pe_int (pa_cons (pe_op op_sub (pv 4) pe_int) pa_nil)))) pa_nil)))))))
      (pss_cons (ps_set (i := 6) scItems.nd rfl (.inl rfl) (pe_ix (r := rIxL K) ix_list (pe_lst (pa_cons (pe_call GD (hr.mono (by decide)) rfl T.gD FD.kp bD .nil pass0 (pa_cons (pv 0) (pa_cons pe_int pa_nil))) (pa_cons pe_int (pa_cons pe_int (pa_cons pe_int (pa_cons (pe_ix (r := rIxL K) ix_list (pe_lst (pa_cons pe_int (pa_cons pe_int pa_nil))) (pe_call GD (hr.mono (by decide)) rfl T.gD FD.kp bD .nil pass0 (pa_cons (pv 0) (pa_cons pe_int pa_nil))) (fun _ _ => rfl)) (pa_cons (pe_ix (r := rIxL K) ix_list (pe_lst (pa_cons pe_int (pa_cons pe_int pa_nil))) (pe_call GD (hr.mono (by decide)) rfl T.gD FD.kp bD .nil pass0 (pa_cons (pv 0) (pa_cons pe_int pa_nil))) (fun _ _ => rfl)) pa_nil))))))) (pv 2) (fun _ _ => rfl)))
      (pss_one (ps_expr (pe_bm PySem.F.plainAttrs_list PySem.F.slot_list_append PySem.F.type_list_append mt_append (pv 3) (pa_cons (pe_ix (r := rIxL K) ix_list (pv 5) (pv 6) (fun _ _ => rfl)) pa_nil)))))))
      (pss_one (ps_ret (pv 3))))), ?_⟩
    refine ⟨_, rfl, p, _, _, rfl, hP, by omega, by decide, by decide, fun v0 H1 v00 v01 hP1 but1 => ⟨by decide, fun l hl => ⟨_, _, rfl, ?_⟩⟩⟩
    have nlp : l ≠ p := pch_ne hP1 hl
    have hl0 : H l = none := (but1 l nlp).symm.trans hl
    refine ⟨_, rfl, 1, mn, rfl, ⟨by decide, by decide, by omega, by omega⟩, for_range (lo := 1) (n := (mn - 1).toNat) (fun i σ H' => ∃ (xs : List Int) (f1 f2 f3 : Option V), σ = [some (.ref p), some (.int mn), some (.int v0), some (.ref l), f1, f2, f3] ∧ xs.length = i ∧ Bnd xs ∧ Pch H' p (m + 1 + 4 * i) ∧ Gr p H H' ∧ H' l = some (.lst (xs.map V.int)))
      ⟨[], none, none, none, rfl, rfl, (fun j x e => by rw [List.getElem?_nil] at e; cases e), (hP1.same (.new hl)).le (by omega), (but_gr but1).trans (.new hl), upd_same⟩ ?_ ?_⟩
    · rintro i σ H2 hi ⟨xs, f1, f2, f3, rfl, hxl, hb, hP2, gr2, e2⟩
      have hi20 : i < 19 := by omega
      -- near
      refine ⟨_, rfl, _, rfl, _, _, rfl, rfl, .inl ⟨by decide, by decide⟩, _, _, rfl, rfl, p, _, _, rfl, hP2, by omega, by omega, ?_, fun v1 H3 v10 v11 hP3 but3 => ?_⟩
      · show (2 * (1 + (i : Int)) - 1).natAbs < 2 ^ 200
        omega
      refine ⟨_, rfl, _, _, rfl, rfl, _, _, rfl, rfl, _, rfl, _, _, rfl, rfl, _, rfl, _, _, rfl, rfl, _, rfl, _, _, rfl, rfl, _, _, rfl, _, _, rfl, rfl, (by show 5 ≤ sizeLine; decide), fun q1 hq1 => ?_⟩
      have nq1 := pch_ne hP3 hq1
      have el3 := but_at but3 e2 nlp
      obtain ⟨nr, hnr⟩ : ∃ nr : List V, nr = [.int (v1 - (1 + (i : Int)) + 1), .int (1 + (i : Int) - 1), .int (1 - (1 + (i : Int))), .int 0, .int (0 - (if 1 + (i : Int) - 1 < 1 then 1 + (i : Int) - 1 else 1))] := ⟨_, rfl⟩
      have nb : ∀ z ∈ nr, ∃ y : Int, z = .int y ∧ -(i : Int) ≤ y ∧ y ≤ (i : Int) := by
        intro z hz
        rw [hnr] at hz
        simp only [List.mem_cons, List.not_mem_nil, or_false] at hz
        rcases hz with rfl | rfl | rfl | rfl | rfl
        · exact ⟨_, rfl, by omega, by omega⟩
        · exact ⟨_, rfl, by omega, by omega⟩
        · exact ⟨_, rfl, by omega, by omega⟩
        · exact ⟨_, rfl, by omega, by omega⟩
        · refine ⟨_, rfl, ?_, ?_⟩ <;> (split <;> omega)
      have el4 : upd H3 q1 (.lst nr) l = some (.lst (xs.map V.int)) := (upd_ne (ne_of_none el3 hq1)).trans el3
      have hP4 : Pch (upd H3 q1 (.lst nr)) p (m + 1 + 4 * i + 1) := hP3.same (.new hq1)
      -- pick
      refine ⟨_, rfl, p, _, _, rfl, (by rw [← hnr]; exact hP4), by omega, by decide, by decide, fun v2 H5 v20 v21 hP5 but5 => ?_⟩
      rw [← hnr] at but5
      refine ⟨(by show 2 ≤ sizeLine; decide), fun q2 hq2 => ⟨_, rfl, p, _, _, rfl, hP5.same (.new hq2), by omega, by decide, by decide, fun v3 H6 v30 v31 hP6 but6 => ?_⟩⟩
      have nq2 := pch_ne hP5 hq2
      obtain ⟨z3, hz3, ez3⟩ := at_in (xs := [V.int 0, V.int 3]) v30 v31
      refine ⟨q2, _, v3, z3, rfl, rfl, SqL.of (but_at but6 upd_same nq2), ez3, (by show 2 ≤ sizeLine; decide), fun q3 hq3 => ⟨_, rfl, p, _, _, rfl, hP6.same (.new hq3), by omega, by decide, by decide, fun v4 H7 v40 v41 hP7 but7 => ?_⟩⟩
      have nq3 := pch_ne hP6 hq3
      obtain ⟨z4, hz4, ez4⟩ := at_in (xs := [V.int 0, V.int 4]) v40 v41
      refine ⟨q3, _, v4, z4, rfl, rfl, SqL.of (but_at but7 upd_same nq3), ez4, (by show 6 ≤ sizeLine; decide), fun q4 hq4 => ?_⟩
      obtain ⟨z5, hz5, ez5⟩ := at_in (xs := [V.int v2, V.int 0, V.int 1, V.int 2, z3, z4]) v00 v01
      have pk : ∃ y : Int, z5 = .int y ∧ 0 ≤ y ∧ y < 5 := by
        simp only [List.mem_cons, List.not_mem_nil, or_false] at hz5 hz3 hz4
        rcases hz5 with rfl | rfl | rfl | rfl | rfl | rfl
        · exact ⟨_, rfl, v20, v21⟩
        · exact ⟨_, rfl, by decide, by decide⟩
        · exact ⟨_, rfl, by decide, by decide⟩
        · exact ⟨_, rfl, by decide, by decide⟩
        · rcases hz3 with rfl | rfl <;> exact ⟨_, rfl, by decide, by decide⟩
        · rcases hz4 with rfl | rfl <;> exact ⟨_, rfl, by decide, by decide⟩
      obtain ⟨y, rfl, y0, y1⟩ := pk
      refine ⟨_, rfl, q4, _, v0, .int y, rfl, rfl, SqL.of upd_same, ez5, ?_⟩
      -- append
      have gr7 : Gr p (upd H3 q1 (.lst nr)) (upd H7 q4 (.lst [V.int v2, V.int 0, V.int 1, V.int 2, z3, z4])) := ((((but_gr but5).trans (.new hq2)).trans (but_gr but6)).trans (.new hq3)).trans ((but_gr but7).trans (.new hq4))
      have eq1 := gr7 q1 _ nq1 upd_same
      have el7 := gr7 l _ nlp el4
      obtain ⟨z6, hz6, ez6⟩ := at_in (xs := nr) (v := y) y0 (by rw [hnr]; exact y1)
      obtain ⟨x, rfl, x0, x1⟩ := nb z6 hz6
      refine ⟨_, rfl, .inl ⟨rfl, _, SqL.of el7⟩, _, rfl, _, rfl, q1, _, y, .int x, rfl, rfl, SqL.of eq1, ez6, l, _, _, rfl, rfl, el7, ?_, ?_⟩
      · rw [List.length_map]
        exact small1000 (by omega)
      · refine ⟨xs ++ [x], _, _, _, rfl, by rw [List.length_append, hxl]; rfl, hb.add (by omega) (by omega), ?_, ?_, by rw [upd_same, List.map_append]; rfl⟩
        · obtain ⟨d, b, n, e, b0, b1, n0, n1⟩ := (hP7.same (H' := upd H7 q4 (.lst [V.int v2, V.int 0, V.int 1, V.int 2, z3, z4])) (.new hq4))
          exact ⟨d, b, n, (upd_ne nlp.symm).trans e, b0, b1, n0, by omega⟩
        · intro b o nb' eb
          rcases Classical.em (b = l) with e | e
          · rw [e, hl0] at eb
            cases eb
          · rw [upd_ne e]
            exact gr7 b o nb' ((Gr.new hq1 : Gr p H3 _) b o nb' (but_gr but3 b o nb' (gr2 b o nb' eb)))
    · rintro σ H2 ⟨xs, f1, f2, f3, rfl, hxl, hb, hP2, gr2, e2⟩
      exact ⟨_, rfl, k l xs H2 (by omega) hb (hP2.le (by omega)) gr2 hl0 e2⟩
end
end K01

namespace K01
open PySem PySem.Spec PyProof.Rows L2 SortR LcM
abbrev sNumber : Stmt := top 3
abbrev sPerson : Stmt := top 4
abbrev sAsc : Stmt := top 5
abbrev sPList : Stmt := top 6
abbrev sGroup : Stmt := top 7
abbrev sMask : Stmt := top 8
abbrev sCross : Stmt := top 9
abbrev sAny : Stmt := top 10
abbrev sParting : Stmt := top 12
/-- the program's defs, where they stand -/
structure ProgF (K : PySem.W.Frag) (mg : Str → Option Value) where
  (fNum fPer fAsc fPL fGr fMask fCross fAny fIs : Addr)
  (dNum dPer dAsc dPL dGr dMask dCross dAny dIs : FuncData)
  FNum : Fun K "is_number" "is_number" sNumber fNum dNum
  FPer : Fun K "is_person" "is_person" sPerson fPer dPer
  FAsc : Fun K "is_ascending" "is_ascending" sAsc fAsc dAsc
  FPL : Fun K "is_person_list" "is_person_list" sPList fPL dPL
  FGr : Fun K "is_group" "is_group" sGroup fGr dGr
  FMask : Fun K "mask_of" "mask_of" sMask fMask dMask
  FCross : Fun K "masks_cross" "masks_cross" sCross fCross dCross
  FAny : Fun K "any_cross" "any_cross" sAny fAny dAny
  FIs : Fun K "is_parting" "is_parting" sParting fIs dIs
  gNum : mg "is_number" = some (.ref fNum)
  gPer : mg "is_person" = some (.ref fPer)
  gAsc : mg "is_ascending" = some (.ref fAsc)
  gPL : mg "is_person_list" = some (.ref fPL)
  gGr : mg "is_group" = some (.ref fGr)
  gMask : mg "mask_of" = some (.ref fMask)
  gCross : mg "masks_cross" = some (.ref fCross)
  gAny : mg "any_cross" = some (.ref fAny)
  gIs : mg "is_parting" = some (.ref fIs)
  bNum : Binds K dNum ["thing"] []
  bPer : Binds K dPer ["thing", "persons"] []
  bAsc : Binds K dAsc ["items"] []
  bPL : Binds K dPL ["thing", "persons"] []
  bGr : Binds K dGr ["thing", "persons"] []
  bMask : Binds K dMask ["group"] []
  bCross : Binds K dCross ["one", "other"] []
  bAny : Binds K dAny ["groups"] []
  bIs : Binds K dIs ["thing"] []
  gComb : mg "combinations" = some (.type "itertools.combinations")
  mostT : Tok
  gMost : mg "MOST_PERSONS" = some (.int 20 mostT)
/-- the built-in kinds that may come -/
def kinds : List String := ["int", "bool", "str", "NoneType", "list", "tuple", "dict"]
structure TxtP (mg : Str → Option Value) : Prop where
  isi : mg "isinstance" = none
  int : mg "int" = none
  bool : mg "bool" = none
  list : mg "list" = none
  len : mg "len" = none
  all : mg "all" = none
  any : mg "any" = none
  sum : mg "sum" = none
  zip : mg "zip" = none
  sorted : mg "sorted" = none
  tuple : mg "tuple" = none
  range : mg "range" = none
  enumerate : mg "enumerate" = none
def spNumber (K : PySem.W.Frag) : Sp := fun vs H Q _ => ∃ (x : V) (t : String), vs = [x] ∧ TyX K H x (.type t) ∧ t ∈ kinds ∧ Q (.bl (decide (t = "int"))) H
def spPerson (K : PySem.W.Frag) : Sp := fun vs H Q _ => ∃ (x : V) (t : String) (n : Int), vs = [x, .int n] ∧ TyX K H x (.type t) ∧ t ∈ kinds ∧ (t = "int" → ∃ i, x = .int i ∧ Q (.bl (decide (0 ≤ i) && decide (i < n))) H) ∧ (t ≠ "int" → Q (.bl false) H)
/-- each below the one behind it -/
def ascI (ns : List Int) : Bool := (List.range (ns.length - 1)).all fun i => decide (ns.getD i 0 < ns.getD (i + 1) 0)
def ascR (rs : List (List Int)) : Bool := (List.range (rs.length - 1)).all fun i => decide (rs.getD i [] < rs.getD (i + 1) [])
def spAscI (K : PySem.W.Frag) : Sp := fun vs H Q _ => ∃ (a : Addr) (ns : List Int), vs = [.ref a] ∧ SqL K H a (ns.map V.int) ∧ ns.length ≤ 1000 ∧ ∀ H', Grows H H' → Q (.bl (ascI ns)) H'
def spAscR (K : PySem.W.Frag) : Sp := fun vs H Q _ => ∃ (a : Addr) (bs : List (Addr × List Int)), vs = [.ref a] ∧ SqL K H a (bs.map fun b => V.ref b.1) ∧ (∀ b ∈ bs, SqL K H b.1 (b.2.map V.int)) ∧ bs.length ≤ 1000 ∧ ∀ H', Grows H H' → Q (.bl (ascR (bs.map (·.2)))) H'
section
variable {P : Program} {w : World} {K : PySem.W.Frag} {mg : Str → Option Value} {base : Heap}
theorem scNumber : FnScope ["thing"] ["thing"] (defScope sNumber) := ⟨rfl, rfl, rfl, by decide +kernel, rfl, by decide +kernel, by decide +kernel⟩
theorem scPerson : FnScope ["thing", "persons"] ["thing", "persons"] (defScope sPerson) := ⟨rfl, rfl, rfl, by decide +kernel, rfl, by decide +kernel, by decide +kernel⟩
theorem scAsc : FnScope ["items", "low", "high"] ["items"] (defScope sAsc) := ⟨rfl, rfl, rfl, by decide +kernel, rfl, by decide +kernel, by decide +kernel⟩
theorem ok_number {f : Addr} {fd : FuncData} (F : Fun K "is_number" "is_number" sNumber f fd) (T : TxtP mg) : FnOk P w K mg base CX0 1 f fd ["thing"] (spNumber K) := by
  refine F.ok scNumber (fun vs H Q E h => ?_) (fun cdv A outer s H vs Q E hr h => ?_)
  · obtain ⟨x, t, rfl, _⟩ := h
    rfl
  · obtain ⟨x, t, rfl, ty, hk, k⟩ := h
    refine ⟨_, (pss_one (ps_ret (pe_and (pe_callB call_isi (by rfl) T.isi (by decide +kernel) (pa_cons (pv 0) (pa_cons (pe_bltn (v := .ty "int") (u := .type "int") (by rfl) T.int (by decide +kernel) rfl) pa_nil))) (pe_one (pe_not (pe_callB call_isi (by rfl) T.isi (by decide +kernel) (pa_cons (pv 0) (pa_cons (pe_bltn (v := .ty "bool") (u := .type "bool") (by rfl) T.bool (by decide +kernel) rfl) pa_nil)))))))), ?_⟩
    simp only [kinds, List.mem_cons, List.not_mem_nil, or_false] at hk
    rcases hk with rfl | rfl | rfl | rfl | rfl | rfl | rfl
    · exact ⟨_, rfl, _, _, _, _, true, rfl, .ty "int", ty, kit_ty (by decide +kernel), true, rfl, _, rfl, _, _, _, _, false, rfl, .ty "bool", ty, kit_ty (by decide +kernel), false, rfl, k⟩
    · exact ⟨_, rfl, _, _, _, _, true, rfl, .ty "int", ty, kit_ty (by decide +kernel), true, rfl, _, rfl, _, _, _, _, true, rfl, .ty "bool", ty, kit_ty (by decide +kernel), true, rfl, k⟩
    all_goals exact ⟨_, rfl, _, _, _, _, false, rfl, .ty "int", ty, kit_ty (by decide +kernel), false, rfl, k⟩
theorem ok_person (Z : ProgF K mg) (T : TxtP mg) : FnOk P w K mg base CX0 2 Z.fPer Z.dPer ["thing", "persons"] (spPerson K) := by
  have GNum : FnOk P w K mg base CX0 1 Z.fNum Z.dNum ["thing"] (spNumber K) := ok_number Z.FNum T
  refine Z.FPer.ok scPerson (fun vs H Q E h => ?_) (fun cdv A outer s H vs Q E hr h => ?_)
  · obtain ⟨x, t, n, rfl, _⟩ := h
    rfl
  · obtain ⟨x, t, n, rfl, ty, hk, k1, k2⟩ := h
    refine ⟨_, (pss_one (ps_ret (pe_and (pe_call GNum (hr.mono (by decide)) rfl Z.gNum Z.FNum.kp Z.bNum .nil pass0 (pa_cons (pv 0) pa_nil)) (pe_one (pe_chain op_le op_lt pe_int (pv 0) (pv 1)))))), ?_⟩
    refine ⟨_, rfl, x, t, rfl, ty, hk, ?_⟩
    by_cases e : t = "int"
    · obtain ⟨i, rfl, q⟩ := k1 e
      refine ⟨_, rfl, ?_⟩
      rw [if_pos (decide_eq_true e)]
      refine ⟨_, rfl, _, _, rfl, rfl, _, rfl, ?_⟩
      by_cases l : 0 ≤ i
      · rw [if_pos (decide_eq_true l)]
        refine ⟨_, rfl, _, _, rfl, rfl, ?_⟩
        rw [decide_eq_true l, Bool.true_and] at q
        exact q
      · rw [if_neg (by rw [decide_eq_false l]; exact Bool.false_ne_true)]
        rw [decide_eq_false l, Bool.false_and] at q
        exact q
    · refine ⟨_, rfl, ?_⟩
      rw [if_neg (by rw [decide_eq_false e]; exact Bool.false_ne_true)]
      exact k2 e
theorem at_map {α : Type} {f : α → V} {ns : List α} {i : Nat} {x : V} {d : α} (h : (ns.map f)[i]? = some x) : x = f (ns.getD i d) := by
  rw [List.getElem?_map] at h
  obtain ⟨z, hz, e⟩ := Option.map_eq_some_iff.mp h
  rw [← e, List.getD_eq_getElem?_getD, hz]
  rfl
theorem at_tail {α : Type} {f : α → V} {ns : List α} {i : Nat} {x : V} {d : α} (h : (ns.map f).tail[i]? = some x) : x = f (ns.getD (i + 1) d) := by
  rw [List.getElem?_tail] at h
  exact at_map h
theorem all_rng (n : Nat) (p : Nat → Bool) : ((List.range n).map p).all id = (List.range n).all p := by
  rw [List.all_map]
  rfl
theorem ok_ascI {f : Addr} {fd : FuncData} (F : Fun K "is_ascending" "is_ascending" sAsc f fd) (T : TxtP mg) : FnOk P w K mg base CX0 1 f fd ["items"] (spAscI K) := by
  refine F.ok scAsc (fun vs H Q E h => ?_) (fun cdv A outer s H vs Q E hr h => ?_)
  · obtain ⟨a, ns, rfl, _⟩ := h
    rfl
  · obtain ⟨a, ns, rfl, hS, hn, k⟩ := h
    refine ⟨_, (pss_one (ps_ret (pe_callB (cr_all rfl) (by rfl) T.all (by decide +kernel) (pa_cons (pe_lc (own := [("low", 1), ("high", 2)]) (g := gTup K 2 (gCons (gName 1) (gCons (gName 2) gNil))) (tt := tYes) rfl scAsc.nd (pi_zip (by rfl) T.zip (pa_cons (pv 0) (pa_cons (pe_slice sl_list (pv 0) (po_some pe_int) po_none) pa_nil))) (blkOk_by (own := [("low", 1), ("high", 2)]) (N := ["items", "low", "high"]) (sc := defScope sAsc) (by decide +kernel)) (fun _ _ _ _ _ => pg_tup rfl (pgs_cons (pg_name (i := 1) scAsc.nd rfl (Or.inl rfl)) (pgs_cons (pg_name (i := 2) scAsc.nd rfl (Or.inl rfl)) pgs_nil))) (fun _ _ _ _ _ => pts_nil) (fun _ _ _ _ _ => (pe_cmpR op_lt (pv 1) (pv 2) (nomark _)))) pa_nil)))), ?_⟩
    refine ⟨_, rfl, _, rfl, 1, rfl, a, _, rfl, hS, fun c nc => ?_⟩
    rw [cut_tail]
    refine ⟨a, c, _, _, rfl, (Grows.new nc).seq hS, SqL.of upd_same, fun D hD => lc_zipM (K := K) (fun i => V.bl (decide (ns.getD i 0 < ns.getD (i + 1) 0))) hD ((Grows.new nc).seq hS) (SqL.of upd_same) (by rw [List.length_map]; omega) (fun i x y T H' R hx hy sm hT kR => ?_) fun H' sm eD => ?_⟩
    · refine ⟨T, _, rfl, SqT.of upd_same, rfl, _, _, rfl, _, _, rfl, rfl, ?_⟩
      obtain rfl := at_map (d := 0) hx
      obtain rfl := at_tail (d := 0) hy
      exact ⟨rfl, _, rfl, _, rfl, _, _, rfl, rfl, kR _ .refl⟩
    · have e : min (ns.map V.int).length (ns.map V.int).tail.length = ns.length - 1 := by
        rw [List.length_tail, List.length_map]
        omega
      rw [e] at eD
      refine ⟨D, (List.range (ns.length - 1)).map fun i => decide (ns.getD i 0 < ns.getD (i + 1) 0), rfl, SqL.of (by rw [eD, List.map_map]; rfl), ?_⟩
      rw [all_rng]
      exact k H' ((Grows.new nc).trans sm)
theorem ok_ascR {f : Addr} {fd : FuncData} (F : Fun K "is_ascending" "is_ascending" sAsc f fd) (T : TxtP mg) : FnOk P w K mg base CX0 1 f fd ["items"] (spAscR K) := by
  refine F.ok scAsc (fun vs H Q E h => ?_) (fun cdv A outer s H vs Q E hr h => ?_)
  · obtain ⟨a, bs, rfl, _⟩ := h
    rfl
  · obtain ⟨a, bs, rfl, hS, hb, hn, k⟩ := h
    refine ⟨_, (pss_one (ps_ret (pe_callB (cr_all rfl) (by rfl) T.all (by decide +kernel) (pa_cons (pe_lc (own := [("low", 1), ("high", 2)]) (g := gTup K 2 (gCons (gName 1) (gCons (gName 2) gNil))) (tt := tYes) rfl scAsc.nd (pi_zip (by rfl) T.zip (pa_cons (pv 0) (pa_cons (pe_slice sl_list (pv 0) (po_some pe_int) po_none) pa_nil))) (blkOk_by (own := [("low", 1), ("high", 2)]) (N := ["items", "low", "high"]) (sc := defScope sAsc) (by decide +kernel)) (fun _ _ _ _ _ => pg_tup rfl (pgs_cons (pg_name (i := 1) scAsc.nd rfl (Or.inl rfl)) (pgs_cons (pg_name (i := 2) scAsc.nd rfl (Or.inl rfl)) pgs_nil))) (fun _ _ _ _ _ => pts_nil) (fun _ _ _ _ _ => (pe_cmpR (r := rLtR K) (op_ltR (by exact hr.units)) (pv 1) (pv 2) (nomark _)))) pa_nil)))), ?_⟩
    refine ⟨_, rfl, _, rfl, 1, rfl, a, _, rfl, hS, fun c nc => ?_⟩
    rw [cut_tail]
    have hbD : ∀ i : Nat, i < bs.length → SqL K H (bs.getD i (0, [])).1 ((bs.getD i (0, [])).2.map V.int) := fun i hi => by
      rw [List.getD_eq_getElem?_getD, List.getElem?_eq_getElem hi]
      exact hb _ (List.getElem_mem hi)
    refine ⟨a, c, _, _, rfl, (Grows.new nc).seq hS, SqL.of upd_same, fun D hD => lc_zipM (K := K) (fun i => V.bl (decide ((bs.getD i (0, [])).2 < (bs.getD (i + 1) (0, [])).2))) hD ((Grows.new nc).seq hS) (SqL.of upd_same) (by rw [List.length_map]; omega) (fun i x y T H' R hx hy sm hT kR => ?_) fun H' sm eD => ?_⟩
    · have i1 := (List.getElem?_eq_some_iff.mp hx).1
      have i2 := (List.getElem?_eq_some_iff.mp hy).1
      rw [List.length_map] at i1
      rw [List.length_tail, List.length_map] at i2
      refine ⟨T, _, rfl, SqT.of upd_same, rfl, _, _, rfl, _, _, rfl, rfl, ?_⟩
      obtain rfl := at_map (d := (0, [])) hx
      obtain rfl := at_tail (d := (0, [])) hy
      have st : Grows H (upd H' T (.tup [V.ref (bs.getD i (0, [])).1, V.ref (bs.getD (i + 1) (0, [])).1])) := ((Grows.new nc).trans sm).trans (Grows.new hT)
      exact ⟨rfl, _, rfl, _, rfl, _, _, _, _, rfl, rfl, st.seq (hbD i i1), st.seq (hbD (i + 1) (by omega)), kR _ .refl⟩
    · have e : min (bs.map fun b => V.ref b.1).length (bs.map fun b => V.ref b.1).tail.length = bs.length - 1 := by
        rw [List.length_tail, List.length_map]
        omega
      rw [e] at eD
      refine ⟨D, (List.range (bs.length - 1)).map fun i => decide ((bs.getD i (0, [])).2 < (bs.getD (i + 1) (0, [])).2), rfl, SqL.of (by rw [eD, List.map_map]; rfl), ?_⟩
      rw [all_rng]
      have q := k H' ((Grows.new nc).trans sm)
      unfold ascR at q
      rw [List.length_map] at q
      have fe : ∀ i, (bs.map (·.2)).getD i [] = (bs.getD i (0, [])).2 := fun i => by
        rw [List.getD_eq_getElem?_getD, List.getD_eq_getElem?_getD, List.getElem?_map]
        cases bs[i]? <;> rfl
      simp only [fe] at q
      exact q
end
end K01

namespace K01
open PySem PySem.Spec PyProof.Rows L2 SortR LcM
theorem ty_list {K : PySem.W.Frag} {H : Hp} {a : Addr} {xs : List V} (h : SqL K H a xs) : TyX K H (.ref a) (.type "list") := by
  rcases h with (h | ⟨o, h⟩) | ⟨o, its, n, h, hc, _⟩
  · exact .base (.lst h)
  · exact .base (.frz h)
  · exact .kList h hc
def inR (n : Int) (ns : List Int) : Bool := (List.range ns.length).all fun i => decide (0 ≤ ns.getD i 0) && decide (ns.getD i 0 < n)
def plist (n : Int) (ns : List Int) : Bool := inR n ns && ascI ns
def group (n : Int) (ns : List Int) : Bool := plist n ns && decide (2 ≤ (ns.length : Int))
def maskI (ns : List Int) : Int := ((List.range ns.length).map fun i => 1 * 2 ^ (ns.getD i 0).toNat).sum
def crossI (i j : Int) : Bool := !inV (.int (Builtin.bitAnd i j)) [.int 0, .int i, .int j]
def anyX (rs : List (List Int)) : Bool := (List.range (Comb.prs rs.length).length).any fun t => crossI (maskI (rs.getD ((Comb.prs rs.length).getD t (0, 0)).1 [])) (maskI (rs.getD ((Comb.prs rs.length).getD t (0, 0)).2 []))
def isP (rs : List (List Int)) : Bool := decide ((rs.length : Int) < 20) && ((List.range rs.length).all fun i => group (rs.length + 1) (rs.getD i [])) && ascR rs && !anyX rs
def spPL (K : PySem.W.Frag) (m : Int → List Int → Bool) : Sp := fun vs H Q _ => ∃ (a : Addr) (n : Int) (ns : List Int), vs = [.ref a, .int n] ∧ SqL K H a (ns.map V.int) ∧ ns.length ≤ 1000 ∧ ∀ H', Grows H H' → Q (.bl (m n ns)) H'
def spMask (K : PySem.W.Frag) : Sp := fun vs H Q _ => ∃ (a : Addr) (ns : List Int), vs = [.ref a] ∧ SqL K H a (ns.map V.int) ∧ ns.length ≤ 1000 ∧ (∀ x ∈ ns, 0 ≤ x ∧ x ≤ 1000) ∧ ∀ H', Grows H H' → Q (.int (maskI ns)) H'
def spCross : Sp := fun vs H Q _ => ∃ (i j : Int), vs = [.int i, .int j] ∧ ∀ H', Grows H H' → Q (.bl (crossI i j)) H'
section
variable {P : Program} {w : World} {K : PySem.W.Frag} {mg : Str → Option Value} {base : Heap}
theorem scPList : FnScope ["thing", "persons", "item"] ["thing", "persons"] (defScope sPList) := ⟨rfl, rfl, rfl, by decide +kernel, rfl, by decide +kernel, by decide +kernel⟩
theorem scGroup : FnScope ["thing", "persons"] ["thing", "persons"] (defScope sGroup) := ⟨rfl, rfl, rfl, by decide +kernel, rfl, by decide +kernel, by decide +kernel⟩
theorem scMask : FnScope ["group", "person"] ["group"] (defScope sMask) := ⟨rfl, rfl, rfl, by decide +kernel, rfl, by decide +kernel, by decide +kernel⟩
theorem scCross : FnScope ["one", "other"] ["one", "other"] (defScope sCross) := ⟨rfl, rfl, rfl, by decide +kernel, rfl, by decide +kernel, by decide +kernel⟩
theorem ok_plist (Z : ProgF K mg) (T : TxtP mg) : FnOk P w K mg base CX0 3 Z.fPL Z.dPL ["thing", "persons"] (spPL K plist) := by
  have GPer : FnOk P w K mg base CX0 2 Z.fPer Z.dPer ["thing", "persons"] (spPerson K) := ok_person Z T
  have GAsc : FnOk P w K mg base CX0 1 Z.fAsc Z.dAsc ["items"] (spAscI K) := ok_ascI Z.FAsc T
  refine Z.FPL.ok scPList (fun vs H Q E h => ?_) (fun cdv A outer s H vs Q E hr h => ?_)
  · obtain ⟨a, n, ns, rfl, _⟩ := h
    rfl
  · obtain ⟨a, n, ns, rfl, hS, hn, k⟩ := h
    refine ⟨_, (pss_cons (ps_if (pt_not (pt_val (pe_callB call_isi (by rfl) T.isi (by decide +kernel) (pa_cons (pv 0) (pa_cons (pe_bltn (v := .ty "list") (u := .type "list") (by rfl) T.list (by decide +kernel) rfl) pa_nil))))) (pss_one (ps_ret pe_bl)) pss_nil)
      (pss_one (ps_ret (pe_and (pe_callB (cr_all rfl) (by rfl) T.all (by decide +kernel) (pa_cons (pe_lc (own := [("item", 2)]) (g := gName 2) (tt := tYes) rfl scPList.nd (pi_list (pv 0)) (blkOk_by (own := [("item", 2)]) (N := ["thing", "persons", "item"]) (sc := defScope sPList) (by decide +kernel)) (fun _ _ _ _ _ => pg_name (i := 2) scPList.nd rfl (Or.inl rfl)) (fun _ _ _ _ _ => pts_nil) (fun _ _ _ _ _ => (pe_call GPer (hr.mono (by decide)) rfl Z.gPer Z.FPer.kp Z.bPer .nil pass0 (pa_cons (pv 2) (pa_cons (pv 1) pa_nil))))) pa_nil)) (pe_one (pe_call GAsc (hr.mono (by decide)) rfl Z.gAsc Z.FAsc.kp Z.bAsc .nil pass0 (pa_cons (pv 0) pa_nil))))))), ?_⟩
    refine ⟨_, rfl, _, _, _, _, true, rfl, .ty "list", ty_list hS, kit_ty (by decide +kernel), true, rfl, ?_⟩
    refine iteF ⟨_, rfl, a, rfl, ⟨_, hS⟩, fun D hD => lc_listM (K := K) (fun i => V.bl (decide (0 ≤ ns.getD i 0) && decide (ns.getD i 0 < n))) hD hS (by rw [List.length_map]; omega) (fun i x H' R hx sm kR => ?_) fun H' sm eD => ?_⟩
    · obtain rfl := at_map (d := 0) hx
      refine ⟨rfl, _, rfl, _, rfl, _, "int", n, rfl, .base (.int _), by decide, fun _ => ⟨_, rfl, kR _ .refl⟩, fun z => absurd rfl z⟩
    · rw [List.length_map] at eD
      refine ⟨D, (List.range ns.length).map fun i => decide (0 ≤ ns.getD i 0) && decide (ns.getD i 0 < n), rfl, SqL.of (by rw [eD, List.map_map]; rfl), _, rfl, ?_⟩
      rw [all_rng]
      show if inR n ns = true then _ else _
      by_cases hi : inR n ns = true
      · rw [if_pos hi]
        refine ⟨_, rfl, a, ns, rfl, sm.seq hS, hn, fun H2 s2 => ?_⟩
        have q := k H2 (sm.trans s2)
        unfold plist at q
        rw [hi, Bool.true_and] at q
        exact q
      · rw [if_neg hi]
        have q := k H' sm
        unfold plist at q
        rw [Bool.eq_false_iff.mpr hi, Bool.false_and] at q
        exact q
theorem ok_group (Z : ProgF K mg) (T : TxtP mg) : FnOk P w K mg base CX0 4 Z.fGr Z.dGr ["thing", "persons"] (spPL K group) := by
  have GPL : FnOk P w K mg base CX0 3 Z.fPL Z.dPL ["thing", "persons"] (spPL K plist) := ok_plist Z T
  refine Z.FGr.ok scGroup (fun vs H Q E h => ?_) (fun cdv A outer s H vs Q E hr h => ?_)
  · obtain ⟨a, n, ns, rfl, _⟩ := h
    rfl
  · obtain ⟨a, n, ns, rfl, hS, hn, k⟩ := h
    refine ⟨_, (pss_one (ps_ret (pe_and (pe_call GPL (hr.mono (by decide)) rfl Z.gPL Z.FPL.kp Z.bPL .nil pass0 (pa_cons (pv 0) (pa_cons (pv 1) pa_nil))) (pe_one (pe_cmpR op_ge (pe_callB call_len_seq (by rfl) T.len (by decide +kernel) (pa_cons (pv 0) pa_nil)) pe_int (nomark _)))))), ?_⟩
    refine ⟨_, rfl, _, rfl, a, n, ns, rfl, hS, hn, fun H2 s2 => ⟨_, rfl, ?_⟩⟩
    have q := k H2 s2
    unfold group at q
    by_cases hi : plist n ns = true
    · rw [if_pos hi]
      rw [hi, Bool.true_and] at q
      refine ⟨_, rfl, a, _, rfl, .inl (s2.seq hS), _, _, rfl, rfl, ?_⟩
      rw [List.length_map]
      exact q
    · rw [if_neg hi]
      rw [Bool.eq_false_iff.mpr hi, Bool.false_and] at q
      exact q
theorem ok_mask (Z : ProgF K mg) (T : TxtP mg) : FnOk P w K mg base CX0 1 Z.fMask Z.dMask ["group"] (spMask K) := by
  refine Z.FMask.ok scMask (fun vs H Q E h => ?_) (fun cdv A outer s H vs Q E hr h => ?_)
  · obtain ⟨a, ns, rfl, _⟩ := h
    rfl
  · obtain ⟨a, ns, rfl, hS, hn, hr0, k⟩ := h
    refine ⟨_, (pss_one (ps_ret (pe_callB (cr_sum rfl) (by rfl) T.sum (by decide +kernel) (pa_cons (pe_lc (own := [("person", 1)]) (g := gName 1) (tt := tYes) rfl scMask.nd (pi_list (pv 0)) (blkOk_by (own := [("person", 1)]) (N := ["group", "person"]) (sc := defScope sMask) (by decide +kernel)) (fun _ _ _ _ _ => pg_name (i := 1) scMask.nd rfl (Or.inl rfl)) (fun _ _ _ _ _ => pts_nil) (fun _ _ _ _ _ => (pe_op op_shl pe_int (pv 1)))) pa_nil)))), ?_⟩
    refine ⟨_, rfl, a, rfl, ⟨_, hS⟩, fun D hD => lc_listM (K := K) (fun i => V.int (1 * 2 ^ (ns.getD i 0).toNat)) hD hS (by rw [List.length_map]; omega) (fun i x H' R hx sm kR => ?_) fun H' sm eD => ?_⟩
    · have il := (List.getElem?_eq_some_iff.mp hx).1
      rw [List.length_map] at il
      obtain rfl := at_map (d := 0) hx
      have mem : ns.getD i 0 ∈ ns := by
        rw [List.getD_eq_getElem?_getD, List.getElem?_eq_getElem il]
        exact List.getElem_mem il
      obtain ⟨m0, m1⟩ := hr0 _ mem
      exact ⟨rfl, _, rfl, _, _, rfl, rfl, ⟨m0, by omega, by decide⟩, kR _ .refl⟩
    · rw [List.length_map] at eD
      refine ⟨D, (List.range ns.length).map fun i => 1 * 2 ^ (ns.getD i 0).toNat, rfl, SqL.of (by rw [eD, List.map_map]; rfl), ?_⟩
      exact k H' sm
theorem ok_cross (Z : ProgF K mg) : FnOk P w K mg base CX0 1 Z.fCross Z.dCross ["one", "other"] spCross := by
  refine Z.FCross.ok scCross (fun vs H Q E h => ?_) (fun cdv A outer s H vs Q E hr h => ?_)
  · obtain ⟨i, j, rfl, _⟩ := h
    rfl
  · obtain ⟨i, j, rfl, k⟩ := h
    refine ⟨_, (pss_one (ps_ret (pe_cmpR op_notIn_seq (pe_op op_and (pv 0) (pv 1)) (pe_tup (pa_cons pe_int (pa_cons (pv 0) (pa_cons (pv 1) pa_nil)))) (by rfl)))), ?_⟩
    refine ⟨_, rfl, _, rfl, _, _, rfl, rfl, _, rfl, _, rfl, (by show 3 ≤ sizeLine; decide), fun t ht => ⟨t, _, rfl, .inr (SqT.of upd_same), rfl, rfl, ?_⟩⟩
    exact k _ (Grows.new ht)
end
end K01

namespace K01
open PySem PySem.Spec PyProof.Rows L2 SortR LcM
/-- a list of lists of ints, as it stands -/
structure Rw (K : PySem.W.Frag) (H : Hp) (a : Addr) (bs : List (Addr × List Int)) : Prop where
  top : SqL K H a (bs.map fun b => V.ref b.1)
  each : ∀ b ∈ bs, SqL K H b.1 (b.2.map V.int)
theorem Rw.keep {K : PySem.W.Frag} {H H' : Hp} {a : Addr} {bs : List (Addr × List Int)} (r : Rw K H a bs) (s : Grows H H') : Rw K H' a bs := ⟨s.seq r.top, fun b m => s.seq (r.each b m)⟩
theorem Rw.at {K : PySem.W.Frag} {H : Hp} {a : Addr} {bs : List (Addr × List Int)} (r : Rw K H a bs) {i : Nat} (hi : i < bs.length) : SqL K H (bs.getD i (0, [])).1 ((bs.getD i (0, [])).2.map V.int) := by
  rw [List.getD_eq_getElem?_getD, List.getElem?_eq_getElem hi]
  exact r.each _ (List.getElem_mem hi)
theorem snd_at (bs : List (Addr × List Int)) (i : Nat) : (bs.map (·.2)).getD i [] = (bs.getD i (0, [])).2 := by
  rw [List.getD_eq_getElem?_getD, List.getD_eq_getElem?_getD, List.getElem?_map]
  cases bs[i]? <;> rfl
theorem mem_at {bs : List (Addr × List Int)} {i : Nat} (hi : i < bs.length) : (bs.getD i (0, [])).2 ∈ bs.map (·.2) := by
  rw [List.getD_eq_getElem?_getD, List.getElem?_eq_getElem hi]
  exact List.mem_map.mpr ⟨_, List.getElem_mem hi, rfl⟩
theorem none_back {H H' : Hp} {a : Addr} (s : Grows H H') (h : H' a = none) : H a = none := by
  rcases Option.eq_none_or_eq_some (H a) with z | ⟨o, z⟩
  · exact z
  · rw [s _ _ z] at h
    cases h
theorem nw_back {H0 H1 H : Hp} {cs : List (Addr × List Int)} (n : Nw H1 H cs) (s : Grows H0 H1) : Nw H0 H cs := ⟨n.lists, fun c m => none_back s (n.new c m), n.nodup⟩
theorem snd_of {cs : List (Addr × List Int)} {R : Nat → List Int} {n i : Nat} (e : cs.map (·.2) = (List.range n).map R) (hi : i < n) : (cs.getD i (0, [])).2 = R i := by
  rw [← snd_at, e, List.getD_eq_getElem?_getD, List.getElem?_map, List.getElem?_range hi]
  rfl
theorem any_rng (n : Nat) (p : Nat → Bool) : ((List.range n).map p).any id = (List.range n).any p := by
  rw [List.any_map]
  rfl
/-- of the size that may come -/
def Sz (rs : List (List Int)) : Prop := rs.length ≤ 1000 ∧ ∀ r ∈ rs, r.length ≤ 1000
def spAny (K : PySem.W.Frag) : Sp := fun vs H Q _ => ∃ (a : Addr) (bs : List (Addr × List Int)), vs = [.ref a] ∧ Rw K H a bs ∧ Sz (bs.map (·.2)) ∧ (∀ r ∈ bs.map (·.2), ∀ x ∈ r, 0 ≤ x ∧ x ≤ 1000) ∧ ∀ H', Grows H H' → Q (.bl (anyX (bs.map (·.2)))) H'
def spIs (K : PySem.W.Frag) : Sp := fun vs H Q _ => ∃ (a : Addr) (bs : List (Addr × List Int)), vs = [.ref a] ∧ Rw K H a bs ∧ Sz (bs.map (·.2)) ∧ ∀ H', Grows H H' → Q (.bl (isP (bs.map (·.2)))) H'
section
variable {P : Program} {w : World} {K : PySem.W.Frag} {mg : Str → Option Value} {base : Heap}
theorem scAny : FnScope ["groups", "masks", "group", "one", "other"] ["groups"] (defScope sAny) := ⟨rfl, rfl, rfl, by decide +kernel, rfl, by decide +kernel, by decide +kernel⟩
theorem scParting : FnScope ["thing", "persons", "group"] ["thing"] (defScope sParting) := ⟨rfl, rfl, rfl, by decide +kernel, rfl, by decide +kernel, by decide +kernel⟩
theorem ok_any (Z : ProgF K mg) (T : TxtP mg) : FnOk P w K mg base CX0 2 Z.fAny Z.dAny ["groups"] (spAny K) := by
  have GMask : FnOk P w K mg base CX0 1 Z.fMask Z.dMask ["group"] (spMask K) := ok_mask Z T
  have GCross : FnOk P w K mg base CX0 1 Z.fCross Z.dCross ["one", "other"] spCross := ok_cross Z
  refine Z.FAny.ok scAny (fun vs H Q E h => ?_) (fun cdv A outer s H vs Q E hr h => ?_)
  · obtain ⟨a, bs, rfl, _⟩ := h
    rfl
  · obtain ⟨a, bs, rfl, hB, ⟨hz1, hz2⟩, hx, k⟩ := h
    refine ⟨_, (pss_cons (ps_setLc (i := 1) (own := [("group", 2)]) (g := gName 2) (tt := tYes) rfl scAny.nd rfl rfl (sw_true rfl rfl rfl (by decide +kernel)) (pi_list (pv 0)) (blkOk_by (own := [("group", 2)]) (N := ["groups", "masks", "group", "one", "other"]) (sc := defScope sAny) (by decide +kernel)) (fun _ _ _ _ _ => pg_name (i := 2) scAny.nd rfl (Or.inl rfl)) (fun _ _ _ _ _ => pts_nil) (fun _ _ _ _ _ => (pe_call GMask (hr.mono (by decide)) rfl Z.gMask Z.FMask.kp Z.bMask .nil pass0 (pa_cons (pv 2) pa_nil))))
      (pss_one (ps_ret (pe_callB (cr_any rfl) (by rfl) T.any (by decide +kernel) (pa_cons (pe_lc (own := [("one", 3), ("other", 4)]) (g := gTup K 2 (gCons (gName 3) (gCons (gName 4) gNil))) (tt := tYes) rfl scAny.nd (Comb.pi_comb (by rfl) Z.gComb (pa_cons (pv 1) (pa_cons pe_int pa_nil))) (blkOk_by (own := [("one", 3), ("other", 4)]) (N := ["groups", "masks", "group", "one", "other"]) (sc := defScope sAny) (by decide +kernel)) (fun _ _ _ _ _ => pg_tup rfl (pgs_cons (pg_name (i := 3) scAny.nd rfl (Or.inl rfl)) (pgs_cons (pg_name (i := 4) scAny.nd rfl (Or.inl rfl)) pgs_nil))) (fun _ _ _ _ _ => pts_nil) (fun _ _ _ _ _ => (pe_call GCross (hr.mono (by decide)) rfl Z.gCross Z.FCross.kp Z.bCross .nil pass0 (pa_cons (pv 3) (pa_cons (pv 4) pa_nil))))) pa_nil))))), ?_⟩
    rw [List.length_map] at hz1
    refine ⟨_, rfl, a, rfl, ⟨_, hB.top⟩, fun D hD => lc_listM (K := K) (fun i => V.int (maskI (bs.getD i (0, [])).2)) hD hB.top (by rw [List.length_map]; omega) (fun i x H' R hx' sm kR => ?_) fun H' sm eD => ?_⟩
    · have il := (List.getElem?_eq_some_iff.mp hx').1
      rw [List.length_map] at il
      obtain rfl := at_map (d := (0, [])) hx'
      exact ⟨rfl, _, rfl, _, _, rfl, sm.seq (hB.at il), hz2 _ (mem_at il), hx _ (mem_at il), fun H2 s2 => kR _ s2⟩
    · rw [List.length_map] at eD
      refine ⟨_, rfl, D, _, rfl, SqL.of eD, fun D2 hD2 => lc_combM (xs := (List.range bs.length).map fun i => V.int (maskI (bs.getD i (0, [])).2)) (fun t => V.bl (crossI (maskI (bs.getD ((Comb.prs bs.length).getD t (0, 0)).1 (0, [])).2) (maskI (bs.getD ((Comb.prs bs.length).getD t (0, 0)).2 (0, [])).2))) hD2 (by rw [List.length_map, List.length_range]; exact hz1) (fun t i j x y T H' R ht ex ey sm2 hT kR => ?_) fun H2 sm2 eD2 => ?_⟩
      · rw [List.length_map, List.length_range] at ht
        rw [List.getElem?_map] at ex ey
        have gx : x = .int (maskI (bs.getD i (0, [])).2) := by
          obtain ⟨z, hz, e⟩ := Option.map_eq_some_iff.mp ex
          have e2 := (List.getElem?_eq_some_iff.mp hz)
          obtain ⟨l2, e3⟩ := e2
          rw [List.getElem_range] at e3
          rw [← e, ← e3]
        have gy : y = .int (maskI (bs.getD j (0, [])).2) := by
          obtain ⟨z, hz, e⟩ := Option.map_eq_some_iff.mp ey
          have e2 := (List.getElem?_eq_some_iff.mp hz)
          obtain ⟨l2, e3⟩ := e2
          rw [List.getElem_range] at e3
          rw [← e, ← e3]
        subst gx gy
        have et : (Comb.prs bs.length).getD t (0, 0) = (i, j) := by
          rw [List.getD_eq_getElem?_getD, ht]
          rfl
        rw [et] at kR
        exact ⟨T, _, rfl, SqT.of upd_same, rfl, _, _, rfl, _, _, rfl, rfl, rfl, _, rfl, _, rfl, _, _, rfl, fun H3 s3 => kR _ s3⟩
      · rw [List.length_map, List.length_range] at eD2
        refine ⟨D2, (List.range (Comb.prs bs.length).length).map fun t => crossI (maskI (bs.getD ((Comb.prs bs.length).getD t (0, 0)).1 (0, [])).2) (maskI (bs.getD ((Comb.prs bs.length).getD t (0, 0)).2 (0, [])).2), rfl, SqL.of (by rw [eD2, List.map_map]; rfl), ?_⟩
        rw [any_rng]
        have q := k H2 (sm.trans sm2)
        unfold anyX at q
        simp only [List.length_map, snd_at] at q
        exact q
theorem rows_in {n : Int} {ns : List Int} (h : group n ns = true) (hn : n ≤ 1000) : ∀ x ∈ ns, 0 ≤ x ∧ x ≤ 1000 := by
  unfold group plist at h
  simp only [Bool.and_eq_true] at h
  obtain ⟨⟨h1, _⟩, _⟩ := h
  intro x hx
  obtain ⟨i, hi, e⟩ := List.getElem_of_mem hx
  have q := List.all_eq_true.mp h1 i (List.mem_range.mpr hi)
  simp only [Bool.and_eq_true, decide_eq_true_eq] at q
  rw [List.getD_eq_getElem?_getD, List.getElem?_eq_getElem hi] at q
  have q' : 0 ≤ ns[i] ∧ ns[i] < n := q
  rw [e] at q'
  omega
theorem ok_is (Z : ProgF K mg) (T : TxtP mg) : FnOk P w K mg base CX0 5 Z.fIs Z.dIs ["thing"] (spIs K) := by
  have GGr : FnOk P w K mg base CX0 4 Z.fGr Z.dGr ["thing", "persons"] (spPL K group) := ok_group Z T
  have GAsc : FnOk P w K mg base CX0 1 Z.fAsc Z.dAsc ["items"] (spAscR K) := ok_ascR Z.FAsc T
  have GAny : FnOk P w K mg base CX0 2 Z.fAny Z.dAny ["groups"] (spAny K) := ok_any Z T
  refine Z.FIs.ok scParting (fun vs H Q E h => ?_) (fun cdv A outer s H vs Q E hr h => ?_)
  · obtain ⟨a, bs, rfl, _⟩ := h
    rfl
  · obtain ⟨a, bs, rfl, hB, hz, k⟩ := h
    refine ⟨_, (pss_cons (ps_if (PW.pt (pw_or (pt_not (pt_val (pe_callB call_isi (by rfl) T.isi (by decide +kernel) (pa_cons (pv 0) (pa_cons (pe_bltn (v := .ty "list") (u := .type "list") (by rfl) T.list (by decide +kernel) rfl) pa_nil))))) (pw_or1 (pt_cmpR op_ge (pe_callB call_len_seq (by rfl) T.len (by decide +kernel) (pa_cons (pv 0) pa_nil)) (pe_glob (v := .int 20) rfl Z.gMost ⟨_, rfl⟩) (nomark _))))) (pss_one (ps_ret pe_bl)) pss_nil)
      (pss_cons (ps_set (i := 1) scParting.nd rfl (.inr rfl) (pe_op op_add (pe_callB call_len_seq (by rfl) T.len (by decide +kernel) (pa_cons (pv 0) pa_nil)) pe_int))
      (pss_cons (ps_if (pt_not (pt_val (pe_callB (cr_all rfl) (by rfl) T.all (by decide +kernel) (pa_cons (pe_lc (own := [("group", 2)]) (g := gName 2) (tt := tYes) rfl scParting.nd (pi_list (pv 0)) (blkOk_by (own := [("group", 2)]) (N := ["thing", "persons", "group"]) (sc := defScope sParting) (by decide +kernel)) (fun _ _ _ _ _ => pg_name (i := 2) scParting.nd rfl (Or.inl rfl)) (fun _ _ _ _ _ => pts_nil) (fun _ _ _ _ _ => (pe_call GGr (hr.mono (by decide)) rfl Z.gGr Z.FGr.kp Z.bGr .nil pass0 (pa_cons (pv 2) (pa_cons (pv 1) pa_nil))))) pa_nil)))) (pss_one (ps_ret pe_bl)) pss_nil)
      (pss_one (ps_ret (pe_and (pe_call GAsc (hr.mono (by decide)) rfl Z.gAsc Z.FAsc.kp Z.bAsc .nil pass0 (pa_cons (pv 0) pa_nil)) (pe_one (pe_not (pe_call GAny (hr.mono (by decide)) rfl Z.gAny Z.FAny.kp Z.bAny .nil pass0 (pa_cons (pv 0) pa_nil)))))))))), ?_⟩
    have hz' := hz
    obtain ⟨hz1, hz2⟩ := hz
    rw [List.length_map] at hz1
    refine ⟨_, rfl, _, _, _, _, true, rfl, .ty "list", ty_list hB.top, kit_ty (by decide +kernel), true, rfl, iteF ⟨_, rfl, a, _, rfl, .inl hB.top, _, _, rfl, rfl, _, rfl, ?_⟩⟩
    rw [List.length_map]
    refine ite2 (fun e => ?_) (fun e => ?_)
    · have ge := of_decide_eq_true e
      have q := k H .refl
      unfold isP at q
      rw [List.length_map, decide_eq_false (by omega), Bool.false_and, Bool.false_and, Bool.false_and] at q
      exact q
    · have lt : (bs.length : Int) < 20 := by
        rcases Int.lt_or_le (bs.length : Int) 20 with z | z
        · exact z
        · exact absurd (decide_eq_true z) e
      refine ⟨_, rfl, a, _, rfl, .inl hB.top, _, _, rfl, rfl, ?_⟩
      rw [List.length_map]
      refine ⟨_, rfl, a, rfl, ⟨_, hB.top⟩, fun D hD => lc_listM (K := K) (fun i => V.bl (group (bs.length + 1) (bs.getD i (0, [])).2)) hD hB.top (by rw [List.length_map]; omega) (fun i x H' R hx' sm kR => ?_) fun H' sm eD => ?_⟩
      · have il := (List.getElem?_eq_some_iff.mp hx').1
        rw [List.length_map] at il
        obtain rfl := at_map (d := (0, [])) hx'
        exact ⟨rfl, _, rfl, _, rfl, _, _, _, rfl, sm.seq (hB.at il), hz2 _ (mem_at il), fun H2 s2 => kR _ s2⟩
      · rw [List.length_map] at eD
        refine ⟨D, (List.range bs.length).map fun i => group (bs.length + 1) (bs.getD i (0, [])).2, rfl, SqL.of (by rw [eD, List.map_map]; rfl), ?_⟩
        rw [all_rng]
        refine ⟨_, rfl, ?_⟩
        have val : ∀ H2, Grows H H2 → Q (.bl (((List.range bs.length).all fun i => group (bs.length + 1) (bs.getD i (0, [])).2) && ascR (bs.map (·.2)) && !anyX (bs.map (·.2)))) H2 := fun H2 s2 => by
          have q := k H2 s2
          unfold isP at q
          simp only [List.length_map, snd_at] at q
          rw [decide_eq_true lt, Bool.true_and] at q
          exact q
        by_cases hg : ((List.range bs.length).all fun i => group (bs.length + 1) (bs.getD i (0, [])).2) = true
        · rw [hg] at val ⊢
          refine iteF ⟨_, rfl, a, bs, rfl, (hB.keep sm).top, (hB.keep sm).each, hz1, fun H2 s2 => ⟨_, rfl, ?_⟩⟩
          by_cases ha : ascR (bs.map (·.2)) = true
          · rw [if_pos ha]
            have hx : ∀ r ∈ bs.map (·.2), ∀ x ∈ r, 0 ≤ x ∧ x ≤ 1000 := fun r hr x hx => by
              obtain ⟨i, hi, e⟩ := List.getElem_of_mem hr
              rw [List.length_map] at hi
              have g := List.all_eq_true.mp hg i (List.mem_range.mpr hi)
              have e2 : (bs.getD i (0, [])).2 = r := by
                rw [← snd_at, List.getD_eq_getElem?_getD, List.getElem?_eq_getElem (by rw [List.length_map]; exact hi), e]
                rfl
              rw [e2] at g
              exact rows_in g (by omega) x hx
            refine ⟨_, rfl, a, bs, rfl, (hB.keep sm).keep s2, hz', hx, fun H3 s3 => ⟨_, rfl, ?_⟩⟩
            have q := val H3 ((sm.trans s2).trans s3)
            rw [ha, Bool.true_and, Bool.true_and] at q
            exact q
          · rw [if_neg ha]
            have q := val H2 (sm.trans s2)
            rw [Bool.eq_false_iff.mpr ha, Bool.true_and, Bool.false_and] at q
            exact q
        · have q := val H' sm
          rw [Bool.eq_false_iff.mpr hg] at q ⊢
          rw [Bool.false_and, Bool.false_and] at q
          exact iteT q
end
end K01

namespace K01
open PySem PySem.Spec PyProof.Rows L2 SortR LcM
abbrev sFolk : Stmt := top 17
/-- two halves, each of them parted again -/
inductive Nest where
  | leaf (i : Int)
  | node (l r : Nest)
def Nest.ht : Nest → Nat
  | .leaf _ => 0
  | .node l r => max l.ht r.ht + 1
def Nest.sz : Nest → Nat
  | .leaf _ => 1
  | .node l r => l.sz + r.sz
/-- all persons of it -/
def Nest.folk : Nest → List Int
  | .leaf i => [i]
  | .node l r => (l.folk ++ r.folk).mergeSort intLe
theorem Nest.folk_len : ∀ t : Nest, t.folk.length = t.sz
  | .leaf _ => rfl
  | .node l r => by
    show ((l.folk ++ r.folk).mergeSort intLe).length = l.sz + r.sz
    rw [List.length_mergeSort, List.length_append, Nest.folk_len l, Nest.folk_len r]
/-- a nest as it stands -/
inductive NV (K : PySem.W.Frag) (H : Hp) : V → Nest → Prop
  | leaf (i : Int) : NV K H (.int i) (.leaf i)
  | node {t : Addr} {x y : V} {l r : Nest} : H t = some (.tup [x, y]) → NV K H x l → NV K H y r → NV K H (.ref t) (.node l r)
theorem NV.keep {K : PySem.W.Frag} {H H' : Hp} {x : V} {t : Nest} (n : NV K H x t) (s : Grows H H') : NV K H' x t := by
  induction n with
  | leaf i => exact .leaf i
  | node h _ _ a b => exact .node (s _ _ h) a b
def spNo : Sp := fun _ _ _ _ => False
def spFolk (K : PySem.W.Frag) (d : Nat) : Sp := fun vs H Q _ => ∃ (x : V) (t : Nest), vs = [x] ∧ NV K H x t ∧ t.ht ≤ d ∧ t.sz ≤ 600000 ∧ ∀ (p : Addr) (H' : Hp), Grows H H' → H p = none → H' p = some (.lst (t.folk.map V.int)) → Q (.ref p) H'
section
variable {P : Program} {w : World} {K : PySem.W.Frag} {mg : Str → Option Value} {base : Heap}
theorem fn_no {f : Addr} {fd : FuncData} {ps : List Str} : FnOk P w K mg base CX0 1 f fd ps spNo := ⟨fun _ _ _ _ h => h.elim, fun _ _ _ _ _ _ _ _ _ _ _ _ _ h => h.elim⟩
theorem scFolk : FnScope ["nest"] ["nest"] (defScope sFolk) := ⟨rfl, rfl, rfl, by decide +kernel, rfl, by decide +kernel, by decide +kernel⟩
theorem folk_body {k d : Nat} {sp0 : Sp} {f : Addr} {fd : FuncData} (F : Fun K "_law_folk" "_law_folk" sFolk f fd) (T : TxtP mg) (gFolk : mg "_law_folk" = some (.ref f)) (bF : Binds K fd ["nest"] []) (G0 : FnOk P w K mg base CX0 k f fd ["nest"] sp0)
    (inner : ∀ (x : V) (t : Nest) (H : Hp) (Q : VK) (E : XK), NV K H x t → t.ht < d → t.sz ≤ 600000 → (∀ (p : Addr) (H' : Hp), Grows H H' → H p = none → H' p = some (.lst (t.folk.map V.int)) → Q (.ref p) H') → sp0 [x] H Q E) :
    FnOk P w K mg base CX0 (k + 1) f fd ["nest"] (spFolk K d) := by
  refine F.ok scFolk (fun vs H Q E h => ?_) (fun cdv A outer s H vs Q E hr h => ?_)
  · obtain ⟨x, t, rfl, _⟩ := h
    rfl
  · obtain ⟨x, t, rfl, nv, ht, hz, kq⟩ := h
    refine ⟨_, (pss_one (ps_ret (pe_ifExp (pt_val (pe_callB call_isi (by rfl) T.isi (by decide +kernel) (pa_cons (pv 0) (pa_cons (pe_bltn (v := .ty "int") (u := .type "int") (by rfl) T.int (by decide +kernel) rfl) pa_nil)))) (pe_lst (pa_cons (pv 0) pa_nil)) (pe_callB (call_sortedInts hr.units) (by rfl) T.sorted (by decide +kernel) (pa_cons (pe_op op_cat (pe_call G0 hr rfl gFolk F.kp bF .nil pass0 (pa_cons (pe_ix (r := rIxT K) ix_tup (pv 0) pe_int (fun _ _ => rfl)) pa_nil)) (pe_call G0 hr rfl gFolk F.kp bF .nil pass0 (pa_cons (pe_ix (r := rIxT K) ix_tup (pv 0) pe_int (fun _ _ => rfl)) pa_nil))) pa_nil))))), ?_⟩
    cases nv with
    | leaf i =>
      refine ⟨_, rfl, _, _, _, _, true, rfl, .ty "int", .base (.int i), kit_ty (by decide +kernel), true, rfl, iteT ⟨_, rfl, (by show 1 ≤ sizeLine; decide), fun l hl => ?_⟩⟩
      exact kq l _ (Grows.new hl) hl upd_same
    | @node t x y l r at_t nl nr =>
      have hlz : l.sz + r.sz ≤ 600000 := hz
      have hlh : max l.ht r.ht + 1 ≤ d := ht
      refine ⟨_, rfl, _, _, _, _, false, rfl, .ty "int", .base (.tup at_t), kit_ty (by decide +kernel), false, rfl, iteF ?_⟩
      refine ⟨_, rfl, t, _, 0, x, rfl, rfl, SqT.of at_t, rfl, inner x l H _ _ nl (by omega) (by omega) fun p1 H1 s1 n1 e1 => ?_⟩
      refine ⟨_, rfl, t, _, 1, y, rfl, rfl, SqT.of (s1 _ _ at_t), rfl, inner y r H1 _ _ (nr.keep s1) (by omega) (by omega) fun p2 H2 s2 n2 e2 => ?_⟩
      have len : (l.folk.map V.int).length + (r.folk.map V.int).length ≤ sizeLine := by
        rw [List.length_map, List.length_map, Nest.folk_len, Nest.folk_len]
        exact Nat.le_trans hlz (by decide)
      refine ⟨p1, p2, _, _, rfl, rfl, s2 _ _ e1, e2, len, fun p3 n3 => ⟨p3, l.folk ++ r.folk, rfl, SqL.of (by rw [upd_same, List.map_append]), fun p4 n4 => ?_⟩⟩
      have s12 := s1.trans s2
      have s3 := s12.trans (Grows.new (o := .lst (l.folk.map V.int ++ r.folk.map V.int)) n3)
      exact kq p4 _ (s3.trans (Grows.new n4)) (none_back s3 n4) upd_same
theorem ok_folk {f : Addr} {fd : FuncData} (F : Fun K "_law_folk" "_law_folk" sFolk f fd) (T : TxtP mg) (gFolk : mg "_law_folk" = some (.ref f)) (bF : Binds K fd ["nest"] []) : ∀ d, FnOk P w K mg base CX0 (d + 2) f fd ["nest"] (spFolk K d)
  | 0 => folk_body F T gFolk bF (fn_no (f := f) (fd := fd)) fun _ _ _ _ _ _ h _ _ => absurd h (Nat.not_lt_zero _)
  | d + 1 => folk_body F T gFolk bF (ok_folk F T gFolk bF d) fun x t H Q E nv h hz kq => ⟨x, t, rfl, nv, Nat.le_of_lt_succ h, hz, kq⟩
end
end K01

namespace K01
open PySem PySem.Spec PyProof.Rows L2 SortR LcM
abbrev sPut : Stmt := top 18
/-- the least person -/
def Nest.mn : Nest → Int
  | .leaf i => i
  | .node l r => min l.mn r.mn
theorem Nest.mn_ok : ∀ t : Nest, t.mn ∈ t.folk ∧ ∀ y ∈ t.folk, t.mn ≤ y
  | .leaf i => ⟨List.mem_singleton.mpr rfl, fun y h => by rw [List.mem_singleton.mp h]; exact Int.le_refl _⟩
  | .node l r => by
    obtain ⟨l1, l2⟩ := Nest.mn_ok l
    obtain ⟨r1, r2⟩ := Nest.mn_ok r
    have mem : ∀ y, y ∈ (Nest.node l r).folk ↔ y ∈ l.folk ∨ y ∈ r.folk := fun y => List.mem_mergeSort.trans List.mem_append
    refine ⟨(mem _).mpr ?_, fun y hy => ?_⟩
    · show min l.mn r.mn ∈ l.folk ∨ min l.mn r.mn ∈ r.folk
      rcases Int.le_total l.mn r.mn with h | h
      · rw [Int.min_eq_left h]
        exact .inl l1
      · rw [Int.min_eq_right h]
        exact .inr r1
    · show min l.mn r.mn ≤ y
      rcases (mem y).mp hy with h | h
      · have := l2 y h
        omega
      · have := r2 y h
        omega
theorem Nest.mn_eq {t : Nest} {m : Int} (h : m ∈ t.folk) (k : ∀ y ∈ t.folk, m ≤ y) : m = t.mn := by
  obtain ⟨a, b⟩ := t.mn_ok
  exact Int.le_antisymm (k _ a) (b _ h)
/-- with a newcomer, beside a person or around the group with a maker -/
def Nest.put (item fresh : Int) : Nest → Nest
  | .leaf i => if i = item then .node (.leaf i) (.leaf fresh) else .leaf i
  | .node l r => if max l.mn r.mn = 0 - item then .node (.node l r) (.leaf fresh) else .node (l.put item fresh) (r.put item fresh)
def spPut (K : PySem.W.Frag) (d : Nat) : Sp := fun vs H Q _ => ∃ (x : V) (item fresh : Int) (t : Nest), vs = [x, .int item, .int fresh] ∧ NV K H x t ∧ t.ht ≤ d ∧ t.sz ≤ 600000 ∧ ∀ (y : V) (H' : Hp), Grows H H' → NV K H' y (t.put item fresh) → Q y H'
theorem NV.free {K : PySem.W.Frag} {H : Hp} {x : V} {t : Nest} (n : NV K H x t) {D : Addr} {zs : List V} (h : H D = some (.lst zs)) (u : HO) : NV K (upd H D u) x t := by
  induction n with
  | leaf i => exact .leaf i
  | node e _ _ a b =>
    refine .node ?_ a b
    rw [upd_ne (ne_of e h fun z => nomatch z)]
    exact e
section
variable {P : Program} {w : World} {K : PySem.W.Frag} {mg : Str → Option Value} {base : Heap}
theorem scPut : FnScope ["nest", "item", "fresh", "half"] ["nest", "item", "fresh"] (defScope sPut) := ⟨rfl, rfl, rfl, by decide +kernel, rfl, by decide +kernel, by decide +kernel⟩
theorem put_body {k d : Nat} {sp0 : Sp} {f fF : Addr} {fd dF : FuncData} (F : Fun K "_law_put" "_law_put" sPut f fd) (T : TxtP mg) (T0 : Txt0 mg) (gPut : mg "_law_put" = some (.ref f)) (bF : Binds K fd ["nest", "item", "fresh"] []) (FF : Fun K "_law_folk" "_law_folk" sFolk fF dF) (gFolk : mg "_law_folk" = some (.ref fF)) (bFF : Binds K dF ["nest"] [])
    (hk : d + 2 ≤ k) (G0 : FnOk P w K mg base CX0 k f fd ["nest", "item", "fresh"] sp0)
    (inner : ∀ (x : V) (item fresh : Int) (t : Nest) (H : Hp) (Q : VK) (E : XK), NV K H x t → t.ht < d → t.sz ≤ 600000 → (∀ (y : V) (H' : Hp), Grows H H' → NV K H' y (t.put item fresh) → Q y H') → sp0 [x, .int item, .int fresh] H Q E) :
    FnOk P w K mg base CX0 (k + 1) f fd ["nest", "item", "fresh"] (spPut K d) := by
  have GF : FnOk P w K mg base CX0 (d + 2) fF dF ["nest"] (spFolk K d) := ok_folk FF T gFolk bFF d
  refine F.ok scPut (fun vs H Q E h => ?_) (fun cdv A outer s H vs Q E hr h => ?_)
  · obtain ⟨x, i, j, t, rfl, _⟩ := h
    rfl
  · obtain ⟨x, item, fresh, t, rfl, nv, ht, hz, kq⟩ := h
    refine ⟨_, (pss_cons (ps_if (pt_val (pe_callB call_isi (by rfl) T.isi (by decide +kernel) (pa_cons (pv 0) (pa_cons (pe_bltn (v := .ty "int") (u := .type "int") (by rfl) T.int (by decide +kernel) rfl) pa_nil)))) (pss_one (ps_ret (pe_ifExp (pt_cmpR op_eq (pv 0) (pv 1) (nomark _)) (pe_tup (pa_cons (pv 0) (pa_cons (pv 2) pa_nil))) (pv 0)))) pss_nil)
      (pss_cons (ps_if (pt_cmpR op_eq (pe_callB (cr_max rfl) (by rfl) T0.max (by decide +kernel) (pa_cons (pe_lc (own := [("half", 3)]) (g := gName 3) (tt := tYes) rfl scPut.nd (pi_tup (pv 0)) (blkOk_by (own := [("half", 3)]) (N := ["nest", "item", "fresh", "half"]) (sc := defScope sPut) (by decide +kernel)) (fun _ _ _ _ _ => pg_name (i := 3) scPut.nd rfl (Or.inl rfl)) (fun _ _ _ _ _ => pts_nil) (fun _ _ _ _ _ => (pe_callB (id := "min") (r := rMin K) (by exact cr_min rfl) (by rfl) T0.min (by decide +kernel) (pa_cons (pe_call GF (hr.mono hk) rfl gFolk FF.kp bFF .nil pass0 (pa_cons (pv 3) pa_nil)) pa_nil)))) pa_nil)) (pe_op op_sub pe_int (pv 1)) (nomark _)) (pss_one (ps_ret (pe_tup (pa_cons (pv 0) (pa_cons (pv 2) pa_nil))))) pss_nil)
      (pss_one (ps_ret (pe_callTy call_tuple_of (by rfl) T.tuple (by decide +kernel) (pa_cons (pe_lc (own := [("half", 3)]) (g := gName 3) (tt := tYes) rfl scPut.nd (pi_tup (pv 0)) (blkOk_by (own := [("half", 3)]) (N := ["nest", "item", "fresh", "half"]) (sc := defScope sPut) (by decide +kernel)) (fun _ _ _ _ _ => pg_name (i := 3) scPut.nd rfl (Or.inl rfl)) (fun _ _ _ _ _ => pts_nil) (fun _ _ _ _ _ => (pe_call G0 hr rfl gPut F.kp bF .nil pass0 (pa_cons (pv 3) (pa_cons (pv 1) (pa_cons (pv 2) pa_nil)))))) pa_nil)))))), ?_⟩
    cases nv with
    | leaf i =>
      refine ⟨_, rfl, _, _, _, _, true, rfl, .ty "int", .base (.int i), kit_ty (by decide +kernel), true, rfl, iteT ⟨_, rfl, _, rfl, rfl, _, rfl, ?_⟩⟩
      refine ite2 (fun e => ?_) (fun e => ?_)
      · have e' : i = item := by simpa using e
        refine ⟨_, rfl, _, rfl, (by show 2 ≤ sizeLine; decide), fun t ht => kq (.ref t) _ (Grows.new ht) ?_⟩
        show NV K _ _ (if i = item then _ else _)
        rw [if_pos e']
        exact .node upd_same (.leaf i) (.leaf fresh)
      · have e' : ¬ i = item := by simpa using e
        refine ⟨_, rfl, kq (.int i) H .refl ?_⟩
        show NV K _ _ (if i = item then _ else _)
        rw [if_neg e']
        exact .leaf i
    | @node t x y l r at_t nl nr =>
      have hlz : l.sz + r.sz ≤ 600000 := hz
      have hlh : max l.ht r.ht + 1 ≤ d := ht
      let hv : Nat → Nest := fun j => if j = 0 then l else r
      have half : ∀ (i : Nat) (z : V) (H' : Hp), [x, y][i]? = some z → Grows H H' → NV K H' z (hv i) ∧ (hv i).ht < d ∧ (hv i).sz ≤ 600000 := fun i z H' e s => by
        match i, e with
        | 0, e =>
          obtain rfl : x = z := Option.some.inj e
          exact ⟨nl.keep s, (show l.ht < d by omega), (show l.sz ≤ 600000 by omega)⟩
        | 1, e =>
          obtain rfl : y = z := Option.some.inj e
          exact ⟨nr.keep s, (show r.ht < d by omega), (show r.sz ≤ 600000 by omega)⟩
      refine ⟨_, rfl, _, _, _, _, false, rfl, .ty "int", .base (.tup at_t), kit_ty (by decide +kernel), false, rfl, iteF ?_⟩
      refine ⟨_, rfl, t, rfl, ⟨_, SqT.of at_t⟩, fun D hD => lc_tupX (K := K) (fun j z _ => z = .int (hv j).mn) (fun _ _ _ _ _ h => h) (fun _ _ _ _ h _ _ => h) hD (SqT.of at_t) (by show 2 ≤ 1000000; decide) (fun i z H' Rk ez sm _ kR => ?_) fun H1 ys m => ?_⟩
      · obtain ⟨n1, n2, n3⟩ := half i z H' ez sm
        refine ⟨rfl, _, rfl, z, hv i, rfl, n1, Nat.le_of_lt n2, n3, fun p H2 s2 _ e2 => ⟨p, (hv i).folk, rfl, SqL.of e2, ?_, fun m hm hle => kR (.int m) H2 s2 (by rw [Nest.mn_eq hm hle])⟩⟩
        exact List.length_pos_of_mem (hv i).mn_ok.1
      · have two : ys = [.int l.mn, .int r.mn] := by
          have len : ys.length = 2 := m.len
          match ys, len, m.rel with
          | [u, v], _, rel =>
            have a := rel 0 u rfl
            have b := rel 1 v rfl
            rw [a, b]
            rfl
        have top := m.top
        rw [two] at top
        refine ⟨D, [l.mn, r.mn], rfl, SqL.of top, (by show 0 < 2; decide), fun mx hmx hge => ⟨_, rfl, _, _, rfl, rfl, rfl, _, rfl, ?_⟩⟩
        have emx : mx = max l.mn r.mn := by
          have g1 := hge l.mn (List.mem_cons_self)
          have g2 := hge r.mn (List.mem_cons_of_mem _ List.mem_cons_self)
          have g3 : mx = l.mn ∨ mx = r.mn := by simpa using hmx
          omega
        have s1 := m.grow
        refine ite2 (fun e => ?_) (fun e => ?_)
        · have e' : max l.mn r.mn = 0 - item := by
            rw [← emx]
            simpa using e
          refine ⟨_, rfl, _, rfl, (by show 2 ≤ sizeLine; decide), fun q hq => kq (.ref q) _ (s1.trans (Grows.new hq)) ?_⟩
          show NV K _ _ (if max l.mn r.mn = 0 - item then _ else _)
          rw [if_pos e']
          have s2 : Grows H (upd H1 q (.tup [.ref t, .int fresh])) := s1.trans (Grows.new hq)
          exact .node upd_same (.node (s2 _ _ at_t) (nl.keep s2) (nr.keep s2)) (.leaf fresh)
        · have e' : ¬ max l.mn r.mn = 0 - item := by
            rw [← emx]
            simpa using e
          refine ⟨_, rfl, t, rfl, ⟨_, SqT.of (s1 _ _ at_t)⟩, fun D2 hD2 => lc_tupX (K := K) (fun j z G => NV K G z ((hv j).put item fresh)) (fun _ _ _ _ s h => h.keep s) (fun _ _ _ _ h e u => h.free e u) hD2 (SqT.of (s1 _ _ at_t)) (by show 2 ≤ 1000000; decide) (fun i z H' Rk ez sm _ kR => ?_) fun H2 ys2 m2 => ?_⟩
          · obtain ⟨n1, n2, n3⟩ := half i z H' ez (s1.trans sm)
            exact ⟨rfl, _, rfl, _, rfl, _, rfl, inner z item fresh (hv i) H' _ _ n1 n2 n3 fun y' H3 s3 nv3 => kR y' H3 s3 nv3⟩
          · have len2 : ys2.length = 2 := m2.len
            refine ⟨D2, ys2, rfl, .inl ⟨SqL.of m2.top, fun q hq => kq (.ref q) _ ((s1.trans m2.grow).trans (Grows.new hq)) ?_⟩⟩
            show NV K _ _ (if max l.mn r.mn = 0 - item then _ else _)
            rw [if_neg e']
            match ys2, len2, m2.rel, hq with
            | [u, v], _, rel, hq => exact .node upd_same ((rel 0 u rfl).keep (Grows.new hq)) ((rel 1 v rfl).keep (Grows.new hq))
theorem ok_put {f fF : Addr} {fd dF : FuncData} (F : Fun K "_law_put" "_law_put" sPut f fd) (T : TxtP mg) (T0 : Txt0 mg) (gPut : mg "_law_put" = some (.ref f)) (bF : Binds K fd ["nest", "item", "fresh"] []) (FF : Fun K "_law_folk" "_law_folk" sFolk fF dF) (gFolk : mg "_law_folk" = some (.ref fF)) (bFF : Binds K dF ["nest"] []) : ∀ d, FnOk P w K mg base CX0 (d + 3) f fd ["nest", "item", "fresh"] (spPut K d)
  | 0 => put_body F T T0 gPut bF FF gFolk bFF (Nat.le_refl _) ((fn_no (f := f) (fd := fd)).mono (by decide)) fun _ _ _ _ _ _ _ _ h _ _ => absurd h (Nat.not_lt_zero _)
  | d + 1 => put_body F T T0 gPut bF FF gFolk bFF (Nat.le_refl _) (ok_put F T T0 gPut bF FF gFolk bFF d) fun x i j t H Q E nv h hz kq => ⟨x, i, j, t, rfl, nv, Nat.le_of_lt_succ h, hz, kq⟩
end
end K01

namespace K01
open PySem PySem.Spec PyProof.Rows L2 SortR LcM
abbrev sNest : Stmt := top 19
abbrev sLots : Stmt := top 20
theorem Nest.put_ht (i j : Int) : ∀ t : Nest, (t.put i j).ht ≤ t.ht + 1
  | .leaf k => by
    unfold Nest.put
    split
    · show max (0 : Nat) 0 + 1 ≤ 0 + 1
      omega
    · exact Nat.zero_le _
  | .node l r => by
    have a := Nest.put_ht i j l
    have b := Nest.put_ht i j r
    unfold Nest.put
    split
    · show max (max l.ht r.ht + 1) 0 + 1 ≤ max l.ht r.ht + 1 + 1
      omega
    · show max (l.put i j).ht (r.put i j).ht + 1 ≤ max l.ht r.ht + 1 + 1
      omega
theorem Nest.sz_pos : ∀ t : Nest, 1 ≤ t.sz
  | .leaf _ => Nat.le_refl _
  | .node l r => by
    have := Nest.sz_pos l
    show 1 ≤ l.sz + r.sz
    omega
theorem Nest.put_sz (i j : Int) : ∀ t : Nest, (t.put i j).sz ≤ 2 * t.sz
  | .leaf k => by
    unfold Nest.put
    split
    · exact Nat.le_refl _
    · show 1 ≤ 2 * 1
      decide
  | .node l r => by
    have a := Nest.put_sz i j l
    have b := Nest.put_sz i j r
    have c := Nest.sz_pos l
    have d := Nest.sz_pos r
    unfold Nest.put
    split
    · show l.sz + r.sz + 1 ≤ 2 * (l.sz + r.sz)
      omega
    · show (l.put i j).sz + (r.put i j).sz ≤ 2 * (l.sz + r.sz)
      omega
/-- the first n newcomers come -/
def nestN (is : List Int) : Nat → Nest
  | 0 => .leaf 0
  | n + 1 => (nestN is n).put (is.getD n 0) (n + 1)
theorem nestN_ht (is : List Int) : ∀ n, (nestN is n).ht ≤ n
  | 0 => Nat.le_refl _
  | n + 1 => Nat.le_trans (Nest.put_ht _ _ _) (Nat.succ_le_succ (nestN_ht is n))
theorem nestN_sz (is : List Int) : ∀ n, (nestN is n).sz ≤ 2 ^ n
  | 0 => Nat.le_refl _
  | n + 1 => by
    have := nestN_sz is n
    have := Nest.put_sz (is.getD n 0) (n + 1) (nestN is n)
    show ((nestN is n).put (is.getD n 0) (n + 1)).sz ≤ 2 ^ (n + 1)
    rw [Nat.pow_succ]
    omega
def spNest (K : PySem.W.Frag) : Sp := fun vs H Q _ => ∃ (a : Addr) (is : List Int), vs = [.ref a] ∧ SqL K H a (is.map V.int) ∧ is.length ≤ 19 ∧ ∀ (y : V) (H' : Hp), Grows H H' → NV K H' y (nestN is is.length) → Q y H'
/-- all groups of two persons or more -/
def Nest.lots : Nest → List (List Int)
  | .leaf _ => []
  | .node l r => ((Nest.node l r).folk :: (l.lots ++ r.lots)).mergeSort fun p q => decide (p ≤ q)
theorem Nest.lots_len : ∀ t : Nest, t.lots.length + 1 = t.sz
  | .leaf _ => rfl
  | .node l r => by
    have a := Nest.lots_len l
    have b := Nest.lots_len r
    show (((Nest.node l r).folk :: (l.lots ++ r.lots)).mergeSort _).length + 1 = l.sz + r.sz
    rw [List.length_mergeSort, List.length_cons, List.length_append]
    omega
def spLots (K : PySem.W.Frag) (d : Nat) : Sp := fun vs H Q _ => ∃ (x : V) (t : Nest), vs = [x] ∧ NV K H x t ∧ t.ht ≤ d ∧ t.sz ≤ 600000 ∧
  ∀ (p : Addr) (cs : List (Addr × List Int)) (H' : Hp), cs.map (·.2) = t.lots → Grows H H' → H p = none → Nw H H' cs → (∀ c ∈ cs, c.1 ≠ p) → H' p = some (.lst (cs.map fun c => V.ref c.1)) → Q (.ref p) H'
section
variable {P : Program} {w : World} {K : PySem.W.Frag} {mg : Str → Option Value} {base : Heap}
theorem scNest : FnScope ["items", "nest", "spot", "item"] ["items"] (defScope sNest) := ⟨rfl, rfl, rfl, by decide +kernel, rfl, by decide +kernel, by decide +kernel⟩
theorem scLots : FnScope ["nest"] ["nest"] (defScope sLots) := ⟨rfl, rfl, rfl, by decide +kernel, rfl, by decide +kernel, by decide +kernel⟩
theorem ok_nest {f fP : Addr} {fd dP : FuncData} (F : Fun K "_law_nest" "_law_nest" sNest f fd) (T : TxtP mg) (gPut : mg "_law_put" = some (.ref fP)) (FP : Fun K "_law_put" "_law_put" sPut fP dP) (bFP : Binds K dP ["nest", "item", "fresh"] [])
    (GP : FnOk P w K mg base CX0 22 fP dP ["nest", "item", "fresh"] (spPut K 19)) : FnOk P w K mg base CX0 23 f fd ["items"] (spNest K) := by
  refine F.ok scNest (fun vs H Q E h => ?_) (fun cdv A outer s H vs Q E hr h => ?_)
  · obtain ⟨a, is, rfl, _⟩ := h
    rfl
  · obtain ⟨a, is, rfl, hS, hn, kq⟩ := h
    refine ⟨_, (pss_cons (ps_set (i := 1) scNest.nd rfl (.inl rfl) pe_int)
      (pss_cons (ps_for PassesOwn.never rfl (pi_enum (by rfl) T.enumerate (pa_cons (pv 0) pa_nil)) (pg_tup (by rfl) (pgs_cons (pg_name (i := 2) scNest.nd rfl (.inl rfl)) (pgs_cons (pg_name (i := 3) scNest.nd rfl (.inl rfl)) pgs_nil)))
      (pss_one (ps_set (i := 1) scNest.nd rfl (.inl rfl) (pe_call GP (hr.mono (by decide)) rfl gPut FP.kp bFP .nil pass0 (pa_cons (pv 1) (pa_cons (pv 3) (pa_cons (pe_op op_add (pv 2) pe_int) pa_nil)))))))
      (pss_one (ps_ret (pv 1))))), ?_⟩
    refine ⟨_, rfl, a, _, rfl, hS, for_enumL (K := K) (xs := is.map V.int) (fun i σ H' => ∃ (y : V) (o1 o2 : Option V), σ = [some (.ref a), some y, o1, o2] ∧ Grows H H' ∧ NV K H' y (nestN is i)) ⟨.int 0, none, none, rfl, .refl, .leaf 0⟩ (fun i σ H' ⟨_, _, _, _, s, _⟩ => s.seq hS) (fun i x Tp σ H' hx ⟨y, o1, o2, e, s, nv⟩ hT => ?_) fun σ H' ⟨y, o1, o2, e, s, nv⟩ => ?_⟩
    · subst e
      have il := (List.getElem?_eq_some_iff.mp hx).1
      rw [List.length_map] at il
      obtain rfl := at_map (d := 0) hx
      have h1 := nestN_ht is i
      have h2 := nestN_sz is i
      have h3 : (2 : Nat) ^ i ≤ 2 ^ 19 := Nat.pow_le_pow_right (by decide) (by omega)
      have h4 : (2 : Nat) ^ 19 = 524288 := by decide
      refine ⟨Tp, _, rfl, SqT.of upd_same, rfl, _, _, rfl, _, _, rfl, rfl, _, rfl, _, rfl, _, rfl, _, _, rfl, rfl, y, _, _, nestN is i, rfl, nv.keep (Grows.new hT), by omega, by omega, fun z H2 s2 nv2 => ?_⟩
      exact ⟨z, _, _, rfl, (s.trans (Grows.new hT)).trans s2, nv2⟩
    · subst e
      rw [List.length_map] at nv
      exact ⟨_, rfl, kq y H' s nv⟩
end
end K01

namespace K01
open PySem PySem.Spec PyProof.Rows L2 SortR LcM
section
variable {P : Program} {w : World} {K : PySem.W.Frag} {mg : Str → Option Value} {base : Heap}
theorem lots_body {k d : Nat} {sp0 : Sp} {f fF : Addr} {fd dF : FuncData} (F : Fun K "_law_lots" "_law_lots" sLots f fd) (T : TxtP mg) (gLots : mg "_law_lots" = some (.ref f)) (bF : Binds K fd ["nest"] []) (FF : Fun K "_law_folk" "_law_folk" sFolk fF dF) (gFolk : mg "_law_folk" = some (.ref fF)) (bFF : Binds K dF ["nest"] [])
    (hk : d + 2 ≤ k) (G0 : FnOk P w K mg base CX0 k f fd ["nest"] sp0)
    (inner : ∀ (x : V) (t : Nest) (H : Hp) (Q : VK) (E : XK), NV K H x t → t.ht < d → t.sz ≤ 600000 → (∀ (p : Addr) (cs : List (Addr × List Int)) (H' : Hp), cs.map (·.2) = t.lots → Grows H H' → H p = none → Nw H H' cs → (∀ c ∈ cs, c.1 ≠ p) → H' p = some (.lst (cs.map fun c => V.ref c.1)) → Q (.ref p) H') → sp0 [x] H Q E) :
    FnOk P w K mg base CX0 (k + 1) f fd ["nest"] (spLots K d) := by
  have GF : FnOk P w K mg base CX0 (d + 2) fF dF ["nest"] (spFolk K d) := ok_folk FF T gFolk bFF d
  refine F.ok scLots (fun vs H Q E h => ?_) (fun cdv A outer s H vs Q E hr h => ?_)
  · obtain ⟨x, t, rfl, _⟩ := h
    rfl
  · obtain ⟨x, t, rfl, nv, ht, hz, kq⟩ := h
    refine ⟨_, (pss_cons (ps_if (pt_val (pe_callB call_isi (by rfl) T.isi (by decide +kernel) (pa_cons (pv 0) (pa_cons (pe_bltn (v := .ty "int") (u := .type "int") (by rfl) T.int (by decide +kernel) rfl) pa_nil)))) (pss_one (ps_ret (pe_lst pa_nil))) pss_nil)
      (pss_one (ps_ret (pe_callB (call_sortedR hr.units) (by rfl) T.sorted (by decide +kernel) (pa_cons (pe_op op_cat (pe_op op_cat (pe_lst (pa_cons (pe_call GF (hr.mono hk) rfl gFolk FF.kp bFF .nil pass0 (pa_cons (pv 0) pa_nil)) pa_nil)) (pe_call G0 hr rfl gLots F.kp bF .nil pass0 (pa_cons (pe_ix (r := rIxT K) ix_tup (pv 0) pe_int (fun _ _ => rfl)) pa_nil))) (pe_call G0 hr rfl gLots F.kp bF .nil pass0 (pa_cons (pe_ix (r := rIxT K) ix_tup (pv 0) pe_int (fun _ _ => rfl)) pa_nil))) pa_nil))))), ?_⟩
    cases nv with
    | leaf i =>
      refine ⟨_, rfl, _, _, _, _, true, rfl, .ty "int", .base (.int i), kit_ty (by decide +kernel), true, rfl, iteT ⟨(by show 0 ≤ sizeLine; decide), fun l hl => ?_⟩⟩
      exact kq l [] _ rfl (Grows.new hl) hl ⟨(fun _ m => nomatch m), (fun _ m => nomatch m), List.Pairwise.nil⟩ (fun _ m => nomatch m) upd_same
    | @node t x y l r at_t nl nr =>
      have hlz : l.sz + r.sz ≤ 600000 := hz
      have hlh : max l.ht r.ht + 1 ≤ d := ht
      have zl := l.lots_len
      have zr := r.lots_len
      refine ⟨_, rfl, _, _, _, _, false, rfl, .ty "int", .base (.tup at_t), kit_ty (by decide +kernel), false, rfl, iteF ?_⟩
      refine ⟨_, rfl, .ref t, .node l r, rfl, .node at_t nl nr, ht, hz, fun pF H1 s1 n1 e1 => ⟨(by show 1 ≤ sizeLine; decide), fun L1 nL1 => ?_⟩⟩
      have g1 : Grows H (upd H1 L1 (.lst [.ref pF])) := s1.trans (Grows.new nL1)
      refine ⟨_, rfl, t, _, 0, x, rfl, rfl, SqT.of (g1 _ _ at_t), rfl, inner x l _ _ _ (nl.keep g1) (by omega) (by omega) fun p1 cs1 H2 m2 s2 n2 nw2 ap2 top2 => ?_⟩
      have len1 : cs1.length = l.lots.length := by rw [← m2, List.length_map]
      refine ⟨L1, p1, _, _, rfl, rfl, s2 _ _ upd_same, top2, ?_, fun L2 nL2 => ?_⟩
      · rw [List.length_map, len1]
        have : (600001 : Nat) ≤ sizeLine := by decide
        show 1 + _ ≤ sizeLine
        omega
      have g2 : Grows H (upd H2 L2 (.lst ([V.ref pF] ++ cs1.map fun c => V.ref c.1))) := (g1.trans s2).trans (Grows.new nL2)
      refine ⟨_, rfl, t, _, 1, y, rfl, rfl, SqT.of (g2 _ _ at_t), rfl, inner y r _ _ _ (nr.keep g2) (by omega) (by omega) fun p3 cs3 H3 m3 s3 n3 nw3 ap3 top3 => ?_⟩
      have len3 : cs3.length = r.lots.length := by rw [← m3, List.length_map]
      refine ⟨L2, p3, _, _, rfl, rfl, s3 _ _ upd_same, top3, ?_, fun L4 nL4 => ?_⟩
      · rw [List.length_append, List.length_map, List.length_map, len1, len3]
        have : (600001 : Nat) ≤ sizeLine := by decide
        show 1 + _ + _ ≤ sizeLine
        omega
      obtain ⟨G, eG⟩ : ∃ G, G = upd H3 L4 (.lst (([V.ref pF] ++ cs1.map fun c => V.ref c.1) ++ cs3.map fun c => V.ref c.1)) := ⟨_, rfl⟩
      rw [← eG]
      have s4 : Grows H3 G := eG ▸ Grows.new nL4
      obtain ⟨bs, ebs⟩ : ∃ bs : List (Addr × List Int), bs = (pF, (Nest.node l r).folk) :: (cs1 ++ cs3) := ⟨_, rfl⟩
      have c1H2 : Grows (upd H1 L1 (.lst [.ref pF])) H2 := s2
      have toG2 : Grows H2 G := ((Grows.new nL2).trans s3).trans s4
      have pF_at : (upd H1 L1 (.lst [.ref pF])) pF = some (.lst ((Nest.node l r).folk.map V.int)) := Grows.new nL1 _ _ e1
      have each : ∀ b ∈ bs, G b.1 = some (.lst (b.2.map V.int)) := fun b m => by
        rw [ebs] at m
        rcases List.mem_cons.mp m with z | z
        · rw [z]
          exact toG2 _ _ (s2 _ _ pF_at)
        · rcases List.mem_append.mp z with z | z
          · exact toG2 _ _ (nw2.lists b z)
          · exact s4 _ _ (nw3.lists b z)
      have fresh : ∀ b ∈ bs, H b.1 = none := fun b m => by
        rw [ebs] at m
        rcases List.mem_cons.mp m with z | z
        · rw [z]
          exact n1
        · rcases List.mem_append.mp z with z | z
          · exact none_back g1 (nw2.new b z)
          · exact none_back g2 (nw3.new b z)
      have nod : (bs.map (·.1)).Nodup := by
        rw [ebs, List.map_cons, List.map_append]
        refine List.nodup_cons.mpr ⟨fun z => ?_, List.nodup_append.mpr ⟨nw2.nodup, nw3.nodup, fun a ma b mb => ?_⟩⟩
        · rcases List.mem_append.mp z with z | z
          · obtain ⟨c, mc, e⟩ := List.mem_map.mp z
            exact ne_of_none pF_at (nw2.new c mc) e.symm
          · obtain ⟨c, mc, e⟩ := List.mem_map.mp z
            exact ne_of_none (Grows.new nL2 _ _ (s2 _ _ pF_at)) (nw3.new c mc) e.symm
        · obtain ⟨c, mc, rfl⟩ := List.mem_map.mp ma
          obtain ⟨c', mc', rfl⟩ := List.mem_map.mp mb
          exact ne_of_none (Grows.new nL2 _ _ (nw2.lists c mc)) (nw3.new c' mc')
      have topG : G L4 = some (.lst (bs.map fun b => V.ref b.1)) := by
        rw [eG, upd_same, ebs, List.map_cons, List.map_append]
        rfl
      refine ⟨L4, bs, rfl, SqL.of topG, fun b m => SqL.of (each b m), fun p np => ?_⟩
      have mem : ∀ b, b ∈ bs.mergeSort rowLe → b ∈ bs := fun b m => List.mem_mergeSort.mp m
      have gG : Grows H G := (g2.trans s3).trans s4
      refine kq p (bs.mergeSort rowLe) _ ?_ (gG.trans (Grows.new np)) (none_back gG np) ⟨fun b m => ?_, fun b m => fresh b (mem b m), ?_⟩ (fun b m e => ?_) upd_same
      · rw [sort_rows, ebs, List.map_cons, List.map_append, m2, m3]
        rfl
      · exact Grows.new np _ _ (each b (mem b m))
      · exact (((List.mergeSort_perm bs rowLe).map (·.1)).nodup_iff).mpr nod
      · have z := each b (mem b m)
        rw [e, np] at z
        cases z
theorem ok_lots {f fF : Addr} {fd dF : FuncData} (F : Fun K "_law_lots" "_law_lots" sLots f fd) (T : TxtP mg) (gLots : mg "_law_lots" = some (.ref f)) (bF : Binds K fd ["nest"] []) (FF : Fun K "_law_folk" "_law_folk" sFolk fF dF) (gFolk : mg "_law_folk" = some (.ref fF)) (bFF : Binds K dF ["nest"] []) : ∀ d, FnOk P w K mg base CX0 (d + 3) f fd ["nest"] (spLots K d)
  | 0 => lots_body F T gLots bF FF gFolk bFF (Nat.le_refl _) ((fn_no (f := f) (fd := fd)).mono (by decide)) fun _ _ _ _ _ _ h _ _ => absurd h (Nat.not_lt_zero _)
  | d + 1 => lots_body F T gLots bF FF gFolk bFF (Nat.le_refl _) (ok_lots F T gLots bF FF gFolk bFF d) fun x t H Q E nv h hz kq => ⟨x, t, rfl, nv, Nat.le_of_lt_succ h, hz, kq⟩
end
end K01

namespace K01
open PySem PySem.Spec PyProof.Rows L2 SortR LcM
theorem plist_of {n : Int} {ks : List Int} (up : ks.Pairwise (· < ·)) (rng : ∀ x ∈ ks, 0 ≤ x ∧ x < n) : plist n ks = true := by
  unfold plist inR ascI
  rw [Bool.and_eq_true]
  refine ⟨List.all_eq_true.mpr fun i hi => ?_, List.all_eq_true.mpr fun i hi => ?_⟩
  · have il := List.mem_range.mp hi
    have e : ks.getD i 0 = ks[i] := by rw [List.getD_eq_getElem?_getD, List.getElem?_eq_getElem il]; rfl
    have := rng _ (List.getElem_mem il)
    rw [e, decide_eq_true this.1, decide_eq_true this.2]
    rfl
  · have il := List.mem_range.mp hi
    have l1 : i < ks.length := by omega
    have l2 : i + 1 < ks.length := by omega
    have e1 : ks.getD i 0 = ks[i] := by rw [List.getD_eq_getElem?_getD, List.getElem?_eq_getElem l1]; rfl
    have e2 : ks.getD (i + 1) 0 = ks[i + 1] := by rw [List.getD_eq_getElem?_getD, List.getElem?_eq_getElem l2]; rfl
    rw [e1, e2]
    exact decide_eq_true (List.pairwise_iff_getElem.mp up i (i + 1) l1 l2 (Nat.lt_succ_self i))
theorem gr_none {p a : Addr} {H H' : Hp} (g : Gr p H H') (h : H' a = none) (n : a ≠ p) : H a = none := by
  rcases Option.eq_none_or_eq_some (H a) with z | ⟨o, z⟩
  · exact z
  · rw [g a o n z] at h
    cases h
theorem rg_ints (n : Int) : rgV 0 n = ((List.range n.toNat).map fun i => (0 + (i : Nat) : Int)).map V.int := by
  unfold rgV
  rw [List.map_map, Int.sub_zero]
  rfl
theorem rg_up (n : Nat) : ((List.range n).map fun i => (0 + (i : Nat) : Int)).Pairwise (· < ·) := by
  rw [List.pairwise_map]
  exact List.pairwise_lt_range.imp fun {a b} h => by omega
theorem rg_in (n : Nat) : ∀ x ∈ (List.range n).map fun i => (0 + (i : Nat) : Int), 0 ≤ x ∧ x < n := fun x hx => by
  obtain ⟨i, hi, e⟩ := List.mem_map.mp hx
  have := List.mem_range.mp hi
  omega
theorem inV_ints (i : Int) (ns : List Int) : inV (.int i) (ns.map V.int) = decide (i ∈ ns) := by
  unfold inV
  induction ns with
  | nil => rfl
  | cons x ns ih =>
    rw [List.map_cons, List.any_cons, ih]
    show ((x == i) || decide (i ∈ ns)) = decide (i ∈ x :: ns)
    by_cases e : x = i
    · rw [e, beq_self_eq_true, Bool.true_or, decide_eq_true List.mem_cons_self]
    · rw [beq_eq_false_iff_ne.mpr e, Bool.false_or]
      by_cases m : i ∈ ns
      · rw [decide_eq_true m, decide_eq_true (List.mem_cons_of_mem _ m)]
      · rw [decide_eq_false m, decide_eq_false fun z => (List.mem_cons.mp z).elim (fun q => e q.symm) m]
theorem flat_ints (ns : List Int) : (ns.map V.int).all flatV = true := by
  rw [List.all_map]
  exact List.all_eq_true.mpr fun _ _ => rfl
end K01

namespace K01
open PySem PySem.Spec PyProof.Rows L2 SortR LcM
theorem rng_map {α β : Type} (ns : List α) (d : α) (f : α → β) : (List.range ns.length).map (fun i => f (ns.getD i d)) = ns.map f := by
  refine List.ext_getElem (by rw [List.length_map, List.length_map, List.length_range]) fun j j1 j2 => ?_
  rw [List.length_map] at j2
  rw [List.getElem_map, List.getElem_map, List.getElem_range, List.getD_eq_getElem?_getD, List.getElem?_eq_getElem j2]
  rfl
theorem maskI_mk {ns : List Int} : maskI ns = ((mk (ns.map Int.toNat) : Nat) : Int) := by
  unfold maskI
  rw [rng_map ns 0 fun x => (1 : Int) * 2 ^ x.toNat]
  induction ns with
  | nil => rfl
  | cons x ns ih =>
    rw [List.map_cons, List.sum_cons, ih, List.map_cons, mk_cons, Int.one_mul, Int.natCast_add, Int.natCast_pow]
    rfl
/-- ascending lists of persons that lie apart, or one within the other -/
def Nice (xs ys : List Int) : Prop := (∀ z ∈ xs, z ∉ ys) ∨ (∀ z ∈ xs, z ∈ ys) ∨ ∀ z ∈ ys, z ∈ xs
theorem up_nat {xs : List Int} (h : xs.Pairwise (· < ·)) (p : ∀ x ∈ xs, 0 ≤ x) : (xs.map Int.toNat).Pairwise (· < ·) := by
  rw [List.pairwise_map]
  exact h.imp_of_mem fun {a b} ha hb lt => by
    have := p a ha
    have := p b hb
    omega
theorem mem_nat {xs : List Int} (p : ∀ x ∈ xs, 0 ≤ x) {i : Nat} : i ∈ xs.map Int.toNat ↔ (i : Int) ∈ xs := by
  rw [List.mem_map]
  constructor
  · rintro ⟨x, hx, rfl⟩
    rw [Int.toNat_of_nonneg (p x hx)]
    exact hx
  · intro h
    exact ⟨_, h, rfl⟩
theorem crossI_no {xs ys : List Int} (hx : xs.Pairwise (· < ·)) (hy : ys.Pairwise (· < ·)) (px : ∀ x ∈ xs, 0 ≤ x) (py : ∀ x ∈ ys, 0 ≤ x) (h : Nice xs ys) : crossI (maskI xs) (maskI ys) = false := by
  have h' : (∀ z ∈ xs.map Int.toNat, z ∉ ys.map Int.toNat) ∨ (∀ z ∈ xs.map Int.toNat, z ∈ ys.map Int.toNat) ∨ ∀ z ∈ ys.map Int.toNat, z ∈ xs.map Int.toNat := by
    rcases h with h | h | h
    · exact .inl fun z hz hz2 => h _ ((mem_nat px).mp hz) ((mem_nat py).mp hz2)
    · exact .inr (.inl fun z hz => (mem_nat py).mpr (h _ ((mem_nat px).mp hz)))
    · exact .inr (.inr fun z hz => (mem_nat px).mpr (h _ ((mem_nat py).mp hz)))
  have m := mk_and (up_nat hx px) (up_nat hy py) h'
  rw [maskI_mk, maskI_mk]
  unfold crossI
  rw [PyProof.Rows.bitAnd_pp (Int.natCast_nonneg _) (Int.natCast_nonneg _), Int.toNat_natCast, Int.toNat_natCast]
  generalize mk (xs.map Int.toNat) = a at m
  generalize mk (ys.map Int.toNat) = b at m
  have e : inV (.int ((a &&& b : Nat) : Int)) [.int 0, .int (a : Int), .int (b : Int)] = true := by
    unfold inV
    rcases m with m | m | m
    · rw [m]
      rfl
    · rw [m]
      simp [eqV]
    · rw [m]
      simp [eqV]
  rw [e]
  rfl
end K01

namespace K01
open PySem PySem.Spec PyProof.Rows L2 SortR LcM
/-- the persons, as they sit -/
def Nest.lv : Nest → List Int
  | .leaf i => [i]
  | .node l r => l.lv ++ r.lv
theorem Nest.folk_perm : ∀ t : Nest, t.folk.Perm t.lv
  | .leaf _ => .refl _
  | .node l r => (List.mergeSort_perm _ _).trans ((Nest.folk_perm l).append (Nest.folk_perm r))
theorem Nest.folk_le : ∀ t : Nest, t.folk.Pairwise (· ≤ ·)
  | .leaf _ => List.pairwise_singleton _ _
  | .node l r => by
    have h := List.pairwise_mergeSort (le := intLe) (fun a b c h1 h2 => by
      unfold intLe at *
      simp only [decide_eq_true_eq] at *
      omega) (fun a b => by
      unfold intLe
      simp only [Bool.or_eq_true, decide_eq_true_eq]
      omega) (l.folk ++ r.folk)
    exact h.imp fun {a b} z => by
      unfold intLe at z
      exact of_decide_eq_true z
theorem Nest.folk_up {t : Nest} (h : t.lv.Nodup) : t.folk.Pairwise (· < ·) := by
  have n : t.folk.Nodup := (t.folk_perm.nodup_iff).mpr h
  exact (t.folk_le.and n).imp fun {a b} z => by
    have := z.1
    have := z.2
    omega
theorem Nest.lots_mem {l r : Nest} {q : List Int} : q ∈ (Nest.node l r).lots ↔ q = (Nest.node l r).folk ∨ q ∈ l.lots ∨ q ∈ r.lots := by
  show q ∈ List.mergeSort _ _ ↔ _
  rw [List.mem_mergeSort, List.mem_cons, List.mem_append]
theorem Nest.sz_lv : ∀ t : Nest, t.lv.length = t.sz
  | .leaf _ => rfl
  | .node l r => by
    show (l.lv ++ r.lv).length = l.sz + r.sz
    rw [List.length_append, Nest.sz_lv l, Nest.sz_lv r]
/-- each group: some of the persons, two or more, ascending -/
theorem Nest.lot_ok : ∀ (t : Nest), t.lv.Nodup → ∀ q ∈ t.lots, (∀ z ∈ q, z ∈ t.lv) ∧ 2 ≤ q.length ∧ q.Pairwise (· < ·)
  | .leaf _, _, q, h => nomatch h
  | .node l r, hn, q, h => by
    obtain ⟨n1, n2, _⟩ := List.nodup_append.mp hn
    rcases Nest.lots_mem.mp h with e | e | e
    · subst e
      refine ⟨fun z hz => (Nest.folk_perm _).mem_iff.mp hz, ?_, Nest.folk_up hn⟩
      rw [Nest.folk_len]
      have := l.sz_pos
      have := r.sz_pos
      show 2 ≤ l.sz + r.sz
      omega
    · obtain ⟨a, b, c⟩ := Nest.lot_ok l n1 q e
      exact ⟨fun z hz => List.mem_append.mpr (.inl (a z hz)), b, c⟩
    · obtain ⟨a, b, c⟩ := Nest.lot_ok r n2 q e
      exact ⟨fun z hz => List.mem_append.mpr (.inr (a z hz)), b, c⟩
theorem Nest.lots_nice : ∀ (t : Nest), t.lv.Nodup → ∀ p ∈ t.lots, ∀ q ∈ t.lots, Nice p q
  | .leaf _, _, p, h, _, _ => nomatch h
  | .node l r, hn, p, hp, q, hq => by
    obtain ⟨n1, n2, n3⟩ := List.nodup_append.mp hn
    have all : ∀ s ∈ (Nest.node l r).lots, ∀ z ∈ s, z ∈ (Nest.node l r).folk := fun s hs z hz => (Nest.folk_perm _).mem_iff.mpr ((Nest.lot_ok _ hn s hs).1 z hz)
    rcases Nest.lots_mem.mp hp with e | e | e
    · subst e
      exact .inr (.inr (all q hq))
    · rcases Nest.lots_mem.mp hq with f | f | f
      · subst f
        exact .inr (.inl (all p hp))
      · exact Nest.lots_nice l n1 p e q f
      · exact .inl fun z hz hz2 => n3 z ((Nest.lot_ok l n1 p e).1 z hz) z ((Nest.lot_ok r n2 q f).1 z hz2) rfl
    · rcases Nest.lots_mem.mp hq with f | f | f
      · subst f
        exact .inr (.inl (all p hp))
      · exact .inl fun z hz hz2 => n3 z ((Nest.lot_ok l n1 q f).1 z hz2) z ((Nest.lot_ok r n2 p e).1 z hz) rfl
      · exact Nest.lots_nice r n2 p e q f
theorem Nest.lv_ne : ∀ t : Nest, ∃ z, z ∈ t.lv
  | .leaf i => ⟨i, List.mem_singleton.mpr rfl⟩
  | .node l r => let ⟨z, h⟩ := Nest.lv_ne l; ⟨z, List.mem_append.mpr (.inl h)⟩
theorem Nest.lots_nodup : ∀ (t : Nest), t.lv.Nodup → t.lots.Nodup
  | .leaf _, _ => List.Pairwise.nil
  | .node l r, hn => by
    obtain ⟨n1, n2, n3⟩ := List.nodup_append.mp hn
    show (List.mergeSort _ _).Nodup
    refine ((List.mergeSort_perm _ _).nodup_iff).mpr (List.nodup_cons.mpr ⟨fun h => ?_, List.nodup_append.mpr ⟨Nest.lots_nodup l n1, Nest.lots_nodup r n2, fun a ha b hb e => ?_⟩⟩)
    · have mem : ∀ z ∈ (Nest.node l r).lv, z ∈ (Nest.node l r).folk := fun z hz => (Nest.folk_perm _).mem_iff.mpr hz
      rcases List.mem_append.mp h with h | h
      · obtain ⟨z, hz⟩ := r.lv_ne
        exact n3 z ((Nest.lot_ok l n1 _ h).1 z (mem z (List.mem_append.mpr (.inr hz)))) z hz rfl
      · obtain ⟨z, hz⟩ := l.lv_ne
        exact n3 z hz z ((Nest.lot_ok r n2 _ h).1 z (mem z (List.mem_append.mpr (.inl hz)))) rfl
    · subst e
      obtain ⟨a1, a2, _⟩ := Nest.lot_ok l n1 a ha
      obtain ⟨b1, _, _⟩ := Nest.lot_ok r n2 a hb
      cases a with
      | nil => exact absurd a2 (by decide)
      | cons z a => exact n3 z (a1 z List.mem_cons_self) z (b1 z List.mem_cons_self) rfl
end K01

namespace K01
open PySem PySem.Spec PyProof.Rows L2 SortR LcM
theorem sorted_rows (rs : List (List Int)) : (rs.mergeSort fun p q => decide (p ≤ q)).Pairwise (· ≤ ·) := by
  have h := List.pairwise_mergeSort (le := fun p q : List Int => decide (p ≤ q)) (fun a b c h1 h2 => decide_eq_true (List.le_trans (of_decide_eq_true h1) (of_decide_eq_true h2)))
    (fun a b => by
      simp only [Bool.or_eq_true, decide_eq_true_eq]
      exact List.le_total a b) rs
  exact h.imp fun {a b} z => of_decide_eq_true z
theorem strict_rows {rs : List (List Int)} (h : rs.Pairwise (· ≤ ·)) (n : rs.Nodup) : rs.Pairwise (· < ·) :=
  (h.and n).imp fun {a b} z => (List.le_iff_lt_or_eq.mp z.1).resolve_right z.2
theorem ascR_of {rs : List (List Int)} (up : rs.Pairwise (· < ·)) : ascR rs = true := by
  unfold ascR
  refine List.all_eq_true.mpr fun i hi => ?_
  have il := List.mem_range.mp hi
  have l1 : i < rs.length := by omega
  have l2 : i + 1 < rs.length := by omega
  have e1 : rs.getD i [] = rs[i] := by rw [List.getD_eq_getElem?_getD, List.getElem?_eq_getElem l1]; rfl
  have e2 : rs.getD (i + 1) [] = rs[i + 1] := by rw [List.getD_eq_getElem?_getD, List.getElem?_eq_getElem l2]; rfl
  rw [e1, e2]
  exact decide_eq_true (List.pairwise_iff_getElem.mp up i (i + 1) l1 l2 (Nat.lt_succ_self i))
theorem Nest.lots_le : ∀ t : Nest, t.lots.Pairwise (· ≤ ·)
  | .leaf _ => List.Pairwise.nil
  | .node l r => sorted_rows _
/-- a nest of the persons 0 .. n - 1 -/
structure Nest.Full (t : Nest) (n : Nat) : Prop where
  nodup : t.lv.Nodup
  rng : ∀ x ∈ t.lv, 0 ≤ x ∧ x < n
  size : t.sz = n
theorem isP_lots {t : Nest} {n : Nat} (f : t.Full n) (h : n ≤ 20) : isP t.lots = true := by
  have len := t.lots_len
  rw [f.size] at len
  have ok := Nest.lot_ok t f.nodup
  have pos : ∀ q ∈ t.lots, ∀ x ∈ q, 0 ≤ x := fun q hq x hx => (f.rng x ((ok q hq).1 x hx)).1
  unfold isP
  simp only [Bool.and_eq_true, decide_eq_true_eq, Bool.not_eq_true']
  refine ⟨⟨⟨by omega, List.all_eq_true.mpr fun i hi => ?_⟩, ascR_of (strict_rows t.lots_le (Nest.lots_nodup t f.nodup))⟩, ?_⟩
  · have il := List.mem_range.mp hi
    have e : t.lots.getD i [] = t.lots[i] := by rw [List.getD_eq_getElem?_getD, List.getElem?_eq_getElem il]; rfl
    obtain ⟨a, b, c⟩ := ok _ (List.getElem_mem il)
    rw [e]
    unfold group
    rw [plist_of c fun x hx => ?_, Bool.true_and]
    · exact decide_eq_true (by omega)
    · have := f.rng x (a x hx)
      omega
  · unfold anyX
    refine List.any_eq_false.mpr fun k hk => ?_
    have kl := List.mem_range.mp hk
    obtain ⟨i, j, e⟩ : ∃ i j, (Comb.prs t.lots.length)[k] = (i, j) := ⟨_, _, rfl⟩
    have ek : (Comb.prs t.lots.length)[k]? = some (i, j) := by rw [List.getElem?_eq_getElem kl, e]
    obtain ⟨l1, l2, _⟩ := Comb.prs_step ek
    have ed : (Comb.prs t.lots.length).getD k (0, 0) = (i, j) := by rw [List.getD_eq_getElem?_getD, ek]; rfl
    have il : i < t.lots.length := by omega
    have e1 : t.lots.getD i [] = t.lots[i] := by rw [List.getD_eq_getElem?_getD, List.getElem?_eq_getElem il]; rfl
    have e2 : t.lots.getD j [] = t.lots[j] := by rw [List.getD_eq_getElem?_getD, List.getElem?_eq_getElem l2]; rfl
    rw [ed]
    show ¬ crossI (maskI (t.lots.getD i [])) (maskI (t.lots.getD j [])) = true
    rw [e1, e2]
    have m1 := List.getElem_mem il
    have m2 := List.getElem_mem l2
    rw [crossI_no (ok _ m1).2.2 (ok _ m2).2.2 (pos _ m1) (pos _ m2) (Nest.lots_nice t f.nodup _ m1 _ m2)]
    exact Bool.false_ne_true
end K01

namespace K01
open PySem PySem.Spec PyProof.Rows L2 SortR LcM
/-- the makers of all groups -/
def Nest.mks : Nest → List Int
  | .leaf _ => []
  | .node l r => max l.mn r.mn :: (l.mks ++ r.mks)
theorem Nest.mn_lv (t : Nest) : t.mn ∈ t.lv := (t.folk_perm.mem_iff).mp t.mn_ok.1
theorem Nest.mks_perm : ∀ t : Nest, (t.mn :: t.mks).Perm t.lv
  | .leaf _ => .refl _
  | .node l r => by
    have a := Nest.mks_perm l
    have b := Nest.mks_perm r
    have c : (l.mn :: l.mks ++ (r.mn :: r.mks)).Perm (l.lv ++ r.lv) := a.append b
    refine List.Perm.trans ?_ c
    show (min l.mn r.mn :: max l.mn r.mn :: (l.mks ++ r.mks)).Perm (l.mn :: (l.mks ++ (r.mn :: r.mks)))
    have d : (l.mn :: (l.mks ++ (r.mn :: r.mks))).Perm (l.mn :: r.mn :: (l.mks ++ r.mks)) := List.Perm.cons _ List.perm_middle
    refine List.Perm.trans ?_ d.symm
    rcases Int.le_total l.mn r.mn with h | h
    · rw [Int.min_eq_left h, Int.max_eq_right h]
    · rw [Int.min_eq_right h, Int.max_eq_left h]
      exact List.Perm.swap _ _ _
theorem Nest.put_pos {i f : Int} (hi : 0 ≤ i) : ∀ t : Nest, t.lv.Nodup → (∀ x ∈ t.lv, 0 ≤ x) → (t.put i f).lv.Perm (if i ∈ t.lv then t.lv ++ [f] else t.lv)
  | .leaf k, _, _ => by
    unfold Nest.put
    by_cases e : k = i
    · rw [if_pos e, if_pos (show i ∈ (Nest.leaf k).lv from List.mem_singleton.mpr e.symm)]
      exact .refl _
    · rw [if_neg e, if_neg (show ¬ i ∈ (Nest.leaf k).lv from fun z => e (List.mem_singleton.mp z).symm)]
  | .node l r, hn, hp => by
    obtain ⟨n1, n2, n3⟩ := List.nodup_append.mp hn
    have pl : ∀ x ∈ l.lv, 0 ≤ x := fun x hx => hp x (List.mem_append.mpr (.inl hx))
    have pr : ∀ x ∈ r.lv, 0 ≤ x := fun x hx => hp x (List.mem_append.mpr (.inr hx))
    have m1 := pl _ l.mn_lv
    have m2 := pr _ r.mn_lv
    have m3 : l.mn ≠ r.mn := n3 _ l.mn_lv _ r.mn_lv
    have a := Nest.put_pos hi l n1 pl (f := f)
    have b := Nest.put_pos hi r n2 pr (f := f)
    unfold Nest.put
    rw [if_neg (by omega)]
    show ((l.put i f).lv ++ (r.put i f).lv).Perm (if i ∈ l.lv ++ r.lv then (l.lv ++ r.lv) ++ [f] else l.lv ++ r.lv)
    by_cases h1 : i ∈ l.lv
    · have h2 : i ∉ r.lv := fun z => n3 i h1 i z rfl
      rw [if_pos h1] at a
      rw [if_neg h2] at b
      rw [if_pos (List.mem_append.mpr (.inl h1))]
      refine (a.append b).trans ?_
      rw [List.append_assoc, List.append_assoc]
      exact List.Perm.append_left _ List.perm_append_comm
    · rw [if_neg h1] at a
      by_cases h2 : i ∈ r.lv
      · rw [if_pos h2] at b
        rw [if_pos (List.mem_append.mpr (.inr h2))]
        refine (a.append b).trans ?_
        rw [List.append_assoc]
      · rw [if_neg h2] at b
        rw [if_neg fun z => (List.mem_append.mp z).elim h1 h2]
        exact a.append b
theorem Nest.put_neg {i f : Int} (hi : i < 0) : ∀ t : Nest, t.mks.Nodup → (∀ x ∈ t.lv, 0 ≤ x) → (t.put i f).lv.Perm (if 0 - i ∈ t.mks then t.lv ++ [f] else t.lv)
  | .leaf k, _, hp => by
    have := hp k (List.mem_singleton.mpr rfl)
    unfold Nest.put
    rw [if_neg (by omega), if_neg (show ¬ 0 - i ∈ (Nest.leaf k).mks from fun z => nomatch z)]
  | .node l r, hn, hp => by
    obtain ⟨n0, n⟩ := List.nodup_cons.mp hn
    obtain ⟨n1, n2, n3⟩ := List.nodup_append.mp n
    have a := Nest.put_neg hi l n1 (fun x hx => hp x (List.mem_append.mpr (.inl hx))) (f := f)
    have b := Nest.put_neg hi r n2 (fun x hx => hp x (List.mem_append.mpr (.inr hx))) (f := f)
    unfold Nest.put
    by_cases e : max l.mn r.mn = 0 - i
    · rw [if_pos e, if_pos (show 0 - i ∈ (Nest.node l r).mks from e ▸ List.mem_cons_self)]
      exact .refl _
    · rw [if_neg e]
      show ((l.put i f).lv ++ (r.put i f).lv).Perm (if 0 - i ∈ max l.mn r.mn :: (l.mks ++ r.mks) then (l.lv ++ r.lv) ++ [f] else l.lv ++ r.lv)
      by_cases h1 : 0 - i ∈ l.mks
      · have h2 : 0 - i ∉ r.mks := fun z => n3 _ h1 _ z rfl
        rw [if_pos h1] at a
        rw [if_neg h2] at b
        rw [if_pos (List.mem_cons_of_mem _ (List.mem_append.mpr (.inl h1)))]
        refine (a.append b).trans ?_
        rw [List.append_assoc, List.append_assoc]
        exact List.Perm.append_left _ List.perm_append_comm
      · rw [if_neg h1] at a
        by_cases h2 : 0 - i ∈ r.mks
        · rw [if_pos h2] at b
          rw [if_pos (List.mem_cons_of_mem _ (List.mem_append.mpr (.inr h2)))]
          refine (a.append b).trans ?_
          rw [List.append_assoc]
        · rw [if_neg h2] at b
          rw [if_neg fun z => (List.mem_cons.mp z).elim (fun q => e q.symm) fun q => (List.mem_append.mp q).elim h1 h2]
          exact a.append b
/-- who comes by an item within its bounds comes once -/
theorem Nest.put_full {t : Nest} {n : Nat} (f : t.Full n) (has : ∀ x : Nat, x < n → (x : Int) ∈ t.lv) {i : Int} (h0 : -(n : Int) < i) (h1 : i < n) (hn : 0 < n) : (t.put i n).Full (n + 1) ∧ ∀ x : Nat, x < n + 1 → (x : Int) ∈ (t.put i n).lv := by
  have perm : (t.put i n).lv.Perm (t.lv ++ [(n : Int)]) := by
    by_cases hi : 0 ≤ i
    · have p := Nest.put_pos hi t f.nodup (fun x hx => (f.rng x hx).1) (f := n)
      have m : i ∈ t.lv := by
        have := has i.toNat (by omega)
        rw [Int.toNat_of_nonneg hi] at this
        exact this
      rw [if_pos m] at p
      exact p
    · have nd : (t.mn :: t.mks).Nodup := (t.mks_perm.nodup_iff).mpr f.nodup
      have p := Nest.put_neg (by omega) t (List.nodup_cons.mp nd).2 (fun x hx => (f.rng x hx).1) (f := n) (i := i)
      have m : 0 - i ∈ t.mks := by
        have q : 0 - i ∈ t.lv := by
          have := has (0 - i).toNat (by omega)
          rw [Int.toNat_of_nonneg (by omega)] at this
          exact this
        have zero := has 0 hn
        have least : t.mn = 0 := by
          have a := t.mn_ok.2 0 ((t.folk_perm.mem_iff).mpr zero)
          have b := (f.rng _ t.mn_lv).1
          omega
        rcases List.mem_cons.mp ((t.mks_perm.mem_iff).mpr q) with z | z
        · omega
        · exact z
      rw [if_pos m] at p
      exact p
  refine ⟨⟨(perm.nodup_iff).mpr (List.nodup_append.mpr ⟨f.nodup, List.nodup_cons.mpr ⟨(fun z => nomatch z), List.Pairwise.nil⟩, fun a ha b hb e => ?_⟩), fun x hx => ?_, ?_⟩, fun x hx => (perm.mem_iff).mpr ?_⟩
  · have := (f.rng a ha).2
    have eb : b = n := by simpa using hb
    omega
  · rcases List.mem_append.mp ((perm.mem_iff).mp hx) with z | z
    · have := f.rng x z
      omega
    · have eb : x = n := by simpa using z
      omega
  · rw [← Nest.sz_lv, perm.length_eq, List.length_append, Nest.sz_lv, f.size]
    rfl
  · by_cases e : x < n
    · exact List.mem_append.mpr (.inl (has x e))
    · have : x = n := by omega
      rw [this]
      exact List.mem_append.mpr (.inr List.mem_cons_self)
theorem nestN_full (is : List Int) (h : Bnd is) : ∀ n, n ≤ is.length → (nestN is n).Full (n + 1) ∧ ∀ x : Nat, x < n + 1 → (x : Int) ∈ (nestN is n).lv
  | 0, _ => ⟨⟨List.nodup_cons.mpr ⟨(fun z => nomatch z), List.Pairwise.nil⟩, fun x hx => by rw [List.mem_singleton.mp hx]; omega, rfl⟩, fun x hx => by
      have : x = 0 := by omega
      rw [this]
      exact List.mem_singleton.mpr rfl⟩
  | n + 1, hn => by
    obtain ⟨f, has⟩ := nestN_full is h n (Nat.le_of_succ_le hn)
    have e : is[n]? = some is[n] := List.getElem?_eq_getElem hn
    have b := h n _ e
    have eg : is.getD n 0 = is[n] := by rw [List.getD_eq_getElem?_getD, e]; rfl
    have q := Nest.put_full f has (i := is.getD n 0) (by rw [eg]; omega) (by rw [eg]; omega) (Nat.succ_pos n)
    exact q
end K01

namespace K01
open PySem PySem.Spec PyProof.Rows L2 SortR LcM RepA
/-! ### data that lasts -/
theorem grows_seqT {K : PySem.W.Frag} {H H' : Hp} (s : Grows H H') {a : Addr} {xs : List V} (h : SqT K H a xs) : SqT K H' a xs := by
  rcases h with (h | ⟨o, h⟩) | h
  · exact .inl (.inl (s _ _ h))
  · exact .inl (.inr ⟨o, s _ _ h⟩)
  · exact .inr h
theorem Dp.grow {K : PySem.W.Frag} {H H' : Hp} (s : Grows H H') {x : V} {d : PyData} (h : Dp K H x d) : Dp K H' x d := by
  refine Dp.rec (motive_1 := fun x d _ => Dp K H' x d) (motive_2 := fun xs ds _ => DpAll K H' xs ds) ?_ ?_ ?_ ?_ ?_ ?_ ?_ ?_ h
  · exact .non
  · exact fun b => .bl b
  · exact fun i => .int i
  · exact fun x => .str x
  · exact fun q _ ih => .lst (s.seq q) ih
  · exact fun q _ ih => .tup (grows_seqT s q) ih
  · exact .nil
  · exact fun _ _ a b => .cons a b
theorem DpAll.grow {K : PySem.W.Frag} {H H' : Hp} (s : Grows H H') : ∀ {xs : List V} {ds : List PyData}, DpAll K H xs ds → DpAll K H' xs ds
  | _, _, .nil => .nil
  | _, _, .cons a b => .cons (Dp.grow s a) (DpAll.grow s b)
theorem Dd.grow {K : PySem.W.Frag} {H H' : Hp} (s : Grows H H') {x : V} {d : PyData} (h : Dd K H x d) : Dd K H' x d := by
  rcases h with h | ⟨a, e, q, ed⟩
  · exact .inl (Dp.grow s h)
  · exact .inr ⟨a, e, s _ _ q, ed⟩
theorem DpAll.len {K : PySem.W.Frag} {H : Hp} : ∀ {xs : List V} {ds : List PyData}, DpAll K H xs ds → xs.length = ds.length
  | _, _, .nil => rfl
  | _, _, .cons _ b => congrArg (· + 1) (DpAll.len b)
theorem DpAll.at {K : PySem.W.Frag} {H : Hp} : ∀ {ds : List PyData} {xs : List V} {i : Nat} {x : V}, DpAll K H xs ds → xs[i]? = some x → ∃ d, ds[i]? = some d ∧ Dp K H x d
  | [], _, _, _, .nil, h => nomatch h
  | d :: ds, _, i, x, .cons (vs := vs) a b, h => by
    cases i with
    | zero =>
      cases h
      exact ⟨_, rfl, a⟩
    | succ i =>
      have h' : vs[i]? = some x := h
      obtain ⟨e, he, q⟩ := DpAll.at b h'
      exact ⟨e, he, q⟩
def tyName : PyData → String
  | .none => "NoneType"
  | .bool _ => "bool"
  | .int _ => "int"
  | .str _ => "str"
  | .list _ => "list"
  | .tuple _ => "tuple"
  | .dict _ => "dict"
theorem dd_ty {K : PySem.W.Frag} {H : Hp} {x : V} {d : PyData} (h : Dd K H x d) : TyX K H x (.type (tyName d)) := by
  rcases h with h | ⟨a, rfl, q, rfl⟩
  · cases h with
    | non => exact .base .non
    | bl b => exact .base (.bl b)
    | int i => exact .base (.int i)
    | str s => exact .base (.str s)
    | lst q _ => exact ty_list q
    | tup q _ =>
      rcases q with (q | ⟨o, q⟩) | ⟨o, its, n, q, hc, _⟩
      · exact .base (.tup q)
      · exact .fTuple q
      · exact .kTuple q hc
  · exact .base (.dK q)
theorem ty_kinds (d : PyData) : tyName d ∈ kinds := by
  cases d <;> simp [tyName, kinds]
/-! ### the program's tests, on any data -/
def persD (n : Int) : PyData → Bool
  | .int i => decide (0 ≤ i) && decide (i < n)
  | _ => false
def toI : PyData → Int
  | .int i => i
  | _ => 0
def plistD (n : Int) : PyData → Bool
  | .list ds => ds.all (persD n) && ascI (ds.map toI)
  | _ => false
def grpD (n : Int) : PyData → Bool
  | .list ds => plistD n (.list ds) && decide (2 ≤ (ds.length : Int))
  | _ => false
def toR : PyData → List Int
  | .list ds => ds.map toI
  | _ => []
def isPD : PyData → Bool
  | .list ds => decide ((ds.length : Int) < 20) && ds.all (grpD (ds.length + 1)) && ascR (ds.map toR) && !anyX (ds.map toR)
  | _ => false
theorem plistD_list (n : Int) (ds : List PyData) : plistD n (.list ds) = (ds.all (persD n) && ascI (ds.map toI)) := rfl
theorem grpD_list (n : Int) (ds : List PyData) : grpD n (.list ds) = (plistD n (.list ds) && decide (2 ≤ (ds.length : Int))) := rfl
theorem isPD_list (ds : List PyData) : isPD (.list ds) = (decide ((ds.length : Int) < 20) && ds.all (grpD (ds.length + 1)) && ascR (ds.map toR) && !anyX (ds.map toR)) := rfl
/-- lists within are not too long -/
def Lim (d : PyData) : Prop := ∀ ds, d = .list ds → ds.length ≤ 1000
def Lim2 (d : PyData) : Prop := ∀ ds, d = .list ds → ds.length ≤ 1000 ∧ ∀ e ∈ ds, Lim e
theorem all_at {α : Type} (d : α) (f : α → Bool) (ds : List α) : ((List.range ds.length).all fun i => f (ds.getD i d)) = ds.all f := by
  rw [Bool.eq_iff_iff, List.all_eq_true, List.all_eq_true]
  refine ⟨fun h x hx => ?_, fun h i hi => ?_⟩
  · obtain ⟨i, hi, e⟩ := List.getElem_of_mem hx
    have := h i (List.mem_range.mpr hi)
    rw [List.getD_eq_getElem?_getD, List.getElem?_eq_getElem hi] at this
    rw [← e]
    exact this
  · have il := List.mem_range.mp hi
    rw [List.getD_eq_getElem?_getD, List.getElem?_eq_getElem il]
    exact h _ (List.getElem_mem il)
theorem pers_int {n : Int} {d : PyData} (h : persD n d = true) : d = .int (toI d) := by
  cases d with
  | int i => rfl
  | _ => cases h
/-- data that are ints stand as ints -/
theorem ints_of {K : PySem.W.Frag} {H : Hp} : ∀ {xs : List V} {ds : List PyData}, DpAll K H xs ds → (∀ d ∈ ds, d = .int (toI d)) → xs = (ds.map toI).map V.int
  | _, _, .nil, _ => rfl
  | _, _, .cons (v := v) (d := d) a b, h => by
    have e := h d List.mem_cons_self
    rw [List.map_cons, List.map_cons, ← ints_of b fun x hx => h x (List.mem_cons_of_mem _ hx)]
    rw [e] at a
    cases a
    rw [e]
theorem grp_list {n : Int} {d : PyData} (h : grpD n d = true) : ∃ ds, d = .list ds ∧ (∀ e ∈ ds, e = .int (toI e)) := by
  cases d with
  | list ds =>
    refine ⟨ds, rfl, fun e he => ?_⟩
    rw [grpD_list, plistD_list] at h
    simp only [Bool.and_eq_true] at h
    exact pers_int (List.all_eq_true.mp h.1.1 e he)
  | _ => cases h
/-- data that are groups stand as rows -/
theorem rows_of {K : PySem.W.Frag} {H : Hp} {n : Int} : ∀ {xs : List V} {ds : List PyData}, DpAll K H xs ds → (∀ d ∈ ds, grpD n d = true) → ∃ bs : List (Addr × List Int), xs = bs.map (fun b => V.ref b.1) ∧ bs.map (·.2) = ds.map toR ∧ ∀ b ∈ bs, SqL K H b.1 (b.2.map V.int)
  | _, _, .nil, _ => ⟨[], rfl, rfl, fun _ h => nomatch h⟩
  | _, _, .cons (v := v) (d := d) a b, h => by
    obtain ⟨bs, e1, e2, e3⟩ := rows_of b fun x hx => h x (List.mem_cons_of_mem _ hx)
    obtain ⟨es, rfl, hi⟩ := grp_list (h d List.mem_cons_self)
    cases a with
    | @lst r xs _ q all =>
      have e := ints_of all hi
      refine ⟨(r, es.map toI) :: bs, by rw [List.map_cons, ← e1], by rw [List.map_cons, List.map_cons, e2]; rfl, fun c hc => ?_⟩
      rcases List.mem_cons.mp hc with z | z
      · rw [z, ← e]
        exact q
      · exact e3 c z
def spPLD (K : PySem.W.Frag) (m : Int → PyData → Bool) : Sp := fun vs H Q _ => ∃ (x : V) (d : PyData) (n : Int), vs = [x, .int n] ∧ Dd K H x d ∧ Lim d ∧ ∀ H', Grows H H' → Q (.bl (m n d)) H'
def spIsD (K : PySem.W.Frag) : Sp := fun vs H Q _ => ∃ (x : V) (d : PyData), vs = [x] ∧ Dd K H x d ∧ Lim2 d ∧ ∀ H', Grows H H' → Q (.bl (isPD d)) H'
theorem dd_list {K : PySem.W.Frag} {H : Hp} {x : V} {ds : List PyData} (h : Dd K H x (.list ds)) : ∃ a xs, x = .ref a ∧ SqL K H a xs ∧ DpAll K H xs ds := by
  rcases h with h | ⟨a, e, q, ed⟩
  · cases h with
    | lst q all => exact ⟨_, _, rfl, q, all⟩
  · cases ed
theorem not_list {d : PyData} (h : ¬ ∃ ds, d = .list ds) : decide (tyName d = "list") = false := by
  cases d with
  | list ds => exact absurd ⟨ds, rfl⟩ h
  | _ => rfl
section
variable {P : Program} {w : World} {K : PySem.W.Frag} {mg : Str → Option Value} {base : Heap}
theorem ok_plistD (Z : ProgF K mg) (T : TxtP mg) : FnOk P w K mg base CX0 3 Z.fPL Z.dPL ["thing", "persons"] (spPLD K plistD) := by
  have GPer : FnOk P w K mg base CX0 2 Z.fPer Z.dPer ["thing", "persons"] (spPerson K) := ok_person Z T
  have GAsc : FnOk P w K mg base CX0 1 Z.fAsc Z.dAsc ["items"] (spAscI K) := ok_ascI Z.FAsc T
  refine Z.FPL.ok scPList (fun vs H Q E h => ?_) (fun cdv A outer s H vs Q E hr h => ?_)
  · obtain ⟨x, d, n, rfl, _⟩ := h
    rfl
  · obtain ⟨x, d, n, rfl, hd, lim, k⟩ := h
    refine ⟨_, (pss_cons (ps_if (pt_not (pt_val (pe_callB call_isi (by rfl) T.isi (by decide +kernel) (pa_cons (pv 0) (pa_cons (pe_bltn (v := .ty "list") (u := .type "list") (by rfl) T.list (by decide +kernel) rfl) pa_nil))))) (pss_one (ps_ret pe_bl)) pss_nil)
      (pss_one (ps_ret (pe_and (pe_callB (cr_all rfl) (by rfl) T.all (by decide +kernel) (pa_cons (pe_lc (own := [("item", 2)]) (g := gName 2) (tt := tYes) rfl scPList.nd (pi_list (pv 0)) (blkOk_by (own := [("item", 2)]) (N := ["thing", "persons", "item"]) (sc := defScope sPList) (by decide +kernel)) (fun _ _ _ _ _ => pg_name (i := 2) scPList.nd rfl (Or.inl rfl)) (fun _ _ _ _ _ => pts_nil) (fun _ _ _ _ _ => (pe_call GPer (hr.mono (by decide)) rfl Z.gPer Z.FPer.kp Z.bPer .nil pass0 (pa_cons (pv 2) (pa_cons (pv 1) pa_nil))))) pa_nil)) (pe_one (pe_call GAsc (hr.mono (by decide)) rfl Z.gAsc Z.FAsc.kp Z.bAsc .nil pass0 (pa_cons (pv 0) pa_nil))))))), ?_⟩
    have ty := dd_ty hd
    by_cases isl : ∃ ds, d = .list ds
    · obtain ⟨ds, rfl⟩ := isl
      obtain ⟨a, xs, rfl, hS, all⟩ := dd_list hd
      have hn := lim ds rfl
      have xl := DpAll.len all
      refine ⟨_, rfl, _, _, _, _, true, rfl, .ty "list", ty_list hS, kit_ty (by decide +kernel), true, rfl, ?_⟩
      refine iteF ⟨_, rfl, a, rfl, ⟨_, hS⟩, fun D hD => lc_listM (K := K) (fun i => V.bl (persD n (ds.getD i .none))) hD hS (by rw [xl]; omega) (fun i x H' R hx sm kR => ?_) fun H' sm eD => ?_⟩
      · obtain ⟨e, he, de⟩ := DpAll.at all hx
        have eg : ds.getD i .none = e := by rw [List.getD_eq_getElem?_getD, he]; rfl
        rw [eg] at kR
        refine ⟨rfl, _, rfl, _, rfl, x, tyName e, n, rfl, dd_ty (.inl (Dp.grow sm de)), ty_kinds e, fun z => ?_, fun z => ?_⟩
        · cases de with
          | int i => exact ⟨i, rfl, kR _ .refl⟩
          | _ => exact absurd z (by simp only [tyName]; decide)
        · have ef : persD n e = false := by
            cases e with
            | int i => exact absurd rfl z
            | _ => rfl
          have q := kR H' .refl
          rw [ef] at q
          exact q
      · rw [xl] at eD
        refine ⟨D, (List.range ds.length).map fun i => persD n (ds.getD i .none), rfl, SqL.of (by rw [eD, List.map_map]; rfl), _, rfl, ?_⟩
        rw [all_rng, all_at PyData.none (persD n) ds]
        by_cases hi : ds.all (persD n) = true
        · rw [if_pos hi]
          have ei := ints_of all fun d hd => pers_int (List.all_eq_true.mp hi d hd)
          rw [ei] at hS
          refine ⟨_, rfl, a, ds.map toI, rfl, sm.seq hS, by rw [List.length_map]; exact hn, fun H2 s2 => ?_⟩
          have q := k H2 (sm.trans s2)
          rw [plistD_list, hi, Bool.true_and] at q
          exact q
        · rw [if_neg hi]
          have q := k H' sm
          rw [plistD_list, Bool.eq_false_iff.mpr hi, Bool.false_and] at q
          exact q
    · have ef : plistD n d = false := by
        cases d <;> first | rfl | exact absurd ⟨_, rfl⟩ isl
      have q := k H .refl
      rw [ef] at q
      refine ⟨_, rfl, _, _, _, _, false, rfl, .ty "list", ty, kit_ty ?_, false, rfl, iteT q⟩
      cases d <;> first | exact absurd ⟨_, rfl⟩ isl | (simp only [tyName]; decide +kernel)
theorem ok_grpD (Z : ProgF K mg) (T : TxtP mg) : FnOk P w K mg base CX0 4 Z.fGr Z.dGr ["thing", "persons"] (spPLD K grpD) := by
  have GPL : FnOk P w K mg base CX0 3 Z.fPL Z.dPL ["thing", "persons"] (spPLD K plistD) := ok_plistD Z T
  refine Z.FGr.ok scGroup (fun vs H Q E h => ?_) (fun cdv A outer s H vs Q E hr h => ?_)
  · obtain ⟨x, d, n, rfl, _⟩ := h
    rfl
  · obtain ⟨x, d, n, rfl, hd, lim, k⟩ := h
    refine ⟨_, (pss_one (ps_ret (pe_and (pe_call GPL (hr.mono (by decide)) rfl Z.gPL Z.FPL.kp Z.bPL .nil pass0 (pa_cons (pv 0) (pa_cons (pv 1) pa_nil))) (pe_one (pe_cmpR op_ge (pe_callB call_len_seq (by rfl) T.len (by decide +kernel) (pa_cons (pv 0) pa_nil)) pe_int (nomark _)))))), ?_⟩
    refine ⟨_, rfl, _, rfl, x, d, n, rfl, hd, lim, fun H2 s2 => ⟨_, rfl, ?_⟩⟩
    have q := k H2 s2
    by_cases hi : plistD n d = true
    · rw [if_pos hi]
      cases d with
      | list ds =>
        obtain ⟨a, xs, rfl, hS, all⟩ := dd_list hd
        rw [grpD_list, hi, Bool.true_and] at q
        refine ⟨_, rfl, a, _, rfl, .inl (s2.seq hS), _, _, rfl, rfl, ?_⟩
        rw [DpAll.len all]
        exact q
      | _ => cases hi
    · rw [if_neg hi]
      have ef : grpD n d = false := by
        cases d with
        | list ds =>
          rw [grpD_list, Bool.eq_false_iff.mpr hi, Bool.false_and]
        | _ => rfl
      rw [ef] at q
      exact q
theorem ok_isD (Z : ProgF K mg) (T : TxtP mg) : FnOk P w K mg base CX0 5 Z.fIs Z.dIs ["thing"] (spIsD K) := by
  have GGr : FnOk P w K mg base CX0 4 Z.fGr Z.dGr ["thing", "persons"] (spPLD K grpD) := ok_grpD Z T
  have GAsc : FnOk P w K mg base CX0 1 Z.fAsc Z.dAsc ["items"] (spAscR K) := ok_ascR Z.FAsc T
  have GAny : FnOk P w K mg base CX0 2 Z.fAny Z.dAny ["groups"] (spAny K) := ok_any Z T
  refine Z.FIs.ok scParting (fun vs H Q E h => ?_) (fun cdv A outer s H vs Q E hr h => ?_)
  · obtain ⟨x, d, rfl, _⟩ := h
    rfl
  · obtain ⟨x, d, rfl, hd, lim, k⟩ := h
    refine ⟨_, (pss_cons (ps_if (PW.pt (pw_or (pt_not (pt_val (pe_callB call_isi (by rfl) T.isi (by decide +kernel) (pa_cons (pv 0) (pa_cons (pe_bltn (v := .ty "list") (u := .type "list") (by rfl) T.list (by decide +kernel) rfl) pa_nil))))) (pw_or1 (pt_cmpR op_ge (pe_callB call_len_seq (by rfl) T.len (by decide +kernel) (pa_cons (pv 0) pa_nil)) (pe_glob (v := .int 20) rfl Z.gMost ⟨_, rfl⟩) (nomark _))))) (pss_one (ps_ret pe_bl)) pss_nil)
      (pss_cons (ps_set (i := 1) scParting.nd rfl (.inr rfl) (pe_op op_add (pe_callB call_len_seq (by rfl) T.len (by decide +kernel) (pa_cons (pv 0) pa_nil)) pe_int))
      (pss_cons (ps_if (pt_not (pt_val (pe_callB (cr_all rfl) (by rfl) T.all (by decide +kernel) (pa_cons (pe_lc (own := [("group", 2)]) (g := gName 2) (tt := tYes) rfl scParting.nd (pi_list (pv 0)) (blkOk_by (own := [("group", 2)]) (N := ["thing", "persons", "group"]) (sc := defScope sParting) (by decide +kernel)) (fun _ _ _ _ _ => pg_name (i := 2) scParting.nd rfl (Or.inl rfl)) (fun _ _ _ _ _ => pts_nil) (fun _ _ _ _ _ => (pe_call GGr (hr.mono (by decide)) rfl Z.gGr Z.FGr.kp Z.bGr .nil pass0 (pa_cons (pv 2) (pa_cons (pv 1) pa_nil))))) pa_nil)))) (pss_one (ps_ret pe_bl)) pss_nil)
      (pss_one (ps_ret (pe_and (pe_call GAsc (hr.mono (by decide)) rfl Z.gAsc Z.FAsc.kp Z.bAsc .nil pass0 (pa_cons (pv 0) pa_nil)) (pe_one (pe_not (pe_call GAny (hr.mono (by decide)) rfl Z.gAny Z.FAny.kp Z.bAny .nil pass0 (pa_cons (pv 0) pa_nil)))))))))), ?_⟩
    have ty := dd_ty hd
    by_cases isl : ∃ ds, d = .list ds
    · obtain ⟨ds, rfl⟩ := isl
      obtain ⟨a, xs, rfl, hS, all⟩ := dd_list hd
      obtain ⟨hn, lims⟩ := lim ds rfl
      have xl := DpAll.len all
      refine ⟨_, rfl, _, _, _, _, true, rfl, .ty "list", ty_list hS, kit_ty (by decide +kernel), true, rfl, iteF ⟨_, rfl, a, _, rfl, .inl hS, _, _, rfl, rfl, _, rfl, ?_⟩⟩
      rw [xl]
      refine ite2 (fun e => ?_) (fun e => ?_)
      · have ge := of_decide_eq_true e
        have q := k H .refl
        rw [isPD_list, decide_eq_false (by omega), Bool.false_and, Bool.false_and, Bool.false_and] at q
        exact q
      · have lt : (ds.length : Int) < 20 := by
          rcases Int.lt_or_le (ds.length : Int) 20 with z | z
          · exact z
          · exact absurd (decide_eq_true z) e
        refine ⟨_, rfl, a, _, rfl, .inl hS, _, _, rfl, rfl, ?_⟩
        rw [xl]
        refine ⟨_, rfl, a, rfl, ⟨_, hS⟩, fun D hD => lc_listM (K := K) (fun i => V.bl (grpD (ds.length + 1) (ds.getD i .none))) hD hS (by rw [xl]; omega) (fun i x H' R hx' sm kR => ?_) fun H' sm eD => ?_⟩
        · obtain ⟨e, he, de⟩ := DpAll.at all hx'
          have eg : ds.getD i .none = e := by rw [List.getD_eq_getElem?_getD, he]; rfl
          have em : e ∈ ds := List.mem_of_getElem? he
          rw [eg] at kR
          exact ⟨rfl, _, rfl, _, rfl, x, e, _, rfl, .inl (Dp.grow sm de), lims e em, fun H2 s2 => kR _ s2⟩
        · rw [xl] at eD
          refine ⟨D, (List.range ds.length).map fun i => grpD (ds.length + 1) (ds.getD i .none), rfl, SqL.of (by rw [eD, List.map_map]; rfl), ?_⟩
          rw [all_rng, all_at PyData.none (grpD (ds.length + 1)) ds]
          refine ⟨_, rfl, ?_⟩
          have val : ∀ H2, Grows H H2 → Q (.bl (ds.all (grpD (ds.length + 1)) && ascR (ds.map toR) && !anyX (ds.map toR))) H2 := fun H2 s2 => by
            have q := k H2 s2
            rw [isPD_list, decide_eq_true lt, Bool.true_and] at q
            exact q
          by_cases hg : ds.all (grpD (ds.length + 1)) = true
          · rw [hg] at val ⊢
            have hga := List.all_eq_true.mp hg
            obtain ⟨bs, e1, e2, e3⟩ := rows_of all hga
            have hB : Rw K H a bs := ⟨by rw [← e1]; exact hS, e3⟩
            have bl : bs.length = ds.length := by
              have := congrArg List.length e2
              rwa [List.length_map, List.length_map] at this
            rw [← e2] at val
            have rin : ∀ r ∈ bs.map (·.2), r.length ≤ 1000 ∧ ∀ x ∈ r, 0 ≤ x ∧ x ≤ 1000 := fun r hr => by
              rw [e2] at hr
              obtain ⟨d, hd, rfl⟩ := List.mem_map.mp hr
              have g := hga d hd
              obtain ⟨es, rfl, hi⟩ := grp_list g
              refine ⟨?_, fun x hx => ?_⟩
              · show (es.map toI).length ≤ 1000
                rw [List.length_map]
                exact lims _ hd es rfl
              · obtain ⟨e, he, rfl⟩ := List.mem_map.mp hx
                rw [grpD_list, plistD_list] at g
                simp only [Bool.and_eq_true] at g
                have pe := List.all_eq_true.mp g.1.1 e he
                rw [hi e he] at pe
                unfold persD at pe
                simp only [Bool.and_eq_true, decide_eq_true_eq] at pe
                omega
            have hz' : Sz (bs.map (·.2)) := ⟨by rw [List.length_map]; omega, fun r hr => (rin r hr).1⟩
            refine iteF ⟨_, rfl, a, bs, rfl, (hB.keep sm).top, (hB.keep sm).each, by omega, fun H2 s2 => ⟨_, rfl, ?_⟩⟩
            by_cases ha : ascR (bs.map (·.2)) = true
            · rw [if_pos ha]
              refine ⟨_, rfl, a, bs, rfl, (hB.keep sm).keep s2, hz', fun r hr => (rin r hr).2, fun H3 s3 => ⟨_, rfl, ?_⟩⟩
              have q := val H3 ((sm.trans s2).trans s3)
              rw [ha, Bool.true_and, Bool.true_and] at q
              exact q
            · rw [if_neg ha]
              have q := val H2 (sm.trans s2)
              rw [Bool.eq_false_iff.mpr ha, Bool.true_and, Bool.false_and] at q
              exact q
          · have q := val H' sm
            rw [Bool.eq_false_iff.mpr hg] at q ⊢
            rw [Bool.false_and, Bool.false_and] at q
            exact iteT q
    · have ef : isPD d = false := by
        cases d <;> first | rfl | exact absurd ⟨_, rfl⟩ isl
      have q := k H .refl
      rw [ef] at q
      refine ⟨_, rfl, _, _, _, _, false, rfl, .ty "list", ty, kit_ty ?_, false, rfl, iteT q⟩
      cases d <;> first | exact absurd ⟨_, rfl⟩ isl | (simp only [tyName]; decide +kernel)
end
end K01

namespace K01
open PySem PySem.Spec PyProof.Rows L2 SortR LcM
abbrev sCrL : Stmt := top 23
theorem asc_ext {α : Type} {R : α → α → Prop} (no : ∀ a b, R a b → R b a → False) : ∀ {xs ys : List α}, xs.Pairwise R → ys.Pairwise R → (∀ z, z ∈ xs ↔ z ∈ ys) → xs = ys
  | [], [], _, _, _ => rfl
  | [], y :: ys, _, _, h => nomatch (h y).mpr List.mem_cons_self
  | x :: xs, [], _, _, h => nomatch (h x).mp List.mem_cons_self
  | x :: xs, y :: ys, a, b, h => by
    obtain ⟨a1, a2⟩ := List.pairwise_cons.mp a
    obtain ⟨b1, b2⟩ := List.pairwise_cons.mp b
    have e : x = y := by
      rcases List.mem_cons.mp ((h x).mp List.mem_cons_self) with e | m
      · exact e
      · rcases List.mem_cons.mp ((h y).mpr List.mem_cons_self) with e | m2
        · exact e.symm
        · exact (no _ _ (a1 _ m2) (b1 _ m)).elim
    subst e
    rw [asc_ext no a2 b2 fun z => ⟨fun m => ?_, fun m => ?_⟩]
    · rcases List.mem_cons.mp ((h z).mp (List.mem_cons_of_mem _ m)) with e | q
      · subst e
        exact (no _ _ (a1 _ m) (a1 _ m)).elim
      · exact q
    · rcases List.mem_cons.mp ((h z).mpr (List.mem_cons_of_mem _ m)) with e | q
      · subst e
        exact (no _ _ (b1 _ m) (b1 _ m)).elim
      · exact q
theorem up_ext {xs ys : List Int} (a : xs.Pairwise (· < ·)) (b : ys.Pairwise (· < ·)) (h : ∀ z, z ∈ xs ↔ z ∈ ys) : xs = ys := asc_ext (fun x y p q => by omega) a b h
theorem up_nodup {xs : List Int} (a : xs.Pairwise (· < ·)) : xs.Nodup := a.imp fun {x y} h => by omega
theorem filtA {α : Type} (d : α) (p : α → Bool) (cs : List α) : ((List.range cs.length).filter fun i => p (cs.getD i d)).map (fun i => cs.getD i d) = cs.filter p := by
  have e : (fun i => p (cs.getD i d)) = p ∘ (fun i => cs.getD i d) := rfl
  rw [e, ← List.filter_map]
  congr 1
  refine List.ext_getElem (by rw [List.length_map, List.length_range]) fun i h1 h2 => ?_
  rw [List.getElem_map, List.getElem_range, List.getD_eq_getElem?_getD, List.getElem?_eq_getElem h2]
  rfl
/-! ### groups that cross -/
def crossL (xs ys : List Int) : Bool := decide ((0 : Int) < ((xs.filter fun x => decide (x ∈ ys)).length : Int)) && decide (((xs.filter fun x => decide (x ∈ ys)).length : Int) < if (ys.length : Int) < (xs.length : Int) then (ys.length : Int) else (xs.length : Int))
theorem flt_perm {xs ys : List Int} (hx : xs.Nodup) (hy : ys.Nodup) : (xs.filter fun x => decide (x ∈ ys)).Perm (ys.filter fun y => decide (y ∈ xs)) := by
  refine (List.perm_ext_iff_of_nodup (hx.filter _) (hy.filter _)).mpr fun z => ?_
  rw [List.mem_filter, List.mem_filter, decide_eq_true_eq, decide_eq_true_eq]
  exact And.comm
theorem flt_all {xs : List Int} {p : Int → Bool} (h : xs.length ≤ (xs.filter p).length) : ∀ x ∈ xs, p x = true := by
  have e : xs.filter p = xs := (List.filter_sublist).eq_of_length_le h
  intro x hx
  rw [← e] at hx
  exact (List.mem_filter.mp hx).2
theorem flt_some {xs : List Int} {p : Int → Bool} (h : (xs.filter p).length < xs.length) : ∃ x ∈ xs, p x = false := by
  rcases Classical.em (∃ x ∈ xs, p x = false) with z | z
  · exact z
  · have e : xs.filter p = xs := List.filter_eq_self.mpr fun x hx => by
      cases q : p x with
      | true => rfl
      | false => exact absurd ⟨x, hx, q⟩ z
    rw [e] at h
    exact absurd h (Nat.lt_irrefl _)
theorem nd_up {xs : List Int} (h : xs.Pairwise (· < ·)) : xs.Nodup := h.imp fun lt e => by omega
theorem crossI_yes {xs ys : List Int} (hx : xs.Pairwise (· < ·)) (hy : ys.Pairwise (· < ·)) (px : ∀ x ∈ xs, 0 ≤ x) (py : ∀ x ∈ ys, 0 ≤ x) {z x y : Int} (z1 : z ∈ xs) (z2 : z ∈ ys) (x1 : x ∈ xs) (x2 : x ∉ ys) (y1 : y ∈ ys) (y2 : y ∉ xs) : crossI (maskI xs) (maskI ys) = true := by
  rw [maskI_mk, maskI_mk]
  unfold crossI
  rw [PyProof.Rows.bitAnd_pp (Int.natCast_nonneg _) (Int.natCast_nonneg _), Int.toNat_natCast, Int.toNat_natCast]
  have bx : ∀ i, (mk (xs.map Int.toNat)).testBit i = decide ((i : Int) ∈ xs) := fun i => by
    rw [mk_bit _ i (up_nat hx px)]
    exact decide_eq_decide.mpr (mem_nat px)
  have by' : ∀ i, (mk (ys.map Int.toNat)).testBit i = decide ((i : Int) ∈ ys) := fun i => by
    rw [mk_bit _ i (up_nat hy py)]
    exact decide_eq_decide.mpr (mem_nat py)
  generalize mk (xs.map Int.toNat) = a at bx
  generalize mk (ys.map Int.toNat) = b at by'
  have bit : ∀ i, (a &&& b).testBit i = (decide ((i : Int) ∈ xs) && decide ((i : Int) ∈ ys)) := fun i => by rw [Nat.testBit_and, bx, by']
  have n0 : (a &&& b) ≠ 0 := fun e => by
    have q := bit z.toNat
    rw [e, Nat.zero_testBit, Int.toNat_of_nonneg (px z z1), decide_eq_true z1, decide_eq_true z2] at q
    cases q
  have n1 : (a &&& b) ≠ a := fun e => by
    have q := bit x.toNat
    rw [e, bx, Int.toNat_of_nonneg (px x x1), decide_eq_true x1, decide_eq_false x2] at q
    cases q
  have n2 : (a &&& b) ≠ b := fun e => by
    have q := bit y.toNat
    rw [e, by', Int.toNat_of_nonneg (py y y1), decide_eq_true y1, decide_eq_false y2] at q
    cases q
  generalize (a &&& b) = c at n0 n1 n2
  have e : inV (.int ((c : Nat) : Int)) [.int 0, .int (a : Int), .int (b : Int)] = false := by
    unfold inV
    refine List.any_eq_false.mpr fun v hv => ?_
    simp only [List.mem_cons, List.not_mem_nil, or_false] at hv
    rcases hv with rfl | rfl | rfl
    · show ¬ ((0 : Int) == (c : Int)) = true
      rw [beq_iff_eq]
      omega
    · show ¬ ((a : Int) == (c : Int)) = true
      rw [beq_iff_eq]
      omega
    · show ¬ ((b : Int) == (c : Int)) = true
      rw [beq_iff_eq]
      omega
  rw [e]
  rfl
theorem cross_eq {xs ys : List Int} (hx : xs.Pairwise (· < ·)) (hy : ys.Pairwise (· < ·)) (px : ∀ x ∈ xs, 0 ≤ x) (py : ∀ x ∈ ys, 0 ≤ x) : crossI (maskI xs) (maskI ys) = crossL xs ys := by
  have pm := (flt_perm (nd_up hx) (nd_up hy)).length_eq
  have le1 : (xs.filter fun x => decide (x ∈ ys)).length ≤ xs.length := List.length_filter_le _ _
  have le2 : (ys.filter fun y => decide (y ∈ xs)).length ≤ ys.length := List.length_filter_le _ _
  unfold crossL
  by_cases k0 : (xs.filter fun x => decide (x ∈ ys)).length = 0
  · rw [k0, decide_eq_false (show ¬ (0 : Int) < ((0 : Nat) : Int) by decide), Bool.false_and]
    refine crossI_no hx hy px py (.inl fun z hz hz2 => ?_)
    have m : z ∈ xs.filter fun x => decide (x ∈ ys) := List.mem_filter.mpr ⟨hz, decide_eq_true hz2⟩
    rw [List.length_eq_zero_iff.mp k0] at m
    cases m
  · by_cases k1 : xs.length ≤ (xs.filter fun x => decide (x ∈ ys)).length
    · rw [decide_eq_false (show ¬ ((xs.filter fun x => decide (x ∈ ys)).length : Int) < (if (ys.length : Int) < (xs.length : Int) then (ys.length : Int) else (xs.length : Int)) by split <;> omega), Bool.and_false]
      exact crossI_no hx hy px py (.inr (.inl fun z hz => of_decide_eq_true (flt_all k1 z hz)))
    · by_cases k2 : ys.length ≤ (ys.filter fun y => decide (y ∈ xs)).length
      · rw [decide_eq_false (show ¬ ((xs.filter fun x => decide (x ∈ ys)).length : Int) < (if (ys.length : Int) < (xs.length : Int) then (ys.length : Int) else (xs.length : Int)) by split <;> omega), Bool.and_false]
        exact crossI_no hx hy px py (.inr (.inr fun z hz => of_decide_eq_true (flt_all k2 z hz)))
      · rw [decide_eq_true (show (0 : Int) < ((xs.filter fun x => decide (x ∈ ys)).length : Int) by omega), decide_eq_true (show ((xs.filter fun x => decide (x ∈ ys)).length : Int) < (if (ys.length : Int) < (xs.length : Int) then (ys.length : Int) else (xs.length : Int)) by split <;> omega)]
        obtain ⟨z, hz⟩ := List.exists_mem_of_length_pos (show 0 < (xs.filter fun x => decide (x ∈ ys)).length by omega)
        obtain ⟨z1, z2⟩ := List.mem_filter.mp hz
        obtain ⟨x, x1, x2⟩ := flt_some (p := fun x => decide (x ∈ ys)) (xs := xs) (by omega)
        obtain ⟨y, y1, y2⟩ := flt_some (p := fun y => decide (y ∈ xs)) (xs := ys) (by omega)
        exact crossI_yes hx hy px py z1 (of_decide_eq_true z2) x1 (of_decide_eq_false x2) y1 (of_decide_eq_false y2)
/-! ### rows that are groups -/
structure Row (n : Int) (r : List Int) : Prop where
  up : r.Pairwise (· < ·)
  rng : ∀ x ∈ r, 0 ≤ x ∧ x < n
  two : 2 ≤ r.length
theorem up_len {n : Int} : ∀ (r : List Int) (lo : Int), r.Pairwise (· < ·) → (∀ x ∈ r, lo ≤ x ∧ x < n) → r.length ≤ (n - lo).toNat
  | [], _, _, _ => Nat.zero_le _
  | x :: r, lo, h, k => by
    obtain ⟨h1, h2⟩ := List.pairwise_cons.mp h
    have q := up_len r (x + 1) h2 fun y hy => ⟨by have := h1 y hy; omega, (k y (List.mem_cons_of_mem _ hy)).2⟩
    have := k x List.mem_cons_self
    rw [List.length_cons]
    omega
theorem Row.len {n : Int} {r : List Int} (h : Row n r) (hn : n ≤ 20) : r.length ≤ 20 := by
  have := up_len r 0 h.up h.rng
  omega
theorem Row.grp {n : Int} {r : List Int} (h : Row n r) : group n r = true := by
  unfold group
  rw [plist_of h.up h.rng, Bool.true_and]
  exact decide_eq_true (by have := h.two; omega)
def spCrL (K : PySem.W.Frag) : Sp := fun vs H Q _ => ∃ (a b : Addr) (xs ys : List Int), vs = [.ref a, .ref b] ∧ SqL K H a (xs.map V.int) ∧ SqL K H b (ys.map V.int) ∧ xs.length ≤ 1000 ∧ ∀ H', Grows H H' → Q (.bl (crossL xs ys)) H'
section
variable {P : Program} {w : World} {K : PySem.W.Frag} {mg : Str → Option Value} {base : Heap}
theorem scCrL : FnScope ["lot", "rest", "both", "fresh"] ["lot", "rest"] (defScope sCrL) := ⟨rfl, rfl, rfl, by decide +kernel, rfl, by decide +kernel, by decide +kernel⟩
theorem ints_filter (p : Int → Bool) (xs : List Int) : kept (fun i => p (xs.getD i 0)) (fun i => V.int (xs.getD i 0)) xs.length = (xs.filter p).map V.int := by
  rw [← filtA 0 p xs, List.map_map]
  rfl
theorem ok_crL {f : Addr} {fd : FuncData} (F : Fun K "_law_cross" "_law_cross" sCrL f fd) (T : TxtP mg) (TD : Txt0 mg) : FnOk P w K mg base CX0 1 f fd ["lot", "rest"] (spCrL K) := by
  refine F.ok scCrL (fun vs H Q E h => ?_) (fun cdv A outer s H vs Q E hr h => ?_)
  · obtain ⟨a, b, xs, ys, rfl, _⟩ := h
    rfl
  · obtain ⟨a, b, xs, ys, rfl, hA, hB, xl, k⟩ := h
    refine ⟨_, (pss_cons (ps_setLc (i := 2) (own := [("fresh", 3)]) (g := gName 3)  rfl scCrL.nd rfl rfl (sw_true rfl rfl rfl (by decide +kernel)) (pi_list (pv 0)) (blkOk_by (own := [("fresh", 3)]) (N := ["lot", "rest", "both", "fresh"]) (sc := defScope sCrL) (by decide +kernel)) (fun _ _ _ _ _ => pg_name (i := 3) scCrL.nd rfl (Or.inl rfl)) (fun _ _ _ _ _ => (pts_one (pt_cmpR (r := rIn K false) (by exact op_in_seq) (pv 3) (pv 1) (by rfl)))) (fun _ _ _ _ _ => (pv 3)))
      (pss_one (ps_ret (pe_chain op_lt op_lt pe_int (pe_callB call_len_seq (by rfl) T.len (by decide +kernel) (pa_cons (pv 2) pa_nil)) (pe_callB (call_min2 rfl) (by rfl) TD.min (by decide +kernel) (pa_cons (pe_callB call_len_seq (by rfl) T.len (by decide +kernel) (pa_cons (pv 0) pa_nil)) (pa_cons (pe_callB call_len_seq (by rfl) T.len (by decide +kernel) (pa_cons (pv 1) pa_nil)) pa_nil))))))), ?_⟩
    refine ⟨_, rfl, a, rfl, ⟨_, hA⟩, fun D hD => lc_listT (K := K) (fun i => decide (xs.getD i 0 ∈ ys)) (fun i => V.int (xs.getD i 0)) hD hA (by rw [List.length_map]; omega) (fun i x H' R Rn hx' sm kY kN => ?_) fun H1 s1 eD => ?_⟩
    · have il := (List.getElem?_eq_some_iff.mp hx').1
      rw [List.length_map] at il
      obtain rfl := at_map (d := 0) hx'
      refine ⟨rfl, _, rfl, _, rfl, b, _, rfl, .inl (sm.seq hB), rfl, flat_ints ys, _, rfl, ?_⟩
      show if inV (.int (xs.getD i 0)) (ys.map V.int) = true then _ else _
      rw [inV_ints]
      exact ite2 (fun e => ⟨_, rfl, kY e _ .refl⟩) (fun e => kN (Bool.eq_false_iff.mpr e) _ .refl)
    · rw [List.length_map, ints_filter (fun x => decide (x ∈ ys)) xs] at eD
      refine ⟨_, rfl, D, _, rfl, .inl (SqL.of eD), _, _, rfl, rfl, _, rfl, ?_⟩
      have q := k H1 s1
      unfold crossL at q
      rw [List.length_map]
      by_cases l : (0 : Int) < ((xs.filter fun x => decide (x ∈ ys)).length : Int)
      · rw [if_pos (decide_eq_true l)]
        rw [decide_eq_true l, Bool.true_and] at q
        refine ⟨_, rfl, a, _, rfl, .inl (s1.seq hA), _, rfl, b, _, rfl, .inl (s1.seq hB), _, _, rfl, _, _, rfl, rfl, ?_⟩
        rw [List.length_map, List.length_map]
        exact q
      · rw [if_neg (by rw [decide_eq_false l]; exact Bool.false_ne_true)]
        rw [decide_eq_false l, Bool.false_and] at q
        exact q
end
end K01

namespace K01
open PySem PySem.Spec PyProof.Rows L2 SortR LcM RepA
abbrev sIsLot : Stmt := top 24
def notInt : PyData → Bool
  | .int _ => false
  | _ => true
/-- a list whose items may be compared, not too long -/
def Fin1 (d : PyData) : Prop := ∀ ds, d = .list ds → ds.length ≤ 60 ∧ ∀ e ∈ ds, e.canLay0 = true ∧ e.depth ≤ 20
theorem dp_map {K : PySem.W.Frag} {H : Hp} {f : Nat → V} {g : Nat → PyData} : ∀ is : List Nat, (∀ i ∈ is, Dp K H (f i) (g i)) → DpAll K H (is.map f) (is.map g)
  | [], _ => .nil
  | i :: is, h => .cons (h i List.mem_cons_self) (dp_map is fun j hj => h j (List.mem_cons_of_mem _ hj))
theorem lay_all : ∀ ds : List PyData, (∀ e ∈ ds, e.canLay0 = true ∧ e.depth ≤ 20) → PyData.canLayAll0 ds = true ∧ PyData.depthAll ds ≤ 20
  | [], _ => ⟨by simp only [PyData.canLayAll0], by simp only [PyData.depthAll]; omega⟩
  | d :: ds, h => by
    obtain ⟨a, b⟩ := lay_all ds fun e m => h e (List.mem_cons_of_mem _ m)
    obtain ⟨c, e⟩ := h d List.mem_cons_self
    refine ⟨by simp only [PyData.canLayAll0, a, c, Bool.and_self], ?_⟩
    simp only [PyData.depthAll]
    omega
theorem shaped_all {ds : List PyData} (h : ∀ e ∈ ds, e.canLay0 = true ∧ e.depth ≤ 20) : SeqAt.shaped (.list ds) = true := by
  obtain ⟨a, b⟩ := lay_all ds h
  unfold SeqAt.shaped
  have e : (PyData.list ds).depth ≤ 64 := by
    simp only [PyData.depth]
    omega
  rw [decide_eq_true e, Bool.and_true]
  simp only [PyData.canLay0, a]
theorem eqv_nil (ds : List PyData) : PyData.eqv (.list ds) (.list []) = decide (ds = []) := by
  cases ds with
  | nil =>
    rw [decide_eq_true rfl]
    have := eqv_ints [] []
    rw [decide_eq_true rfl] at this
    exact this
  | cons d ds =>
    rw [decide_eq_false (fun z => nomatch z)]
    simp [PyData.eqv, PyData.eqvAll]
theorem dp_grow_at {K : PySem.W.Frag} {H : Hp} {xs : List V} {ds : List PyData} (h : DpAll K H xs ds) {i : Nat} (il : i < ds.length) : Dp K H (xs.getD i .non) (ds.getD i .none) := by
  have l : i < xs.length := by rw [DpAll.len h]; exact il
  obtain ⟨d, e, q⟩ := DpAll.at h (List.getElem?_eq_getElem l)
  rw [List.getD_eq_getElem?_getD, List.getElem?_eq_getElem l, List.getD_eq_getElem?_getD, e]
  exact q
theorem notInt_no {d : PyData} (h : notInt d = false) : d = .int (toI d) := by
  cases d <;> first | rfl | cases h
theorem pers_not {n : Int} {d : PyData} (h : notInt d = true) : persD n d = false := by
  cases d <;> first | rfl | cases h
theorem at_head {r : List Int} (h : r ≠ []) : atI (r.map V.int) 0 = some (V.int (r.getD 0 0)) := by
  have pz : 0 < r.length := List.length_pos_iff.mpr h
  refine atI_nat (j := 0) ?_
  rw [List.getElem?_map, List.getD_eq_getElem?_getD, List.getElem?_eq_getElem pz]
  rfl
theorem last_at {r : List Int} (h : r ≠ []) : atI (r.map V.int) (-1) = some (V.int (r.getD (r.length - 1) 0)) := by
  have e := (List.dropLast_concat_getLast h).symm
  have q : r.getLast h = r.getD (r.length - 1) 0 := by
    have pz : 0 < r.length := List.length_pos_iff.mpr h
    rw [List.getLast_eq_getElem, List.getD_eq_getElem?_getD, List.getElem?_eq_getElem (by omega)]
    rfl
  have z := atI_last (r.dropLast.map V.int) (V.int (r.getLast h))
  rw [← List.map_singleton, ← List.map_append, ← e, q] at z
  exact z
theorem asc_step {ns : List Int} : ascI ns = true ↔ ns.Pairwise (· < ·) := by
  unfold ascI
  rw [List.all_eq_true]
  refine ⟨fun h => ?_, fun h i hi => ?_⟩
  · induction ns with
    | nil => exact .nil
    | cons x ns ih =>
      have ih := ih fun i hi => by
        have hi := List.mem_range.mp hi
        have := h (i + 1) (List.mem_range.mpr (by rw [List.length_cons]; omega))
        simpa using this
      cases ns with
      | nil => exact List.pairwise_singleton _ _
      | cons y ns =>
        have h0 := of_decide_eq_true (h 0 (List.mem_range.mpr (by simp)))
        have h0 : x < y := h0
        refine List.pairwise_cons.mpr ⟨fun z hz => ?_, ih⟩
        rcases List.mem_cons.mp hz with e | e
        · rw [e]
          exact h0
        · have := (List.pairwise_cons.mp ih).1 z e
          omega
  · have il := List.mem_range.mp hi
    have l1 : i < ns.length := by omega
    have l2 : i + 1 < ns.length := by omega
    rw [List.getD_eq_getElem?_getD, List.getD_eq_getElem?_getD, List.getElem?_eq_getElem l1, List.getElem?_eq_getElem l2]
    exact decide_eq_true (List.pairwise_iff_getElem.mp h i (i + 1) l1 l2 (Nat.lt_succ_self i))
theorem head_mem {xs : List Int} (h : xs ≠ []) : xs.getD 0 0 ∈ xs := by
  cases xs with
  | nil => exact absurd rfl h
  | cons x xs => exact List.mem_cons_self
theorem head_le {xs : List Int} (a : xs.Pairwise (· < ·)) {z : Int} (h : z ∈ xs) : xs.getD 0 0 ≤ z := by
  cases xs with
  | nil => cases h
  | cons x xs =>
    rcases List.mem_cons.mp h with e | e
    · rw [e]
      exact Int.le_refl _
    · exact Int.le_of_lt ((List.pairwise_cons.mp a).1 z e)
theorem last_mem {xs : List Int} (h : xs ≠ []) : xs.getD (xs.length - 1) 0 ∈ xs := by
  have pz : 0 < xs.length := List.length_pos_iff.mpr h
  rw [List.getD_eq_getElem?_getD, List.getElem?_eq_getElem (by omega : xs.length - 1 < xs.length)]
  exact List.getElem_mem _
theorem le_last {xs : List Int} (a : xs.Pairwise (· < ·)) {z : Int} (h : z ∈ xs) : z ≤ xs.getD (xs.length - 1) 0 := by
  obtain ⟨i, hi, e⟩ := List.getElem_of_mem h
  rw [List.getD_eq_getElem?_getD, List.getElem?_eq_getElem (by omega : xs.length - 1 < xs.length), ← e]
  rcases Nat.lt_or_ge i (xs.length - 1) with l | l
  · exact Int.le_of_lt (List.pairwise_iff_getElem.mp a i (xs.length - 1) hi (by omega) l)
  · have : i = xs.length - 1 := by omega
    subst this
    exact Int.le_refl _
/-- an ascending list of persons, two or more, in the law's words -/
theorem lot_eq {many : Int} {ns : List Int} (two : 2 ≤ ns.length) : (ns.all (fun i => decide (0 ≤ i) && decide (i < many)) && ascI ns) = (decide (ns.Pairwise (· < ·)) && (decide (0 ≤ ns.getD 0 0) && decide (ns.getD (ns.length - 1) 0 < many))) := by
  have ne : ns ≠ [] := fun z => by
    rw [z] at two
    exact absurd two (by decide)
  refine Bool.eq_iff_iff.mpr ?_
  rw [Bool.and_eq_true, Bool.and_eq_true, Bool.and_eq_true, decide_eq_true_eq, decide_eq_true_eq, decide_eq_true_eq, asc_step, List.all_eq_true]
  have mem : ∀ x, (decide (0 ≤ x) && decide (x < many)) = true ↔ 0 ≤ x ∧ x < many := fun x => by
    rw [Bool.and_eq_true, decide_eq_true_eq, decide_eq_true_eq]
  refine ⟨fun ⟨a, b⟩ => ⟨b, ((mem _).mp (a _ (head_mem ne))).1, ((mem _).mp (a _ (last_mem ne))).2⟩, fun ⟨a, b, c⟩ => ⟨fun x hx => (mem x).mpr ⟨?_, ?_⟩, a⟩⟩
  · have := head_le a hx
    omega
  · have := le_last a hx
    omega
def spIsLot (K : PySem.W.Frag) : Sp := fun vs H Q _ => ∃ (x : V) (d : PyData) (n : Int), vs = [.int n, x] ∧ Dd K H x d ∧ Fin1 d ∧ ∀ H', Grows H H' → Q (.bl (grpD n d)) H'
section
variable {P : Program} {w : World} {K : PySem.W.Frag} {mg : Str → Option Value} {base : Heap}
theorem scIsLot : FnScope ["many", "item", "fresh"] ["many", "item"] (defScope sIsLot) := ⟨rfl, rfl, rfl, by decide +kernel, rfl, by decide +kernel, by decide +kernel⟩
theorem ok_isLot {f : Addr} {fd : FuncData} (F : Fun K "_law_is_lot" "_law_is_lot" sIsLot f fd) (T : TxtP mg) (TS : mg "set" = none) : FnOk P w K mg base CX0 1 f fd ["many", "item"] (spIsLot K) := by
  refine F.ok scIsLot (fun vs H Q E h => ?_) (fun cdv A outer s H vs Q E hr h => ?_)
  · obtain ⟨x, d, n, rfl, _⟩ := h
    rfl
  · obtain ⟨x, d, n, rfl, hd, fine, k⟩ := h
    refine ⟨_, (pss_cons (ps_if (PW.pt (pw_or (pt_not (pt_val (pe_callB (r := rIsi K) (by exact call_isi) (by rfl) T.isi (by decide +kernel) (pa_cons (pv 1) (pa_cons (pe_bltn (v := .ty "list") (u := .type "list") (by rfl) T.list (by decide +kernel) rfl) pa_nil))))) (pw_or1 (pt_cmpR op_lt (pe_callB call_len_seq (by rfl) T.len (by decide +kernel) (pa_cons (pv 1) pa_nil)) pe_int (nomark _))))) (pss_one (ps_ret pe_bl)) pss_nil)
      (pss_cons (ps_if (pt_cmpR (op_neD hr.units) (pe_lc (own := [("fresh", 2)]) (g := gName 2)  rfl scIsLot.nd (pi_list (pv 1)) (blkOk_by (own := [("fresh", 2)]) (N := ["many", "item", "fresh"]) (sc := defScope sIsLot) (by decide +kernel)) (fun _ _ _ _ _ => pg_name (i := 2) scIsLot.nd rfl (Or.inl rfl)) (fun _ _ _ _ _ => (pts_one (PW.pt (pw_or (pt_val (pe_callB (r := rIsi K) (by exact call_isi) (by rfl) T.isi (by decide +kernel) (pa_cons (pv 2) (pa_cons (pe_bltn (v := .ty "bool") (u := .type "bool") (by rfl) T.bool (by decide +kernel) rfl) pa_nil)))) (pw_or1 (pt_not (pt_val (pe_callB (r := rIsi K) (by exact call_isi) (by rfl) T.isi (by decide +kernel) (pa_cons (pv 2) (pa_cons (pe_bltn (v := .ty "int") (u := .type "int") (by rfl) T.int (by decide +kernel) rfl) pa_nil)))))))))) (fun _ _ _ _ _ => (pv 2))) (pe_lst pa_nil) (nomark _)) (pss_one (ps_ret pe_bl)) pss_nil)
      (pss_one (ps_ret (pe_and (pe_cmpR (op_eqD hr.units) (pv 1) (pe_callB (cr_sortedSet rfl) (by rfl) T.sorted (by decide +kernel) (pa_cons (pe_callTy (T := "set") (SetL.cr_setL rfl) (by rfl) TS (by decide +kernel) (pa_cons (pv 1) pa_nil)) pa_nil)) (nomark _)) (pe_and (pe_cmpR op_le pe_int (pe_ix (r := rIxL K) ix_list (pv 1) pe_int (fun _ _ => rfl)) (nomark _)) (pe_one (pe_cmpR op_lt (pe_ix (r := rIxL K) ix_list (pv 1) (pe_un un_neg pe_int) (fun _ _ => rfl)) (pv 0) (nomark _))))))))), ?_⟩
    have ty := dd_ty hd
    by_cases isl : ∃ ds, d = .list ds
    · obtain ⟨ds, rfl⟩ := isl
      obtain ⟨a, xs, rfl, hS, hA⟩ := dd_list hd
      have len := DpAll.len hA
      obtain ⟨dl, lay⟩ := fine ds rfl
      refine ⟨_, rfl, _, _, _, _, true, rfl, .ty "list", ty_list hS, kit_ty (by decide +kernel), true, rfl, ?_⟩
      refine iteF ⟨_, rfl, a, _, rfl, .inl hS, _, _, rfl, rfl, _, rfl, ?_⟩
      by_cases big : (ds.length : Int) < 2
      · rw [decide_eq_true (by rw [len]; omega)]
        have q := k H .refl
        rw [grpD_list, decide_eq_false (by omega), Bool.and_false] at q
        exact iteT q
      · rw [decide_eq_false (by rw [len]; omega)]
        refine iteF ⟨_, rfl, a, rfl, ⟨_, hS⟩, fun D hD => lc_listT (K := K) (fun i => notInt (ds.getD i .none)) (fun i => xs.getD i .non) hD hS (by omega) (fun i x G Ry Rn hx sm ky kn => ?_) fun G sm eD => ?_⟩
        · have il := (List.getElem?_eq_some_iff.mp hx).1
          have ex : x = xs.getD i .non := by
            rw [List.getD_eq_getElem?_getD, hx]
            rfl
          have hdx := Dp.grow sm (dp_grow_at hA (by omega : i < ds.length))
          subst ex
          have tx := dd_ty (.inl hdx)
          generalize ds.getD i .none = e at hdx tx ky kn
          have other : (∀ v, e ≠ .int v) → (∀ v, e ≠ .bool v) → kitB (tyName e) "bool" = some false ∧ kitB (tyName e) "int" = some false ∧ notInt e = true := fun h1 h2 => by
            cases e with
            | int v => exact absurd rfl (h1 v)
            | bool v => exact absurd rfl (h2 v)
            | none => exact ⟨by simp only [tyName]; decide +kernel, by simp only [tyName]; decide +kernel, rfl⟩
            | str v => exact ⟨by simp only [tyName]; decide +kernel, by simp only [tyName]; decide +kernel, rfl⟩
            | list v => exact ⟨by simp only [tyName]; decide +kernel, by simp only [tyName]; decide +kernel, rfl⟩
            | tuple v => exact ⟨by simp only [tyName]; decide +kernel, by simp only [tyName]; decide +kernel, rfl⟩
            | dict v => exact ⟨by simp only [tyName]; decide +kernel, by simp only [tyName]; decide +kernel, rfl⟩
          by_cases hb : ∃ v, e = .bool v
          · obtain ⟨v, rfl⟩ := hb
            have tb : TyX K G (xs.getD i .non) (.type "bool") := tx
            exact ⟨rfl, _, rfl, _, _, _, _, true, rfl, .ty "bool", tb, kit_ty (by decide +kernel), true, rfl, iteT (iteT ⟨_, rfl, ky rfl _ .refl⟩)⟩
          · by_cases hi : ∃ v, e = .int v
            · obtain ⟨v, rfl⟩ := hi
              have ti : TyX K G (xs.getD i .non) (.type "int") := tx
              exact ⟨rfl, _, rfl, _, _, _, _, false, rfl, .ty "bool", ti, kit_ty (by decide +kernel), false, rfl, iteF ⟨_, rfl, _, _, _, _, true, rfl, .ty "int", ti, kit_ty (by decide +kernel), true, rfl, iteF (kn rfl _ .refl)⟩⟩
            · obtain ⟨o1, o2, o3⟩ := other (fun v z => hi ⟨v, z⟩) (fun v z => hb ⟨v, z⟩)
              exact ⟨rfl, _, rfl, _, _, _, _, false, rfl, .ty "bool", tx, kit_ty o1, false, rfl, iteF ⟨_, rfl, _, _, _, _, false, rfl, .ty "int", tx, kit_ty o2, false, rfl, iteT ⟨_, rfl, ky o3 _ .refl⟩⟩⟩
        · rw [len] at eD
          have kdp : DpAll K G (kept (fun i => notInt (ds.getD i .none)) (fun i => xs.getD i .non) ds.length) (((List.range ds.length).filter fun i => notInt (ds.getD i .none)).map fun i => ds.getD i .none) := by
            unfold kept
            refine dp_map _ fun i hi => Dp.grow sm (dp_grow_at hA (List.mem_range.mp (List.mem_filter.mp hi).1))
          rw [filtA PyData.none notInt ds] at kdp
          have ksl : ∀ e ∈ ds.filter notInt, e.canLay0 = true ∧ e.depth ≤ 20 := fun e he => lay e (List.mem_filter.mp he).1
          refine ⟨(by show 0 ≤ sizeLine; decide), fun n0 hn0 => ?_⟩
          have gn : Grows G (upd G n0 (.lst [])) := Grows.new hn0
          refine ⟨.list (ds.filter notInt), .list [], .lst (SqL.of (gn _ _ eD)) (DpAll.grow gn kdp), .lst (SqL.of upd_same) .nil, shaped_all ksl, shaped_all (fun _ h => nomatch h), _, rfl, ?_⟩
          rw [eqv_nil]
          have gHn := sm.trans gn
          by_cases hk : ds.filter notInt = []
          · rw [decide_eq_true hk]
            have allI : ∀ d ∈ ds, d = .int (toI d) := fun d hd => notInt_no (by
              have := List.filter_eq_nil_iff.mp hk d hd
              exact Bool.eq_false_iff.mpr this)
            have ei := ints_of hA allI
            have hSn := gHn.seq hS
            rw [ei] at hSn
            have nl : (ds.map toI).length = ds.length := List.length_map ..
            have val : grpD n (.list ds) = (decide ((ds.map toI).Pairwise (· < ·)) && (decide (0 ≤ (ds.map toI).getD 0 0) && decide ((ds.map toI).getD ((ds.map toI).length - 1) 0 < n))) := by
              rw [grpD_list, plistD_list, decide_eq_true (show (2 : Int) ≤ (ds.length : Int) by omega), Bool.and_true, ← lot_eq (by omega)]
              congr 1
              rw [List.all_map]
              refine Bool.eq_iff_iff.mpr ?_
              rw [List.all_eq_true, List.all_eq_true]
              refine forall_congr' fun d => forall_congr' fun hd => ?_
              rw [allI d hd]
              rfl
            have kk := fun X (s : Grows H X) => k X s
            rw [val] at kk
            generalize ds.map toI = ns at hSn nl val kk
            have ne : ns ≠ [] := fun z => by
              rw [z] at nl
              simp at nl
              omega
            refine iteF ⟨_, rfl, _, rfl, a, ns, rfl, hSn, by omega, fun p m hp hm => ?_⟩
            refine ⟨p, _, m, rfl, upd_same, by omega, fun out r up mem lm hr => ?_⟩
            have gA := (Grows.new (o := SetO _ p (fun j => decide (j ∈ ns)) m) hp).trans (Grows.new (o := .lst (out.map V.int)) hr)
            have eo : decide (ns = out) = decide (ns.Pairwise (· < ·)) := decide_eq_decide.mpr ⟨fun e => by rw [e]; exact up, fun e => up_ext e up fun z => ((mem z).trans decide_eq_true_iff).symm⟩
            have q := kk _ (gHn.trans gA)
            refine ⟨.list (ns.map .int), .list (out.map .int), .lst (gA.seq hSn) (rows_dp ns), .lst (SqL.of upd_same) (rows_dp out), shaped_ints _, shaped_ints _, ?_⟩
            rw [eqv_ints, eo]
            by_cases c1 : ns.Pairwise (· < ·)
            · rw [decide_eq_true c1] at q ⊢
              rw [Bool.true_and] at q
              refine ⟨_, rfl, ?_⟩
              rw [if_pos rfl]
              refine ⟨_, rfl, a, _, 0, _, rfl, rfl, gA.seq hSn, at_head ne, _, _, rfl, rfl, _, rfl, ?_⟩
              by_cases c2 : (0 : Int) ≤ ns.getD 0 0
              · rw [decide_eq_true c2] at q ⊢
                rw [Bool.true_and] at q
                rw [if_pos rfl]
                exact ⟨_, rfl, 1, rfl, a, _, -1, _, rfl, rfl, gA.seq hSn, last_at ne, _, rfl, _, _, rfl, rfl, q⟩
              · rw [decide_eq_false c2] at q ⊢
                rw [Bool.false_and] at q
                exact q
            · rw [decide_eq_false c1] at q ⊢
              rw [Bool.false_and] at q
              exact ⟨_, rfl, q⟩
          · rw [decide_eq_false hk]
            refine iteT ?_
            have q := k _ gHn
            have ef : grpD n (.list ds) = false := by
              obtain ⟨e, he⟩ := List.exists_mem_of_ne_nil _ hk
              obtain ⟨he1, he2⟩ := List.mem_filter.mp he
              rw [grpD_list, plistD_list]
              have : ds.all (persD n) = false := List.all_eq_false.mpr ⟨e, he1, by rw [pers_not he2]; exact Bool.false_ne_true⟩
              rw [this, Bool.false_and, Bool.false_and]
            rw [ef] at q
            exact q
    · have no : grpD n d = false := by
        cases d <;> first | rfl | exact absurd ⟨_, rfl⟩ isl
      have q := k H .refl
      rw [no] at q
      refine ⟨_, rfl, _, _, _, _, false, rfl, .ty "list", ty, kit_ty ?_, false, rfl, iteT q⟩
      cases d <;> first | exact absurd ⟨_, rfl⟩ isl | (simp only [tyName]; decide +kernel)
end
end K01

namespace K01
open PySem PySem.Spec PyProof.Rows L2 SortR LcM RepA
abbrev sIsNest : Stmt := top 25
theorem kept_rows (p : List Int → Bool) (bs : List (Addr × List Int)) : kept (fun i => p (bs.getD i (0, [])).2) (fun i => V.ref (bs.getD i (0, [])).1) bs.length = (bs.filter fun b => p b.2).map fun b => V.ref b.1 := by
  rw [← filtA (0, []) (fun b => p b.2) bs, List.map_map]
  rfl
theorem cut_take (xs : List V) {z : Int} (h : 0 ≤ z) : cutV xs none (some z) = xs.take z.toNat := by
  unfold cutV HT.sIx
  show List.take ((if z < 0 then (z + (xs.length : Nat)).toNat else min z.toNat xs.length) - 0) (List.drop 0 xs) = _
  rw [if_neg (by omega), List.drop_zero, Nat.sub_zero]
  rcases Nat.le_total z.toNat xs.length with l | l
  · rw [Nat.min_eq_left l]
  · rw [Nat.min_eq_right l, List.take_length, List.take_of_length_le l]
theorem ascR_up {rs : List (List Int)} : ascR rs = true → rs.Pairwise (· < ·) := by
  unfold ascR
  rw [List.all_eq_true]
  intro h
  induction rs with
  | nil => exact .nil
  | cons x rs ih =>
    have ih := ih fun i hi => by
      have hi := List.mem_range.mp hi
      have := h (i + 1) (List.mem_range.mpr (by rw [List.length_cons]; omega))
      simpa using this
    cases rs with
    | nil => exact List.pairwise_singleton _ _
    | cons y rs =>
      have h0 := of_decide_eq_true (h 0 (List.mem_range.mpr (by simp)))
      have h0 : x < y := h0
      refine List.pairwise_cons.mpr ⟨fun z hz => ?_, ih⟩
      rcases List.mem_cons.mp hz with e | e
      · rw [e]
        exact h0
      · exact List.lt_trans h0 ((List.pairwise_cons.mp ih).1 z e)
theorem anyX_no {rs : List (List Int)} : anyX rs = false ↔ ∀ i j, i < j → j < rs.length → crossI (maskI (rs.getD i [])) (maskI (rs.getD j [])) = false := by
  unfold anyX
  rw [List.any_eq_false]
  refine ⟨fun h i j ij jl => ?_, fun h k hk => ?_⟩
  · obtain ⟨k, kl, e⟩ := List.getElem_of_mem (Comb.prs_mem.mpr ⟨ij, jl⟩)
    have := h k (List.mem_range.mpr kl)
    have ed : (Comb.prs rs.length).getD k (0, 0) = (i, j) := by rw [List.getD_eq_getElem?_getD, List.getElem?_eq_getElem kl, e]; rfl
    rw [ed] at this
    exact Bool.eq_false_iff.mpr this
  · have kl := List.mem_range.mp hk
    have m : (Comb.prs rs.length).getD k (0, 0) ∈ Comb.prs rs.length := by
      rw [List.getD_eq_getElem?_getD, List.getElem?_eq_getElem kl]
      exact List.getElem_mem kl
    generalize (Comb.prs rs.length).getD k (0, 0) = q at m
    obtain ⟨i, j⟩ := q
    obtain ⟨a, b⟩ := Comb.prs_mem.mp m
    rw [h i j a b]
    exact Bool.false_ne_true
/-- what the law asks of two groups -/
def apart (r q : List Int) : Bool := decide (r = q) || crossL r q
theorem grp_row {n : Int} {d : PyData} (h : grpD n d = true) : Row n (toR d) := by
  obtain ⟨es, rfl, hi⟩ := grp_list h
  rw [grpD_list, plistD_list] at h
  simp only [Bool.and_eq_true, decide_eq_true_eq] at h
  refine ⟨asc_step.mp h.1.2, fun x hx => ?_, by show 2 ≤ (es.map toI).length; rw [List.length_map]; omega⟩
  obtain ⟨e, he, rfl⟩ := List.mem_map.mp hx
  have pe := List.all_eq_true.mp h.1.1 e he
  rw [hi e he] at pe
  unfold persD at pe
  simp only [Bool.and_eq_true, decide_eq_true_eq] at pe
  exact pe
theorem nest_eq {n : Int} {rs : List (List Int)} (hr : ∀ r ∈ rs, Row n r) : (ascR rs && !anyX rs) = true ↔ (rs = rs.mergeSort fun p q => decide (p ≤ q)) ∧ ∀ i j, i < j → j < rs.length → apart (rs.getD i []) (rs.getD j []) = false := by
  have at_ : ∀ i, i < rs.length → Row n (rs.getD i []) := fun i hi => by
    rw [List.getD_eq_getElem?_getD, List.getElem?_eq_getElem hi]
    exact hr _ (List.getElem_mem hi)
  have cr : ∀ i j, i < rs.length → j < rs.length → crossI (maskI (rs.getD i [])) (maskI (rs.getD j [])) = crossL (rs.getD i []) (rs.getD j []) := fun i j hi hj => by
    have a := at_ i hi
    have b := at_ j hj
    exact cross_eq a.up b.up (fun x hx => (a.rng x hx).1) fun x hx => (b.rng x hx).1
  rw [Bool.and_eq_true, Bool.not_eq_true', anyX_no]
  constructor
  · intro ⟨a, b⟩
    have up := ascR_up a
    have nd : rs.Nodup := up.imp (S := (· ≠ ·)) fun {x y} l (e : x = y) => List.lt_irrefl x (by rw [← e] at l; exact l)
    refine ⟨asc_ext (R := (· < ·)) (fun x y p q => List.lt_irrefl x (List.lt_trans p q)) up (strict_rows (sorted_rows rs) ((List.mergeSort_perm _ _).nodup_iff.mpr nd)) fun z => List.mem_mergeSort.symm, fun i j ij jl => ?_⟩
    unfold apart
    rw [← cr i j (by omega) jl, b i j ij jl, Bool.or_false]
    refine decide_eq_false fun e => ?_
    have z := List.pairwise_iff_getElem.mp up i j (by omega) jl ij
    rw [List.getD_eq_getElem?_getD, List.getD_eq_getElem?_getD, List.getElem?_eq_getElem (by omega : i < rs.length), List.getElem?_eq_getElem jl, Option.getD_some, Option.getD_some] at e
    rw [e] at z
    exact List.lt_irrefl _ z
  · intro ⟨e, h⟩
    have le : rs.Pairwise (· ≤ ·) := by
      rw [e]
      exact sorted_rows rs
    have nd : rs.Nodup := by
      refine List.pairwise_iff_getElem.mpr fun i j hi hj ij z => ?_
      have := h i j ij hj
      unfold apart at this
      rw [List.getD_eq_getElem?_getD, List.getD_eq_getElem?_getD, List.getElem?_eq_getElem hi, List.getElem?_eq_getElem hj, Option.getD_some, Option.getD_some, decide_eq_true z, Bool.true_or] at this
      cases this
    refine ⟨ascR_of (strict_rows le nd), fun i j ij jl => ?_⟩
    have := h i j ij jl
    unfold apart at this
    rw [cr i j (by omega) jl]
    exact (Bool.or_eq_false_iff.mp this).2
/-- lists of lists, not too long, that may be compared -/
def Fin2 (d : PyData) : Prop := ∀ ds, d = .list ds → ds.length ≤ 60 ∧ ∀ e ∈ ds, Fin1 e ∧ e.canLay0 = true ∧ e.depth ≤ 20
def spIsNest (K : PySem.W.Frag) : Sp := fun vs H Q _ => ∃ (x : V) (d : PyData), vs = [x] ∧ Dd K H x d ∧ Fin2 d ∧ ∀ H', Grows H H' → Q (.bl (isPD d)) H'
section
variable {P : Program} {w : World} {K : PySem.W.Frag} {mg : Str → Option Value} {base : Heap}
theorem scIsNest : FnScope ["item", "lot", "spot", "rest"] ["item"] (defScope sIsNest) := ⟨rfl, rfl, rfl, by decide +kernel, rfl, by decide +kernel, by decide +kernel⟩
theorem ok_isNest {f fIsLot fCrL : Addr} {fd dIsLot dCrL : FuncData} (F : Fun K "_law_is_nest" "_law_is_nest" sIsNest f fd) (T : TxtP mg) (TD : Txt0 mg) (TS : mg "set" = none) (FIsLot : Fun K "_law_is_lot" "_law_is_lot" sIsLot fIsLot dIsLot) (gIsLot : mg "_law_is_lot" = some (.ref fIsLot)) (bIsLot : Binds K dIsLot ["many", "item"] [])
    (FCrL : Fun K "_law_cross" "_law_cross" sCrL fCrL dCrL) (gCrL : mg "_law_cross" = some (.ref fCrL)) (bCrL : Binds K dCrL ["lot", "rest"] []) : FnOk P w K mg base CX0 2 f fd ["item"] (spIsNest K) := by
  have GIsLot : FnOk P w K mg base CX0 1 fIsLot dIsLot ["many", "item"] (spIsLot K) := ok_isLot FIsLot T TS
  have GCrL : FnOk P w K mg base CX0 1 fCrL dCrL ["lot", "rest"] (spCrL K) := ok_crL FCrL T TD
  refine F.ok scIsNest (fun vs H Q E h => ?_) (fun cdv A outer s H vs Q E hr h => ?_)
  · obtain ⟨x, d, rfl, _⟩ := h
    rfl
  · obtain ⟨x, d, rfl, hd, fine, k⟩ := h
    refine ⟨_, (pss_cons (ps_if (PW.pt (pw_or (pt_not (pt_val (pe_callB (r := rIsi K) (by exact call_isi) (by rfl) T.isi (by decide +kernel) (pa_cons (pv 0) (pa_cons (pe_bltn (v := .ty "list") (u := .type "list") (by rfl) T.list (by decide +kernel) rfl) pa_nil))))) (pw_or1 (pt_cmpR op_gt (pe_callB call_len_seq (by rfl) T.len (by decide +kernel) (pa_cons (pv 0) pa_nil)) pe_int (nomark _))))) (pss_one (ps_ret pe_bl)) pss_nil)
      (pss_cons (ps_if (PW.pt (pw_or (pt_cmpR (op_neD hr.units) (pe_lc (own := [("lot", 1)]) (g := gName 1)  rfl scIsNest.nd (pi_list (pv 0)) (blkOk_by (own := [("lot", 1)]) (N := ["item", "lot", "spot", "rest"]) (sc := defScope sIsNest) (by decide +kernel)) (fun _ _ _ _ _ => pg_name (i := 1) scIsNest.nd rfl (Or.inl rfl)) (fun _ _ _ _ _ => (pts_one (pt_not (pt_val (pe_call GIsLot (hr.mono (by decide)) rfl gIsLot FIsLot.kp bIsLot .nil pass0 (pa_cons (pe_op op_add (pe_callB (id := "len") (r := rLenS K) (by exact call_lenK) (by rfl) T.len (by decide +kernel) (pa_cons (pv 0) pa_nil)) pe_int) (pa_cons (pv 1) pa_nil))))))) (fun _ _ _ _ _ => (pv 1))) (pe_lst pa_nil) (nomark _)) (pw_or1 (pt_cmpR (op_neD hr.units) (pv 0) (pe_callB (call_sortedR hr.units) (by rfl) T.sorted (by decide +kernel) (pa_cons (pv 0) pa_nil)) (nomark _))))) (pss_one (ps_ret pe_bl)) pss_nil)
      (pss_cons (ps_for PassesOwn.never rfl (pi_range1 (by rfl) T.range (pa_cons (pe_callB call_len_seq (by rfl) T.len (by decide +kernel) (pa_cons (pv 0) pa_nil)) pa_nil)) (pg_name (i := 2) scIsNest.nd rfl (.inr rfl))
      (pss_one (ps_if (pt_cmpR (op_neD hr.units) (pe_lc (own := [("rest", 3)]) (g := gName 3)  rfl scIsNest.nd (pi_list (pe_slice (r := rSlL K) (by exact sl_list) (pv 0) po_none (po_some (pv 2)))) (blkOk_by (own := [("rest", 3)]) (N := ["item", "lot", "spot", "rest"]) (sc := defScope sIsNest) (by decide +kernel)) (fun _ _ _ _ _ => pg_name (i := 3) scIsNest.nd rfl (Or.inl rfl)) (fun _ _ _ _ _ => (pts_one (PW.pt (pw_or (pt_cmpR (r := rEqD K) (by exact op_eqD hr.units) (pv 3) (pe_ix (r := rIxL K) (by exact ix_list) (pv 0) (pv 2) (fun _ _ => rfl)) (nomark _)) (pw_or1 (pt_val (pe_call GCrL (hr.mono (by decide)) rfl gCrL FCrL.kp bCrL .nil pass0 (pa_cons (pv 3) (pa_cons (pe_ix (r := rIxL K) (by exact ix_list) (pv 0) (pv 2) (fun _ _ => rfl)) pa_nil))))))))) (fun _ _ _ _ _ => (pv 3))) (pe_lst pa_nil) (nomark _)) (pss_one (ps_ret pe_bl)) pss_nil)))
      (pss_one (ps_ret pe_bl))))), ?_⟩
    have ty := dd_ty hd
    by_cases isl : ∃ ds, d = .list ds
    · obtain ⟨ds, rfl⟩ := isl
      obtain ⟨a, xs, rfl, hS, hA⟩ := dd_list hd
      have len := DpAll.len hA
      obtain ⟨dl, lay⟩ := fine ds rfl
      refine ⟨_, rfl, _, _, _, _, true, rfl, .ty "list", ty_list hS, kit_ty (by decide +kernel), true, rfl, ?_⟩
      refine iteF ⟨_, rfl, a, _, rfl, .inl hS, _, _, rfl, rfl, _, rfl, ?_⟩
      by_cases big : (ds.length : Int) > 19
      · rw [decide_eq_true (by rw [len]; omega)]
        have q := k H .refl
        rw [isPD_list, decide_eq_false (by omega), Bool.false_and, Bool.false_and, Bool.false_and] at q
        exact iteT q
      · rw [decide_eq_false (by rw [len]; omega)]
        refine iteF ⟨_, rfl, a, rfl, ⟨_, hS⟩, fun D hD => lc_listT (K := K) (fun i => !grpD (ds.length + 1) (ds.getD i .none)) (fun i => xs.getD i .non) hD hS (by omega) (fun i x G Ry Rn hx sm ky kn => ?_) fun G sm eD => ?_⟩
        · have il := (List.getElem?_eq_some_iff.mp hx).1
          obtain ⟨e, he, de⟩ := DpAll.at hA hx
          have eg : ds.getD i .none = e := by rw [List.getD_eq_getElem?_getD, he]; rfl
          have ex : xs.getD i .non = x := by rw [List.getD_eq_getElem?_getD, hx]; rfl
          have em : e ∈ ds := List.mem_of_getElem? he
          rw [eg] at ky kn
          rw [ex] at ky
          refine ⟨rfl, _, rfl, a, _, rfl, .inl (sm.seq hS), _, _, rfl, rfl, _, rfl, x, e, _, rfl, .inl (Dp.grow sm de), (lay e em).1, fun G2 s2 => ?_⟩
          rw [len]
          refine ⟨_, rfl, ?_⟩
          by_cases hg : grpD (ds.length + 1) e = true
          · rw [hg] at kn ⊢
            exact iteF (kn rfl _ s2)
          · rw [Bool.eq_false_iff.mpr hg] at ky ⊢
            exact iteT ⟨_, rfl, ky rfl _ s2⟩
        · rw [len] at eD
          have kdp : DpAll K G (kept (fun i => !grpD (ds.length + 1) (ds.getD i .none)) (fun i => xs.getD i .non) ds.length) (((List.range ds.length).filter fun i => !grpD (ds.length + 1) (ds.getD i .none)).map fun i => ds.getD i .none) := by
            unfold kept
            refine dp_map _ fun i hi => Dp.grow sm (dp_grow_at hA (List.mem_range.mp (List.mem_filter.mp hi).1))
          rw [filtA PyData.none (fun d => !grpD (ds.length + 1) d) ds] at kdp
          have ksl : ∀ e ∈ ds.filter (fun d => !grpD (ds.length + 1) d), e.canLay0 = true ∧ e.depth ≤ 20 := fun e he => (lay e (List.mem_filter.mp he).1).2
          refine ⟨(by show 0 ≤ sizeLine; decide), fun n0 hn0 => ?_⟩
          have gn : Grows G (upd G n0 (.lst [])) := Grows.new hn0
          refine ⟨.list (ds.filter fun d => !grpD (ds.length + 1) d), .list [], .lst (SqL.of (gn _ _ eD)) (DpAll.grow gn kdp), .lst (SqL.of upd_same) .nil, shaped_all ksl, shaped_all (fun _ h => nomatch h), _, rfl, ?_⟩
          rw [eqv_nil]
          have gHn := sm.trans gn
          by_cases hk : ds.filter (fun d => !grpD (ds.length + 1) d) = []
          · rw [decide_eq_true hk]
            have allG : ∀ d ∈ ds, grpD (ds.length + 1) d = true := fun d hd => by
              have := List.filter_eq_nil_iff.mp hk d hd
              cases q : grpD (ds.length + 1) d with
              | true => rfl
              | false =>
                rw [q] at this
                exact absurd rfl this
            obtain ⟨bs, e1, e2, e3⟩ := rows_of hA allG
            have hB : Rw K H a bs := ⟨by rw [← e1]; exact hS, e3⟩
            have bl : bs.length = ds.length := by
              have := congrArg List.length e2
              rwa [List.length_map, List.length_map] at this
            have rows : ∀ r ∈ bs.map (·.2), Row (ds.length + 1) r := fun r hr2 => by
              rw [e2] at hr2
              obtain ⟨d, hd, rfl⟩ := List.mem_map.mp hr2
              exact grp_row (allG d hd)
            have rlen : ∀ b ∈ bs, b.2.length ≤ 1000 := fun b hb => by
              have := (rows _ (List.mem_map.mpr ⟨b, hb, rfl⟩)).len (by omega)
              omega
            have val : isPD (.list ds) = (ascR (bs.map (·.2)) && !anyX (bs.map (·.2))) := by
              rw [isPD_list, ← e2, decide_eq_true (show (ds.length : Int) < 20 by omega), List.all_eq_true.mpr allG, Bool.true_and, Bool.true_and]
            have kk := fun X (s : Grows H X) => k X s
            rw [val] at kk
            have iff := nest_eq rows
            have no : ∀ X, Grows H X → ¬ ((bs.map (·.2)) = (bs.map (·.2)).mergeSort fun p q => decide (p ≤ q)) ∨ (∃ i j, i < j ∧ j < bs.length ∧ apart ((bs.map (·.2)).getD i []) ((bs.map (·.2)).getD j []) = true) → Q (.bl false) X := fun X s z => by
              have q := kk X s
              have ef : (ascR (bs.map (·.2)) && !anyX (bs.map (·.2))) = false := by
                refine Bool.eq_false_iff.mpr fun y => ?_
                obtain ⟨y1, y2⟩ := iff.mp y
                rcases z with z | ⟨i, j, ij, jl, z⟩
                · exact z y1
                · rw [y2 i j ij (by rw [List.length_map]; exact jl)] at z
                  cases z
              rw [ef] at q
              exact q
            have hBn := hB.keep gHn
            refine iteF ⟨_, rfl, _, rfl, a, bs, rfl, hBn.top, hBn.each, fun p hp => ?_⟩
            have gp := Grows.new (o := .lst ((bs.mergeSort rowLe).map fun b => V.ref b.1)) hp
            have gHp := gHn.trans gp
            have srt : DpAll K (upd (upd G n0 (.lst [])) p (.lst ((bs.mergeSort rowLe).map fun b => V.ref b.1))) ((bs.mergeSort rowLe).map fun b => V.ref b.1) (((bs.mergeSort rowLe).map (·.2)).map fun r => .list (r.map .int)) := rows_data fun b hb => (hB.keep gHp).each b (List.mem_mergeSort.mp hb)
            rw [sort_rows] at srt
            refine ⟨_, _, .lst (hB.keep gHp).top (rows_data (hB.keep gHp).each), .lst (SqL.of upd_same) srt, shaped_rows _, shaped_rows _, _, rfl, ?_⟩
            rw [eqv_rows]
            generalize upd (upd G n0 (.lst [])) p (.lst ((bs.mergeSort rowLe).map fun b => V.ref b.1)) = H5 at gHp
            by_cases so : (bs.map (·.2)) = (bs.map (·.2)).mergeSort fun p q => decide (p ≤ q)
            · rw [decide_eq_true so]
              refine iteF ⟨_, rfl, a, _, rfl, .inl (hB.keep gHp).top, _, rfl, by rw [List.length_map]; omega, by rw [List.length_map]; omega, ?_⟩
              rw [List.length_map]
              refine for_range (lo := 0) (n := ((bs.length : Nat) : Int).toNat) (fun i σ X => ∃ o2 o3, σ = [some (.ref a), none, o2, o3] ∧ Grows H5 X ∧ ∀ u v, u < v → v < i → apart ((bs.map (·.2)).getD u []) ((bs.map (·.2)).getD v []) = false) ⟨_, _, rfl, .refl, fun _ _ _ h => absurd h (Nat.not_lt_zero _)⟩ (fun i σ X hi ⟨o2, o3, e, gx, inv⟩ => ?_) fun σ X ⟨o2, o3, e, gx, inv⟩ => ?_
              · subst e
                have il : i < bs.length := by omega
                have hBX := hB.keep (gHp.trans gx)
                have at_i : atI (bs.map fun b => V.ref b.1) (0 + (i : Nat)) = some (V.ref (bs.getD i (0, [])).1) := by
                  rw [Int.zero_add]
                  refine atI_nat ?_
                  rw [List.getElem?_map, List.getD_eq_getElem?_getD, List.getElem?_eq_getElem il]
                  rfl
                refine ⟨_, rfl, _, rfl, _, rfl, a, _, rfl, hBX.top, fun q hq => ?_⟩
                rw [cut_take _ (by omega), show (0 + (i : Int)).toNat = i by omega, ← List.map_take]
                have tl : (bs.take i).length = i := by rw [List.length_take]; omega
                have gq := Grows.new (o := .lst ((bs.take i).map fun b => V.ref b.1)) hq
                have eq : (upd X q (.lst ((bs.take i).map fun b => V.ref b.1))) q = _ := upd_same
                have tk : ∀ j, j < i → (bs.take i).getD j (0, []) = bs.getD j (0, []) := fun j hj => by
                  rw [List.getD_eq_getElem?_getD, List.getD_eq_getElem?_getD, List.getElem?_take, if_pos hj]
                generalize upd X q (.lst ((bs.take i).map fun b => V.ref b.1)) = X1 at gq eq
                have hB1 := hBX.keep gq
                have Bi := rows _ (mem_at il)
                refine ⟨q, rfl, ⟨_, SqL.of eq⟩, fun D2 hD2 => lc_listT (K := K) (fun j => apart ((bs.take i).getD j (0, [])).2 (bs.getD i (0, [])).2) (fun j => V.ref ((bs.take i).getD j (0, [])).1) hD2 (SqL.of eq) (by rw [List.length_map]; omega) (fun j x X2 Ry Rn hx s2 ky kn => ?_) fun X2 s2 eD2 => ?_⟩
                · have jl := (List.getElem?_eq_some_iff.mp hx).1
                  rw [List.length_map, tl] at jl
                  obtain rfl := at_map (d := (0, [])) hx
                  rw [tk j jl] at ky kn ⊢
                  have jb : j < bs.length := by omega
                  have hB2 := hB1.keep s2
                  refine ⟨rfl, _, rfl, _, rfl, _, rfl, a, _, _, _, rfl, rfl, hB2.top, at_i, .list ((bs.getD j (0, [])).2.map .int), .list ((bs.getD i (0, [])).2.map .int), .lst (hB2.at jb) (rows_dp _), .lst (hB2.at il) (rows_dp _), shaped_ints _, shaped_ints _, _, rfl, ?_⟩
                  rw [eqv_ints]
                  unfold apart at ky kn
                  by_cases c1 : (bs.getD j (0, [])).2 = (bs.getD i (0, [])).2
                  · rw [decide_eq_true c1] at ky ⊢
                    exact iteT (iteT ⟨_, rfl, ky rfl _ .refl⟩)
                  · rw [decide_eq_false c1] at ky kn ⊢
                    rw [Bool.false_or] at ky kn
                    refine iteF ⟨_, rfl, _, rfl, _, rfl, a, _, _, _, rfl, rfl, hB2.top, at_i, _, _, _, _, rfl, hB2.at jb, hB2.at il, rlen _ ?_, fun X3 s3 => ⟨_, rfl, ?_⟩⟩
                    · rw [List.getD_eq_getElem?_getD, List.getElem?_eq_getElem jb]
                      exact List.getElem_mem jb
                    · cases c2 : crossL (bs.getD j (0, [])).2 (bs.getD i (0, [])).2 with
                      | true =>
                        rw [c2] at ky
                        exact iteT ⟨_, rfl, ky rfl _ s3⟩
                      | false =>
                        rw [c2] at kn
                        exact iteF (kn rfl _ s3)
                · rw [List.length_map, kept_rows (fun r => apart r (bs.getD i (0, [])).2) (bs.take i)] at eD2
                  have g2 := gq.trans s2
                  refine ⟨(by show 0 ≤ sizeLine; decide), fun n1 hn1 => ?_⟩
                  have g3 := Grows.new (o := .lst []) hn1
                  have hB3 := hBX.keep (g2.trans g3)
                  have memt : ∀ c, c ∈ (bs.take i).filter (fun b => apart b.2 (bs.getD i (0, [])).2) → c ∈ bs := fun c hc => List.mem_of_mem_take (List.mem_filter.mp hc).1
                  have dl : DpAll K (upd X2 n1 (.lst [])) _ _ := rows_data (K := K) fun b hb => hB3.each b (memt b hb)
                  refine ⟨.list _, .list [], .lst (SqL.of (g3 _ _ eD2)) dl, .lst (SqL.of upd_same) .nil, shaped_rows _, shaped_all (fun _ h => nomatch h), _, rfl, ?_⟩
                  rw [eqv_nil]
                  by_cases em : ((bs.take i).filter fun b => apart b.2 (bs.getD i (0, [])).2) = []
                  · rw [em]
                    refine iteF ⟨_, _, rfl, gx.trans (g2.trans g3), fun u v uv vi => ?_⟩
                    rcases Nat.lt_or_ge v i with l | l
                    · exact inv u v uv l
                    · have : v = i := by omega
                      subst this
                      rw [snd_at, snd_at]
                      have um : bs.getD u (0, []) ∈ bs.take v := by
                        rw [← tk u uv, List.getD_eq_getElem?_getD, List.getElem?_eq_getElem (by omega : u < (bs.take v).length)]
                        exact List.getElem_mem _
                      exact Bool.eq_false_iff.mpr (List.filter_eq_nil_iff.mp em _ um)
                  · rw [decide_eq_false (fun z => em (List.map_eq_nil_iff.mp (List.map_eq_nil_iff.mp z)))]
                    obtain ⟨c, hc⟩ := List.exists_mem_of_ne_nil _ em
                    obtain ⟨c1, c2⟩ := List.mem_filter.mp hc
                    obtain ⟨u, ul, eu⟩ := List.getElem_of_mem c1
                    have ui : u < i := by omega
                    refine iteT (no _ (gHp.trans (gx.trans (g2.trans g3))) (.inr ⟨u, i, ui, il, ?_⟩))
                    rw [snd_at, snd_at, ← tk u ui, List.getD_eq_getElem?_getD, List.getElem?_eq_getElem ul, Option.getD_some, eu]
                    exact c2
              · subst e
                have en : ((bs.length : Nat) : Int).toNat = bs.length := Int.toNat_natCast _
                rw [en] at inv
                have q := kk _ (gHp.trans gx)
                rw [iff.mpr ⟨so, fun i j ij jl => inv i j ij (by rw [List.length_map] at jl; exact jl)⟩] at q
                exact q
            · rw [decide_eq_false so]
              exact iteT (no _ gHp (.inl so))
          · rw [decide_eq_false hk]
            have q := k _ gHn
            have ef : isPD (.list ds) = false := by
              obtain ⟨e, he⟩ := List.exists_mem_of_ne_nil _ hk
              obtain ⟨he1, he2⟩ := List.mem_filter.mp he
              have : ds.all (grpD (ds.length + 1)) = false := List.all_eq_false.mpr ⟨e, he1, by
                rw [Bool.not_eq_true'] at he2
                rw [he2]
                exact Bool.false_ne_true⟩
              rw [isPD_list, this, Bool.and_false, Bool.false_and, Bool.false_and]
            rw [ef] at q
            exact iteT (iteT q)
    · have no : isPD d = false := by
        cases d <;> first | rfl | exact absurd ⟨_, rfl⟩ isl
      have q := k H .refl
      rw [no] at q
      refine ⟨_, rfl, _, _, _, _, false, rfl, .ty "list", ty, kit_ty ?_, false, rfl, iteT q⟩
      cases d <;> first | exact absurd ⟨_, rfl⟩ isl | (simp only [tyName]; decide +kernel)
end
end K01

namespace K01
open PySem PySem.Spec PyProof.Rows L2 SortR LcM RepA
/-! ### a heap without some places -/
def hid (hs : List Addr) (H : Hp) : Hp := fun b => if b ∈ hs then none else H b
theorem hid_gr {p : Addr} {hs : List Addr} {H H' : Hp} (hp : p ∈ hs) (g : Gr p H H') : Grows (hid hs H) (hid hs H') := fun b o e => by
  unfold hid at *
  by_cases z : b ∈ hs
  · rw [if_pos z] at e; cases e
  · rw [if_neg z] at e ⊢
    exact g b o (fun q => z (by rw [q]; exact hp)) e
theorem hid_grow {hs : List Addr} {H H' : Hp} (g : Grows H H') : Grows (hid hs H) (hid hs H') := fun b o e => by
  unfold hid at *
  by_cases z : b ∈ hs
  · rw [if_pos z] at e; cases e
  · rw [if_neg z] at e ⊢
    exact g b o e
theorem hid_le {hs : List Addr} {H : Hp} : Grows (hid hs H) H := fun b o e => by
  unfold hid at e
  by_cases z : b ∈ hs
  · rw [if_pos z] at e; cases e
  · rw [if_neg z] at e
    exact e
theorem hid_less {hs ks : List Addr} {H : Hp} (h : ∀ x ∈ ks, x ∈ hs) : Grows (hid hs H) (hid ks H) := fun b o e => by
  unfold hid at *
  by_cases z : b ∈ hs
  · rw [if_pos z] at e; cases e
  · rw [if_neg z] at e
    rw [if_neg (fun q => z (h b q))]
    exact e
theorem hid_at {hs : List Addr} {a : Addr} {H : Hp} (n : a ∉ hs) : hid hs H a = H a := if_neg n
theorem hid_upd {hs : List Addr} {f : Addr} {H : Hp} (h : f ∈ hs) (o : HO) : hid hs (upd H f o) = hid hs H := by
  funext b
  unfold hid
  by_cases z : b ∈ hs
  · rw [if_pos z, if_pos z]
  · rw [if_neg z, if_neg z, upd_ne (fun q : b = f => z (by rw [q]; exact h))]
/-- a place that is new may be hidden too -/
theorem hid_new {hs : List Addr} {f : Addr} {H : Hp} (h : H f = none) (o : HO) : Grows (hid hs H) (hid (f :: hs) (upd H f o)) := fun b u e => by
  unfold hid at *
  by_cases z : b ∈ hs
  · rw [if_pos z] at e; cases e
  · rw [if_neg z] at e
    have n : b ≠ f := fun q => by rw [q, h] at e; cases e
    rw [if_neg (fun q => (List.mem_cons.mp q).elim n z), upd_ne n]
    exact e
/-! ### data that are small enough -/
mutual
/-- no list or tuple within has more than sixty items -/
def sh60 : PyData → Bool
  | .list ds => decide (ds.length ≤ 60) && sh60All ds
  | .tuple ds => decide (ds.length ≤ 60) && sh60All ds
  | _ => true
def sh60All : List PyData → Bool
  | [] => true
  | d :: ds => sh60 d && sh60All ds
end
theorem sh60_mem : ∀ {ds : List PyData}, sh60All ds = true → ∀ e ∈ ds, sh60 e = true
  | [], _, _, h => nomatch h
  | d :: ds, h, e, he => by
    rw [sh60All, Bool.and_eq_true] at h
    rcases List.mem_cons.mp he with z | z
    · rw [z]
      exact h.1
    · exact sh60_mem h.2 e z
theorem sh60_all : ∀ {ds : List PyData}, (∀ e ∈ ds, sh60 e = true) → sh60All ds = true
  | [], _ => by rw [sh60All]
  | d :: ds, h => by
    rw [sh60All, h d List.mem_cons_self, sh60_all fun e he => h e (List.mem_cons_of_mem _ he)]
    rfl
structure OkD (n w : Nat) (d : PyData) : Prop where
  s6 : sh60 d = true
  sh : d.showable = true
  ly : d.canLay0 = true
  dp : d.depth ≤ n
  lv : PyData.leavesShort 40 d = true
  wt : d.weight ≤ w
theorem OkD.le {n w m v : Nat} {d : PyData} (h : OkD n w d) (a : n ≤ m) (b : w ≤ v) : OkD m v d := ⟨h.s6, h.sh, h.ly, Nat.le_trans h.dp a, h.lv, Nat.le_trans h.wt b⟩
theorem okd_all {n w : Nat} : ∀ ds : List PyData, (∀ d ∈ ds, OkD n w d) → PyData.showableAll ds = true ∧ PyData.canLayAll0 ds = true ∧ PyData.depthAll ds ≤ n ∧ PyData.leavesShortAll 40 ds = true ∧ PyData.weightAll ds ≤ ds.length * (w + 1)
  | [], _ => by simp only [PyData.showableAll, PyData.canLayAll0, PyData.depthAll, PyData.leavesShortAll, PyData.weightAll]; exact ⟨trivial, trivial, Nat.zero_le _, trivial, Nat.zero_le _⟩
  | d :: ds, h => by
    obtain ⟨a1, a2, a3, a4, a5⟩ := okd_all ds fun e m => h e (List.mem_cons_of_mem _ m)
    obtain ⟨_, b1, b2, b3, b4, b5⟩ := h d List.mem_cons_self
    refine ⟨?_, ?_, ?_, ?_, ?_⟩
    · simp only [PyData.showableAll, a1, b1, Bool.and_self]
    · simp only [PyData.canLayAll0, a2, b2, Bool.and_self]
    · simp only [PyData.depthAll]; omega
    · simp only [PyData.leavesShortAll, a4, b4, Bool.and_self]
    · simp only [PyData.weightAll, List.length_cons]
      rw [Nat.add_mul]
      omega
theorem okd_list {n w : Nat} {ds : List PyData} (h : ∀ d ∈ ds, OkD n w d) (l : ds.length ≤ 60) : OkD (n + 1) (ds.length * (w + 1)) (.list ds) := by
  obtain ⟨a1, a2, a3, a4, a5⟩ := okd_all ds h
  refine ⟨?_, ?_, ?_, ?_, ?_, ?_⟩
  · rw [sh60, decide_eq_true l, sh60_all fun e he => (h e he).s6]
    rfl
  · simp only [PyData.showable, a1]
  · simp only [PyData.canLay0, a2]
  · simp only [PyData.depth]; omega
  · simp only [PyData.leavesShort, a4]
  · simp only [PyData.weight]; exact a5
theorem okd_tuple {n w : Nat} {ds : List PyData} (h : ∀ d ∈ ds, OkD n w d) (l : ds.length ≤ 60) : OkD (n + 1) (ds.length * (w + 1)) (.tuple ds) := by
  obtain ⟨a1, a2, a3, a4, a5⟩ := okd_all ds h
  refine ⟨?_, ?_, ?_, ?_, ?_, ?_⟩
  · rw [sh60, decide_eq_true l, sh60_all fun e he => (h e he).s6]
    rfl
  · simp only [PyData.showable, a1]
  · simp only [PyData.canLay0, a2]
  · simp only [PyData.depth]; omega
  · simp only [PyData.leavesShort, a4]
  · simp only [PyData.weight]; exact a5
def SmI (i : Int) : Prop := i.natAbs < 10 ^ 12 ∨ i = 10 ^ 30 ∨ i = -(10 ^ 30)
theorem okd_int {i : Int} (h : SmI i) : OkD 0 110 (.int i) := by
  rcases h with h | rfl | rfl
  · have s := show_ints [i] (fun x hx => by rw [List.mem_singleton.mp hx]; exact h)
    have w := weight_ints [i] (fun x hx => by rw [List.mem_singleton.mp hx]; exact h)
    have l := PyData.intsShortAll_ints [i] (fun x hx => by rw [List.mem_singleton.mp hx]; exact h)
    refine ⟨by simp only [sh60], ?_, ?_, ?_, ?_, ?_⟩
    · simpa [PyData.showableAll] using s
    · simp only [PyData.canLay0]
    · simp only [PyData.depth]; omega
    · have l2 : PyData.intsShort 13 (.int i) = true := by simpa [PyData.intsShortAll] using l
      have l3 := PyData.leavesShort_of_canLay0 13 (.int i) (by simp only [PyData.canLay0]) l2
      rw [PyData.leavesShort] at l3 ⊢
      exact decide_eq_true (Nat.le_trans (of_decide_eq_true l3) (by decide))
    · simp only [List.map_cons, List.map_nil, PyData.weightAll, List.length_cons, List.length_nil] at w
      omega
  · refine ⟨by simp only [sh60], by decide +kernel, by simp only [PyData.canLay0], by simp only [PyData.depth]; omega, by decide +kernel, by decide +kernel⟩
  · refine ⟨by simp only [sh60], by decide +kernel, by simp only [PyData.canLay0], by simp only [PyData.depth]; omega, by decide +kernel, by decide +kernel⟩
theorem okd_tiny {i : Int} (h : i.natAbs ≤ 63) : OkD 0 6 (.int i) := by
  have o := okd_int (i := i) (.inl (Nat.lt_of_le_of_lt h (by decide)))
  refine ⟨o.s6, o.sh, o.ly, o.dp, o.lv, ?_⟩
  simp only [PyData.weight]
  split
  · omega
  · rename_i z
    have nz : i.natAbs ≠ 0 := fun q => z (by rw [beq_iff_eq]; omega)
    have := (Nat.log2_lt nz).mpr (show i.natAbs < 2 ^ 6 by omega)
    omega
theorem okd_none : OkD 0 110 .none := ⟨by simp only [sh60], by decide +kernel, by decide +kernel, by decide +kernel, by decide +kernel, by decide +kernel⟩
theorem okd_bool : ∀ b, OkD 0 110 (.bool b)
  | true => ⟨by simp only [sh60], by decide +kernel, by decide +kernel, by decide +kernel, by decide +kernel, by decide +kernel⟩
  | false => ⟨by simp only [sh60], by decide +kernel, by decide +kernel, by decide +kernel, by decide +kernel, by decide +kernel⟩
theorem okd_e : OkD 0 110 (.str "") := ⟨by simp only [sh60], by decide +kernel, by decide +kernel, by decide +kernel, by decide +kernel, by decide +kernel⟩
theorem okd_0 : OkD 0 110 (.str "0") := ⟨by simp only [sh60], by decide +kernel, by decide +kernel, by decide +kernel, by decide +kernel, by decide +kernel⟩
/-- a value of small data that doesn't reach p -/
def Dv (p : List Addr) (K : PySem.W.Frag) (n w : Nat) (H : Hp) (v : V) : Prop := ∃ d, Dp K (hid p H) v d ∧ OkD n w d
def It (p : List Addr) (K : PySem.W.Frag) (H : Hp) (v : V) : Prop := Dv p K 3 6000 H v ∨ ∃ a, a ∉ p ∧ v = .ref a ∧ H a = some (.dK [])
theorem Dv.grw {p : List Addr} {K : PySem.W.Frag} {n w : Nat} {H H' : Hp} {v : V} (h : Dv p K n w H v) (g : Grows (hid p H) (hid p H')) : Dv p K n w H' v := by
  obtain ⟨d, a, b⟩ := h
  exact ⟨d, Dp.grow g a, b⟩
theorem Dv.le {p : List Addr} {K : PySem.W.Frag} {n w n' w' : Nat} {H : Hp} {v : V} (h : Dv p K n w H v) (a : n ≤ n') (b : w ≤ w') : Dv p K n' w' H v := by
  obtain ⟨d, x, y⟩ := h
  exact ⟨d, x, y.le a b⟩
theorem It.grw {p : List Addr} {K : PySem.W.Frag} {H H' : Hp} {v : V} (h : It p K H v) (g : Grows (hid p H) (hid p H')) : It p K H' v := by
  rcases h with h | ⟨a, n, e, q⟩
  · exact .inl (h.grw g)
  · refine .inr ⟨a, n, e, ?_⟩
    have := g _ _ ((hid_at n).trans q)
    rwa [hid_at n] at this
/-- what stands by itself stands with more places hidden, if these are new -/
theorem It.hide {p : List Addr} {f : Addr} {K : PySem.W.Frag} {H : Hp} {v : V} (h : It p K H v) (n : H f = none) (o : HO) : It (f :: p) K (upd H f o) v := by
  rcases h with ⟨d, a, b⟩ | ⟨a, na, e, q⟩
  · exact .inl ⟨d, Dp.grow (hid_new n o) a, b⟩
  · have af : a ≠ f := fun z => by rw [z, n] at q; cases q
    exact .inr ⟨a, fun z => (List.mem_cons.mp z).elim af na, e, (upd_ne af).trans q⟩
theorem It.show {p q : List Addr} {K : PySem.W.Frag} {H : Hp} {v : V} (h : It p K H v) (s : ∀ x ∈ q, x ∈ p) : It q K H v := by
  rcases h with ⟨d, a, b⟩ | ⟨a, na, e, r⟩
  · exact .inl ⟨d, Dp.grow (hid_less s) a, b⟩
  · exact .inr ⟨a, fun z => na (s a z), e, r⟩
theorem dv_all {p : List Addr} {K : PySem.W.Frag} {n w : Nat} {H : Hp} : ∀ vs : List V, (∀ v ∈ vs, Dv p K n w H v) → ∃ ds, DpAll K (hid p H) vs ds ∧ ds.length = vs.length ∧ ∀ d ∈ ds, OkD n w d
  | [], _ => ⟨[], .nil, rfl, fun _ h => nomatch h⟩
  | v :: vs, h => by
    obtain ⟨ds, a, b, c⟩ := dv_all vs fun x m => h x (List.mem_cons_of_mem _ m)
    obtain ⟨d, q, o⟩ := h v List.mem_cons_self
    refine ⟨d :: ds, .cons q a, congrArg (· + 1) b, fun e he => ?_⟩
    rcases List.mem_cons.mp he with z | z
    · rw [z]; exact o
    · exact c e z
theorem dv_list {p : List Addr} {a : Addr} {K : PySem.W.Frag} {n w : Nat} {H : Hp} {vs : List V} (e : H a = some (.lst vs)) (np : a ∉ p) (h : ∀ v ∈ vs, Dv p K n w H v) (l : vs.length ≤ 60) : Dv p K (n + 1) (vs.length * (w + 1)) H (.ref a) := by
  obtain ⟨ds, x, y, z⟩ := dv_all vs h
  refine ⟨.list ds, .lst (SqL.of ((hid_at np).trans e)) x, ?_⟩
  rw [← y]
  exact okd_list z (by rw [y]; exact l)
theorem dv_tuple {p : List Addr} {a : Addr} {K : PySem.W.Frag} {n w : Nat} {H : Hp} {vs : List V} (e : H a = some (.tup vs)) (np : a ∉ p) (h : ∀ v ∈ vs, Dv p K n w H v) (l : vs.length ≤ 60) : Dv p K (n + 1) (vs.length * (w + 1)) H (.ref a) := by
  obtain ⟨ds, x, y, z⟩ := dv_all vs h
  refine ⟨.tuple ds, .tup (SqT.of ((hid_at np).trans e)) x, ?_⟩
  rw [← y]
  exact okd_tuple z (by rw [y]; exact l)
theorem dv_int {p : List Addr} {K : PySem.W.Frag} {H : Hp} {i : Int} (h : SmI i) : Dv p K 0 110 H (.int i) := ⟨_, .int i, okd_int h⟩
theorem dv_tiny {p : List Addr} {K : PySem.W.Frag} {H : Hp} {i : Int} (h : i.natAbs ≤ 63) : Dv p K 0 6 H (.int i) := ⟨_, .int i, okd_tiny h⟩
theorem dv_tinies {p : List Addr} {K : PySem.W.Frag} {H : Hp} {ns : List Int} (h : ∀ i ∈ ns, i.natAbs ≤ 63) : ∀ v ∈ ns.map V.int, Dv p K 0 6 H v := fun v hv => by
  obtain ⟨i, hi, rfl⟩ := List.mem_map.mp hv
  exact dv_tiny (h i hi)
theorem dv_ints {p : List Addr} {K : PySem.W.Frag} {H : Hp} {ns : List Int} (h : ∀ i ∈ ns, SmI i) : ∀ v ∈ ns.map V.int, Dv p K 0 110 H v := fun v hv => by
  obtain ⟨i, hi, rfl⟩ := List.mem_map.mp hv
  exact dv_int (h i hi)
/-! ### displays, item by item -/
def Mk (Pr : Hp → V → Prop) (σ : L2.St) (B : Hp → Prop) (te : TE) : Prop := ∀ (H : Hp) (Q : VK), B H → (∀ v H', Grows H H' → Pr H' v → Q v H') → te σ H Q
def MkA (Pr : Hp → V → Prop) (σ : L2.St) (B : Hp → Prop) (t : TA) (n : Nat) : Prop := ∀ (H : Hp) (R : List V → Hp → Prop), B H → (∀ vs H', Grows H H' → vs.length = n → (∀ v ∈ vs, Pr H' v) → R vs H') → t σ H R
theorem mka_nil {Pr : Hp → V → Prop} {σ : L2.St} {B : Hp → Prop} : MkA Pr σ B tNil 0 := fun H R _ k => k [] H .refl rfl fun _ h => nomatch h
theorem mka_cons {Pr : Hp → V → Prop} {σ : L2.St} {B : Hp → Prop} {te : TE} {t : TA} {n : Nat} (st : ∀ H H', B H → Grows H H' → B H') (ps : ∀ H H' v, Pr H v → Grows H H' → Pr H' v) (h1 : Mk Pr σ B te) (h2 : MkA Pr σ B t n) : MkA Pr σ B (tCons te t) (n + 1) :=
  fun H R b k => h1 H _ b fun v H1 g1 p1 => h2 H1 _ (st _ _ b g1) fun vs H2 g2 l p2 => k (v :: vs) H2 (g1.trans g2) (congrArg (· + 1) l) fun x hx => by
    rcases List.mem_cons.mp hx with z | z
    · rw [z]; exact ps _ _ _ p1 g2
    · exact p2 x z
theorem mk_mono {Pr Pr' : Hp → V → Prop} {σ : L2.St} {B : Hp → Prop} {te : TE} (h : ∀ H v, Pr H v → Pr' H v) (m : Mk Pr σ B te) : Mk Pr' σ B te := fun H Q b k => m H Q b fun v H' g p => k v H' g (h _ _ p)
theorem mk_c {Pr : Hp → V → Prop} {σ : L2.St} {B : Hp → Prop} {v : V} (h : ∀ H, Pr H v) : Mk Pr σ B (tC v) := fun H Q _ k => k v H .refl (h H)
end K01

namespace K01
open PySem PySem.Spec PyProof.Rows L2 SortR LcM RepA
abbrev sObj : Stmt := top 26
structure Rl (H : Hp) (a : Addr) (cs : List (Addr × List Int)) : Prop where
  top : H a = some (.lst (cs.map fun c => V.ref c.1))
  each : ∀ c ∈ cs, H c.1 = some (.lst (c.2.map V.int))
theorem Rl.keep {H H' : Hp} {a : Addr} {cs : List (Addr × List Int)} (r : Rl H a cs) (g : Grows H H') : Rl H' a cs := ⟨g _ _ r.top, fun c m => g _ _ (r.each c m)⟩
theorem Rl.rw {K : PySem.W.Frag} {H : Hp} {a : Addr} {cs : List (Addr × List Int)} (r : Rl H a cs) : Rw K H a cs := ⟨SqL.of r.top, fun c m => SqL.of (r.each c m)⟩
theorem smi {i : Int} (h : i.natAbs ≤ 10000) : SmI i := .inl (Nat.lt_of_le_of_lt h (by decide))
def Tiny (r : List Int) : Prop := r.length ≤ 20 ∧ ∀ i ∈ r, i.natAbs ≤ 20
/-- what stands while the objects are made -/
structure Base (p : List Addr) (a : Addr) (cs : List (Addr × List Int)) (H : Hp) : Prop where
  rl : Rl H a cs
  ne : a ∉ p
  nes : ∀ c ∈ cs, c.1 ∉ p
  live : ∀ h ∈ p, H h ≠ none
  few : cs.length ≤ 19
  rows : ∀ c ∈ cs, Tiny c.2
section
variable {p : List Addr} {a : Addr} {K : PySem.W.Frag} {cs : List (Addr × List Int)} {σ : L2.St}
theorem Base.st (H H' : Hp) (b : Base p a cs H) (g : Grows H H') : Base p a cs H' := ⟨b.rl.keep g, b.ne, b.nes, fun h m z => (b.live h m) (none_back g z), b.few, b.rows⟩
theorem dv_st (n w : Nat) (H H' : Hp) (v : V) (h : Dv p K n w H v) (g : Grows H H') : Dv p K n w H' v := h.grw (hid_grow g)
theorem it_st (H H' : Hp) (v : V) (h : It p K H v) (g : Grows H H') : It p K H' v := h.grw (hid_grow g)
theorem Base.new {H : Hp} {l : Addr} (b : Base p a cs H) (h : H l = none) : l ∉ p := fun z => b.live l z h
/-- a list of ints, few and tiny -/
theorem dv_row {H : Hp} {x : Addr} {r : List Int} (e : H x = some (.lst (r.map V.int))) (np : x ∉ p) (l : r.length ≤ 21) (h : ∀ i ∈ r, i.natAbs ≤ 63) : Dv p K 1 147 H (.ref x) :=
  (dv_list e np (dv_tinies h) (by rw [List.length_map]; omega)).le (Nat.le_refl _) (by rw [List.length_map]; omega)
theorem dv_rowT {H : Hp} {x : Addr} {r : List Int} (e : H x = some (.tup (r.map V.int))) (np : x ∉ p) (l : r.length ≤ 21) (h : ∀ i ∈ r, i.natAbs ≤ 63) : Dv p K 1 147 H (.ref x) :=
  (dv_tuple e np (dv_tinies h) (by rw [List.length_map]; omega)).le (Nat.le_refl _) (by rw [List.length_map]; omega)
theorem Base.row {H : Hp} (b : Base p a cs H) {c : Addr × List Int} (hc : c ∈ cs) : Dv p K 1 147 H (.ref c.1) :=
  dv_row (b.rl.each c hc) (b.nes c hc) (by have := (b.rows c hc).1; omega) fun i hi => by have := (b.rows c hc).2 i hi; omega
theorem Base.all {H : Hp} (b : Base p a cs H) : ∀ v ∈ cs.map (fun c => V.ref c.1), Dv p K 1 147 H v := fun v hv => by
  obtain ⟨c, hc, rfl⟩ := List.mem_map.mp hv
  exact b.row hc
/-- a list of rows -/
theorem dv_rows {H : Hp} {x : Addr} {vs : List V} (e : H x = some (.lst vs)) (np : x ∉ p) (l : vs.length ≤ 38) (h : ∀ v ∈ vs, Dv p K 1 147 H v) : Dv p K 2 5624 H (.ref x) :=
  (dv_list e np h (by omega)).le (Nat.le_refl _) (Nat.le_trans (Nat.mul_le_mul_right _ l) (by decide))
abbrev M0 (p : List Addr) (a : Addr) (K : PySem.W.Frag) (cs : List (Addr × List Int)) (σ : L2.St) (te : TE) : Prop := Mk (Dv p K 0 110) σ (Base p a cs) te
theorem m_non : M0 p a K cs σ (tC .non) := mk_c fun H => ⟨_, .non, okd_none⟩
theorem m_bl (b : Bool) : M0 p a K cs σ (tC (.bl b)) := mk_c fun H => ⟨_, .bl b, okd_bool b⟩
theorem m_int {i : Int} (h : SmI i) : M0 p a K cs σ (tC (.int i)) := mk_c fun H => dv_int h
theorem m_e : M0 p a K cs σ (tC (.str "")) := mk_c fun H => ⟨_, .str _, okd_e⟩
theorem m_0 : M0 p a K cs σ (tC (.str "0")) := mk_c fun H => ⟨_, .str _, okd_0⟩
theorem okd_1 : OkD 0 110 (.str "1") := ⟨by simp only [sh60], by decide +kernel, by decide +kernel, by decide +kernel, by decide +kernel, by decide +kernel⟩
theorem m_1 : M0 p a K cs σ (tC (.str "1")) := mk_c fun H => ⟨_, .str _, okd_1⟩
theorem m_neg {i : Int} (h : SmI (-i)) : M0 p a K cs σ (tUn (rU fun i => V.int (-i)) (tC (.int i))) := fun H Q _ k => ⟨i, rfl, k _ H .refl (dv_int h)⟩
theorem p1030 : CPowW 10 30 := pow3' (n := 30) (by decide) (by decide)
theorem m_big : M0 p a K cs σ (tOp (rI CPowW fun i j => V.int (i ^ j.toNat)) (tC (.int 10)) (tC (.int 30))) := fun H Q _ k => ⟨10, 30, rfl, rfl, p1030, k _ H .refl (dv_int (.inr (.inl rfl)))⟩
theorem m_lst {n w c : Nat} {t : TA} (h : MkA (Dv p K n w) σ (Base p a cs) t c) (hc : c ≤ 60 := by decide) : Mk (Dv p K (n + 1) (c * (w + 1))) σ (Base p a cs) (tLst t) := fun H Q b k =>
  h H _ b fun vs H1 g l ps => ⟨by rw [l]; exact Nat.le_trans hc (by decide), fun x hx => k _ _ (g.trans (Grows.new hx)) (by
    rw [← l]
    exact dv_list upd_same ((b.st _ _ g).new hx) (fun v hv => dv_st _ _ _ _ v (ps v hv) (Grows.new hx)) (by rw [l]; exact hc))⟩
theorem m_tup {n w c : Nat} {t : TA} (h : MkA (Dv p K n w) σ (Base p a cs) t c) (hc : c ≤ 60 := by decide) : Mk (Dv p K (n + 1) (c * (w + 1))) σ (Base p a cs) (tTup t) := fun H Q b k =>
  h H _ b fun vs H1 g l ps => ⟨by rw [l]; exact Nat.le_trans hc (by decide), fun x hx => k _ _ (g.trans (Grows.new hx)) (by
    rw [← l]
    exact dv_tuple upd_same ((b.st _ _ g).new hx) (fun v hv => dv_st _ _ _ _ v (ps v hv) (Grows.new hx)) (by rw [l]; exact hc))⟩
theorem it_dict : Mk (It p K) σ (Base p a cs) tDNewK := fun H Q b k x hx => k _ _ (Grows.new hx) (.inr ⟨x, b.new hx, rfl, upd_same⟩)
theorem it_of {n w : Nat} {te : TE} (h : Mk (Dv p K n w) σ (Base p a cs) te) (h1 : n ≤ 3 := by decide) (h2 : w ≤ 6000 := by decide) : Mk (It p K) σ (Base p a cs) te := mk_mono (fun _ _ x => .inl (x.le h1 h2)) h
theorem d_of {n w n' w' : Nat} {te : TE} (h : Mk (Dv p K n w) σ (Base p a cs) te) (h1 : n ≤ n' := by decide) (h2 : w ≤ w' := by decide) : Mk (Dv p K n' w') σ (Base p a cs) te := mk_mono (fun _ _ x => x.le h1 h2) h
theorem d_cons {n w c : Nat} {te : TE} {t : TA} (h1 : Mk (Dv p K n w) σ (Base p a cs) te) (h2 : MkA (Dv p K n w) σ (Base p a cs) t c) : MkA (Dv p K n w) σ (Base p a cs) (tCons te t) (c + 1) := mka_cons Base.st (dv_st n w) h1 h2
theorem i_cons {c : Nat} {te : TE} {t : TA} (h1 : Mk (It p K) σ (Base p a cs) te) (h2 : MkA (It p K) σ (Base p a cs) t c) : MkA (It p K) σ (Base p a cs) (tCons te t) (c + 1) := mka_cons Base.st it_st h1 h2
/-! ### objects made of the lots -/
theorem cutV_mem {xs : List V} {lo hi : Option Int} {x : V} (h : x ∈ cutV xs lo hi) : x ∈ xs := List.mem_of_mem_drop (List.mem_of_mem_take h)
theorem cutV_len (xs : List V) (lo hi : Option Int) : (cutV xs lo hi).length ≤ xs.length := Nat.le_trans (List.length_take_le' _ _) (by rw [List.length_drop]; exact Nat.sub_le _ _)
theorem Base.cut {H H' : Hp} (b : Base p a cs H) (g : Grows H H') (lo hi : Option Int) : ∀ v ∈ cutV (cs.map fun c => V.ref c.1) lo hi, Dv p K 1 147 H' v := fun v hv => (b.st _ _ g).all v (cutV_mem hv)
theorem Base.clen {H : Hp} (b : Base p a cs H) (lo hi : Option Int) : (cutV (cs.map fun c => V.ref c.1) lo hi).length ≤ 19 := Nat.le_trans (cutV_len _ _ _) (by rw [List.length_map]; exact b.few)
theorem m_rev (hσ : σ[1]? = some (some (.ref a))) : Mk (Dv p K 2 5624) σ (Base p a cs) (tRev K (tVar 1)) := fun H Q b k => ⟨_, hσ, a, _, rfl, SqL.of b.rl.top, fun x hx => k _ _ (Grows.new hx) (dv_rows upd_same (b.new hx) (by rw [List.length_reverse, List.length_map]; have := b.few; omega) fun u hu => (b.st _ _ (Grows.new hx)).all u (List.mem_reverse.mp hu))⟩
theorem m_tail (hσ : σ[1]? = some (some (.ref a))) : Mk (Dv p K 2 5624) σ (Base p a cs) (tSl (rSlL K) (tVar 1) (tPart (tC (.int 1))) tNoPart) := fun H Q b k =>
  ⟨_, hσ, 1, rfl, a, _, rfl, SqL.of b.rl.top, fun x hx => k _ _ (Grows.new hx) (dv_rows upd_same (b.new hx) (by have := b.clen (some 1) none; omega) (b.cut (Grows.new hx) _ _))⟩
theorem m_init (hσ : σ[1]? = some (some (.ref a))) : Mk (Dv p K 2 5624) σ (Base p a cs) (tSl (rSlL K) (tVar 1) tNoPart (tPart (tUn (rU fun i => V.int (-i)) (tC (.int 1))))) := fun H Q b k =>
  ⟨_, hσ, 1, rfl, -1, rfl, a, _, rfl, SqL.of b.rl.top, fun x hx => k _ _ (Grows.new hx) (dv_rows upd_same (b.new hx) (by have := b.clen none (some (-1)); omega) (b.cut (Grows.new hx) _ _))⟩
theorem m_more (hσ : σ[1]? = some (some (.ref a))) : Mk (Dv p K 2 5624) σ (Base p a cs) (tOp rCat (tVar 1) (tSl (rSlL K) (tVar 1) tNoPart (tPart (tC (.int 1))))) := fun H Q b k =>
  ⟨_, hσ, _, hσ, 1, rfl, a, _, rfl, SqL.of b.rl.top, fun z hz => ⟨a, z, _, _, rfl, rfl, Grows.new hz _ _ b.rl.top, upd_same, by
    have := b.clen none (some 1)
    rw [List.length_map]
    exact Nat.le_trans (by have := b.few; omega : _ ≤ 38) (by decide), fun x hx => by
    have g := (Grows.new (o := .lst (cutV (cs.map fun c => V.ref c.1) none (some 1))) hz).trans (Grows.new (o := .lst ((cs.map fun c => V.ref c.1) ++ cutV (cs.map fun c => V.ref c.1) none (some 1))) hx)
    refine k _ _ g (dv_rows upd_same ((b.st _ _ (Grows.new hz)).new hx) ?_ fun u hu => ?_)
    · rw [List.length_append, List.length_map]
      have := b.clen none (some 1)
      have := b.few
      omega
    · rcases List.mem_append.mp hu with q | q
      · exact (b.st _ _ g).all u q
      · exact b.cut g _ _ u q⟩⟩
theorem m_tuple (hσ : σ[1]? = some (some (.ref a))) : Mk (Dv p K 2 5624) σ (Base p a cs) (tCB (fun xs H Q => ∃ p ys, xs = [V.ref p] ∧ ((SqL K H p ys ∧ ∀ (l : Addr), H l = none → Q (V.ref l) (upd H l (.tup ys))) ∨ SqT K H p ys ∧ Q (V.ref p) H)) (tCons (tVar 1) tNil)) := fun H Q b k =>
  ⟨_, hσ, a, _, rfl, .inl ⟨SqL.of b.rl.top, fun x hx => k _ _ (Grows.new hx) ((dv_tuple upd_same (b.new hx) ((b.st _ _ (Grows.new hx)).all) (by rw [List.length_map]; have := b.few; omega)).le (Nat.le_refl _) (by
    rw [List.length_map]
    exact Nat.le_trans (Nat.mul_le_mul_right _ b.few) (by decide)))⟩⟩
theorem m_twice (hσ : σ[1]? = some (some (.ref a))) : Mk (Dv p K 2 5624) σ (Base p a cs) (tOp rRep (tVar 1) (tC (.int 2))) := fun H Q b k =>
  ⟨_, hσ, a, 2, _, rfl, rfl, b.rl.top, by decide, by decide, by
    rw [List.length_map]
    exact Nat.le_trans (by have := b.few; show cs.length * 2 ≤ 38; omega) (by decide), fun x hx => k _ _ (Grows.new hx) (dv_rows upd_same (b.new hx) (by
    show (List.replicate 2 (cs.map fun c => V.ref c.1)).flatten.length ≤ 38
    simp only [List.replicate, List.flatten_cons, List.flatten_nil, List.length_append, List.length_map, List.length_nil]
    have := b.few
    omega) fun u hu => by
    obtain ⟨l, hl, hul⟩ := List.mem_flatten.mp hu
    rw [(List.mem_replicate.mp hl).2] at hul
    exact (b.st _ _ (Grows.new hx)).all u hul)⟩
theorem m_cat {te : TE} (hσ : σ[1]? = some (some (.ref a))) (h : M0 p a K cs σ te) : Mk (Dv p K 2 5624) σ (Base p a cs) (tOp rCat (tVar 1) (tLst (tCons te tNil))) := fun H Q b k =>
  ⟨_, hσ, h H _ b fun v H1 g pv => ⟨(by show 1 ≤ sizeLine; decide), fun z hz => ⟨a, z, _, _, rfl, rfl, (g.trans (Grows.new hz)) _ _ b.rl.top, upd_same, by
    rw [List.length_map]
    exact Nat.le_trans (Nat.succ_le_succ b.few) (by decide), fun x hx => by
    have g2 := g.trans (Grows.new (o := .lst [v]) hz)
    have g3 : Grows _ (upd (upd H1 z (.lst [v])) x (.lst ((cs.map fun c => V.ref c.1) ++ [v]))) := Grows.new hx
    refine k _ _ (g2.trans g3) (dv_rows upd_same ((b.st _ _ g2).new hx) ?_ fun u hu => ?_)
    · rw [List.length_append, List.length_map]
      have := b.few
      show cs.length + 1 ≤ 38
      omega
    · rcases List.mem_append.mp hu with q | q
      · exact (b.st _ _ (g2.trans g3)).all u q
      · rw [List.mem_singleton.mp q]
        exact (dv_st _ _ _ _ v pv ((Grows.new hz).trans g3)).le (by decide) (by decide)⟩⟩⟩
theorem m_one (hσ : σ[1]? = some (some (.ref a))) : Mk (Dv p K 3 5625) σ (Base p a cs) (tLst (tCons (tVar 1) tNil)) := fun H Q b k => ⟨_, hσ, (by show 1 ≤ sizeLine; decide), fun x hx => k _ _ (Grows.new hx) (by
  have g := Grows.new (o := .lst [V.ref a]) hx
  have d := dv_list (K := K) (p := p) (n := 2) (w := 5624) (H := upd H x (.lst [V.ref a])) upd_same (b.new hx) (fun u hu => by
    rw [List.mem_singleton.mp hu]
    exact dv_rows (g _ _ b.rl.top) b.ne (by rw [List.length_map]; have := b.few; omega) ((b.st _ _ g).all)) (by show 1 ≤ 60; decide)
  exact d.le (Nat.le_refl _) (by rw [List.length_singleton]; decide))⟩
end
end K01

namespace K01
open PySem PySem.Spec PyProof.Rows L2 SortR LcM RepA
theorem gr_none_back {p x : Addr} {H0 H : Hp} (g : Gr p H0 H) (n : x ≠ p) (h : H x = none) : H0 x = none := by
  cases e : H0 x with
  | none => rfl
  | some o => rw [g x o n e] at h; cases h
structure FS (H0 : Hp) (p a : Addr) (K : PySem.W.Frag) (cs : List (Addr × List Int)) (m : Int) (σ : L2.St) (n : Nat) (H : Hp) : Prop where
  pch : Pch H p m
  base : Base [p] a cs H
  gr : Gr p H0 H
  fd : ∃ f xs, σ[4]? = some (some (.ref f)) ∧ H f = some (.lst xs) ∧ xs.length = n ∧ H0 f = none ∧ f ≠ p ∧ f ≠ a ∧ (∀ c ∈ cs, c.1 ≠ f) ∧ ∀ v ∈ xs, It [f, p] K H v
section
variable {p a : Addr} {K : PySem.W.Frag} {cs : List (Addr × List Int)} {m : Int} {σ : L2.St} {H0 : Hp}
theorem FS.grow {n : Nat} {H H' : Hp} (s : FS H0 p a K cs m σ n H) (g : Grows H H') : FS H0 p a K cs m σ n H' := by
  obtain ⟨hP, b, gr, f, xs, e, hf, l, z, nf, na, nc, all⟩ := s
  exact ⟨hP.same g, b.st _ _ g, gr.trans g.gr, f, xs, e, g _ _ hf, l, z, nf, na, nc, fun v hv => (all v hv).grw (hid_grow g)⟩
theorem Base.off {H : Hp} {x : Addr} (b : Base [p] a cs H) (h : H x = none) : x ≠ p ∧ x ≠ a ∧ ∀ c ∈ cs, c.1 ≠ x :=
  ⟨fun z => b.new h (by rw [z]; exact List.mem_singleton.mpr rfl), (fun z => by
    rw [z, b.rl.top] at h
    cases h), fun c hc z => by
    rw [← z, b.rl.each c hc] at h
    cases h⟩
theorem disp_s {t : TA} {n : Nat} {rest : TS} {Dn : Ends} (h : MkA (It [p] K) σ (Base [p] a cs) t n) (hn : n ≤ 100) {H : Hp} (hP : Pch H p m) (g0 : Gr p H0 H) (b : Base [p] a cs H) (hσ : 4 < σ.length) (k : ∀ f H', FS H0 p a K cs m (σ.set 4 (some (.ref f))) n H' → rest Dn (σ.set 4 (some (.ref f))) H') : tSeq (tAsg (tLst t) (gName 4)) rest Dn σ H := by
  refine h H _ b fun vs H1 g l ps => ⟨by rw [l]; exact Nat.le_trans hn (by decide), fun x hx => k x _ ?_⟩
  have b1 := b.st _ _ g
  obtain ⟨o1, o2, o3⟩ := b1.off hx
  exact ⟨hP.same (g.trans (Grows.new hx)), b1.st _ _ (Grows.new hx), g0.trans (g.trans (Grows.new hx)).gr, x, vs, List.getElem?_set_self hσ, upd_same, l, gr_none_back (g0.trans g.gr) o1 hx, o1, o2, o3, fun v hv => (ps v hv).hide hx _⟩
theorem cat_s {t : TA} {n c : Nat} {rest : TS} {Dn : Ends} {H : Hp} (s : FS H0 p a K cs m σ n H) (h : MkA (It [p] K) σ (Base [p] a cs) t c) (hn : n ≤ 100) (hc : c ≤ 100) (hσ : 4 < σ.length) (k : ∀ f H', FS H0 p a K cs m (σ.set 4 (some (.ref f))) (n + c) H' → rest Dn (σ.set 4 (some (.ref f))) H') : tSeq (tAsg (tOp rCat (tVar 4) (tLst t)) (gName 4)) rest Dn σ H := by
  obtain ⟨hP, b, gr, f, xs, e, hf, l, z, nf, na, nc, all⟩ := s
  refine ⟨_, e, h H _ b fun vs H1 g l1 pr => ⟨by rw [l1]; exact Nat.le_trans hc (by decide), fun y hy => ⟨f, y, xs, vs, rfl, rfl, (g.trans (Grows.new hy)) _ _ hf, upd_same, by rw [l, l1]; exact Nat.le_trans (Nat.add_le_add hn hc) (by decide), fun x hx => k x _ ?_⟩⟩⟩
  have g2 := g.trans (Grows.new (o := .lst vs) hy)
  have g3 : Grows _ (upd (upd H1 y (.lst vs)) x (.lst (xs ++ vs))) := g2.trans (Grows.new hx)
  have b2 := b.st _ _ g2
  obtain ⟨o1, o2, o3⟩ := b2.off hx
  refine ⟨hP.same g3, b.st _ _ g3, gr.trans g3.gr, x, _, List.getElem?_set_self hσ, upd_same, by rw [List.length_append, l, l1], gr_none_back (gr.trans g2.gr) o1 hx, o1, o2, o3, fun v hv => ?_⟩
  rcases List.mem_append.mp hv with q | q
  · exact (((all v q).show fun x hx => by rw [List.mem_singleton.mp hx]; exact List.mem_cons_of_mem _ (List.mem_singleton.mpr rfl)).grw (hid_grow g2)).hide hx _
  · exact ((pr v q).grw (hid_grow (Grows.new hy))).hide hx _
theorem app_g {te : TE} {n : Nat} {rest : TS} {Dn : Ends} {H : Hp} (s : FS H0 p a K cs m σ n H) (h : ∀ f H Q, Base [f, p] a cs H → H0 f = none → Gr p H0 H → (∀ v H', Grows H H' → It [f, p] K H' v → Q v H') → te σ H Q) (hn : n ≤ 100) (k : ∀ H', FS H0 p a K cs m σ (n + 1) H' → rest Dn σ H') : tSeq (tDrop (tBM K "list" rAppend (tVar 4) (tCons te tNil))) rest Dn σ H := by
  obtain ⟨hP, b, gr, f, xs, e, hf, l, z, nf, na, nc, all⟩ := s
  have bf : Base [f, p] a cs H := ⟨b.rl, fun y => (List.mem_cons.mp y).elim (fun q => na q.symm) b.ne, fun c hc y => (List.mem_cons.mp y).elim (nc c hc) (b.nes c hc), fun h hh => by
    rcases List.mem_cons.mp hh with q | q
    · rw [q, hf]
      exact fun z => nomatch z
    · exact b.live h q, b.few, b.rows⟩
  refine ⟨_, e, .inl ⟨rfl, _, SqL.of hf⟩, h f H _ bf z gr fun v H1 g pv => ⟨f, xs, v, rfl, rfl, g _ _ hf, ?_, k _ ?_⟩⟩
  · rw [l]
    exact small1000 (by omega)
  · have b1 := b.st _ _ g
    have keep : Grows (hid [f, p] H1) (hid [f, p] (upd H1 f (.lst (xs ++ [v])))) := by
      rw [hid_upd List.mem_cons_self]
      exact .refl
    refine ⟨?_, ⟨⟨(upd_ne (Ne.symm na)).trans b1.rl.top, fun c hc => (upd_ne (nc c hc)).trans (b1.rl.each c hc)⟩, b.ne, b.nes, fun h hh => ?_, b.few, b.rows⟩, fun c o nb ec => ?_, f, _, e, upd_same, by rw [List.length_append, l]; rfl, z, nf, na, nc, fun u hu => ?_⟩
    · obtain ⟨d, b', n', ep, r⟩ := hP.same g
      exact ⟨d, b', n', (upd_ne (Ne.symm nf)).trans ep, r⟩
    · rw [List.mem_singleton.mp hh, upd_ne (Ne.symm nf)]
      exact b1.live p (List.mem_singleton.mpr rfl)
    · have : c ≠ f := fun q => by rw [q, z] at ec; cases ec
      rw [upd_ne this]
      exact g _ _ (gr c o nb ec)
    · rcases List.mem_append.mp hu with q | q
      · exact ((all u q).grw (hid_grow g)).grw keep
      · rw [List.mem_singleton.mp q]
        exact pv.grw keep
theorem app_s {te : TE} {n : Nat} {rest : TS} {Dn : Ends} {H : Hp} (s : FS H0 p a K cs m σ n H) (h : ∀ hs, Mk (It hs K) σ (Base hs a cs) te) (hn : n ≤ 100) (k : ∀ H', FS H0 p a K cs m σ (n + 1) H' → rest Dn σ H') : tSeq (tDrop (tBM K "list" rAppend (tVar 4) (tCons te tNil))) rest Dn σ H :=
  app_g s (fun f H Q b _ _ k => h [f, p] H Q b k) hn k
/-- found + a list -/
theorem cat_q {te : TE} {n c : Nat} {H : Hp} {Q : VK} (s : FS H0 p a K cs m σ n H) (h : ∀ H Q, Base [p] a cs H → Gr p H0 H → (∀ y ys H', Grows H H' → H' y = some (.lst ys) → ys.length = c → (∀ v ∈ ys, It [p] K H' v) → Q (.ref y) H') → te σ H Q) (hn : n ≤ 100) (hc : c ≤ 100) (hσ : 4 < σ.length) (k : ∀ f H', FS H0 p a K cs m (σ.set 4 (some (.ref f))) (n + c) H' → Q (.ref f) H') : tOp rCat (tVar 4) te σ H Q := by
  obtain ⟨hP, b, gr, f, xs, e, hf, l, z, nf, na, nc, all⟩ := s
  refine ⟨_, e, h H _ b gr fun y vs H1 g ey l1 pr => ⟨f, y, xs, vs, rfl, rfl, g _ _ hf, ey, by rw [l, l1]; exact Nat.le_trans (Nat.add_le_add hn hc) (by decide), fun x hx => k x _ ?_⟩⟩
  have g3 : Grows _ (upd H1 x (.lst (xs ++ vs))) := g.trans (Grows.new hx)
  have b2 := b.st _ _ g
  obtain ⟨o1, o2, o3⟩ := b2.off hx
  refine ⟨hP.same g3, b.st _ _ g3, gr.trans g3.gr, x, _, List.getElem?_set_self hσ, upd_same, by rw [List.length_append, l, l1], gr_none_back (gr.trans g.gr) o1 hx, o1, o2, o3, fun v hv => ?_⟩
  rcases List.mem_append.mp hv with q | q
  · exact (((all v q).show fun x hx => by rw [List.mem_singleton.mp hx]; exact List.mem_cons_of_mem _ (List.mem_singleton.mpr rfl)).grw (hid_grow g)).hide hx _
  · exact (pr v q).hide hx _
theorem lst_g {t : TA} {c : Nat} (h : MkA (It [p] K) σ (Base [p] a cs) t c) (hc : c ≤ 100) : ∀ H Q, Base [p] a cs H → Gr p H0 H → (∀ y ys H', Grows H H' → H' y = some (.lst ys) → ys.length = c → (∀ v ∈ ys, It [p] K H' v) → Q (.ref y) H') → tLst t σ H Q := fun H Q b _ k =>
  h H _ b fun vs H1 g l ps => ⟨by rw [l]; exact Nat.le_trans hc (by decide), fun x hx => k x vs _ (g.trans (Grows.new hx)) upd_same l fun v hv => (ps v hv).grw (hid_grow (Grows.new hx))⟩
/-- a draw changes the pouch alone -/
theorem FS.dip {n : Nat} {H H' : Hp} {m' : Int} (s : FS H0 p a K cs m σ n H) (hP : Pch H' p m') (but : ∀ b, b ≠ p → H' b = H b) : FS H0 p a K cs m' σ n H' := by
  obtain ⟨_, b, gr, f, xs, e, hf, l, z, nf, na, nc, all⟩ := s
  have ap : a ≠ p := fun z => b.ne (by rw [z]; exact List.mem_singleton.mpr rfl)
  have cp : ∀ c ∈ cs, c.1 ≠ p := fun c hc z => b.nes c hc (by rw [z]; exact List.mem_singleton.mpr rfl)
  refine ⟨hP, ⟨⟨(but a ap).trans b.rl.top, fun c hc => (but _ (cp c hc)).trans (b.rl.each c hc)⟩, b.ne, b.nes, fun h hh z => ?_, b.few, b.rows⟩, gr.trans (but_gr but), f, xs, e, (but f nf).trans hf, l, z, nf, na, nc, fun v hv => (all v hv).grw (hid_gr (p := p) (List.mem_cons_of_mem _ (List.mem_singleton.mpr rfl)) (but_gr but))⟩
  rw [List.mem_singleton.mp hh] at z
  exact pch_ne hP z rfl
theorem FS.slot {n : Nat} {H : Hp} (s : FS H0 p a K cs m σ n H) {τ : L2.St} (e : τ[4]? = σ[4]?) : FS H0 p a K cs m τ n H := by
  obtain ⟨hP, b, gr, f, xs, e1, r⟩ := s
  exact ⟨hP, b, gr, f, xs, e.trans e1, r⟩
end
section
variable {p : List Addr} {a : Addr} {K : PySem.W.Frag} {cs : List (Addr × List Int)} {σ : L2.St}
theorem hid_D {D : Addr} {H : Hp} (hD : H D = none) : hid [D] H = H := by
  funext c
  unfold hid
  by_cases q : c ∈ [D]
  · rw [if_pos q, List.mem_singleton.mp q, hD]
  · rw [if_neg q]
variable {s0 s2 s3 s4 s5 s6 s7 : Option V}
abbrev σ8 (a : Addr) (s0 s2 s3 s4 s5 s6 s7 : Option V) : L2.St := [s0, some (.ref a), s2, s3, s4, s5, s6, s7]
theorem new_off {D T : Addr} {G : Hp} (nD : G D ≠ none) (hT : G T = none) : T ∉ [D] := fun z => nD (by rw [← List.mem_singleton.mp z]; exact hT)
/-- a list comprehension over the lots, each turn a new row -/
theorem m_lc {te : TE} (each : ∀ (c : Addr × List Int) (D : Addr) (G : Hp) (Rk : V → Hp → Prop), c ∈ cs → Base p a cs G → G D ≠ none → (∀ y H4, Grows G H4 → Dv p K 1 147 (hid [D] H4) y → Rk y H4) → te (σ8 a s0 s2 s3 s4 (some (.ref c.1)) s6 s7) G Rk) :
    Mk (Dv p K 2 5624) (σ8 a s0 s2 s3 s4 s5 s6 s7) (Base p a cs) (tLc (iList K (tVar 1)) (gName 5) tYes te [5]) := fun H Q b k => by
  refine ⟨_, rfl, a, rfl, ⟨_, SqL.of b.rl.top⟩, fun D hD => lc_listX (K := K) (fun _ y G => Dv p K 1 147 (hid [D] G) y) (fun j y G G' g r => r.grw (hid_grow (hid_grow g))) (fun j y G zs r _ u => by rw [hid_upd (List.mem_singleton.mpr rfl)]; exact r) hD (SqL.of b.rl.top) (by rw [List.length_map]; have := b.few; omega) (fun j x G Rk hx sm nD kR => ?_) fun G ys mx => ?_⟩
  · have jl := (List.getElem?_eq_some_iff.mp hx).1
    rw [List.length_map] at jl
    obtain rfl := at_map (d := (0, [])) hx
    have cm : cs.getD j (0, []) ∈ cs := by
      rw [List.getD_eq_getElem?_getD, List.getElem?_eq_getElem jl]
      exact List.getElem_mem jl
    exact ⟨rfl, each _ D G Rk cm (b.st _ _ sm) nD kR⟩
  · refine k _ _ mx.grow (dv_rows mx.top (b.new hD) (by rw [mx.len, List.length_map]; have := b.few; omega) fun v hv => ?_)
    obtain ⟨i, hi⟩ := List.getElem?_of_mem hv
    exact (mx.rel i v hi).grw (hid_grow hid_le)
theorem m_lcT : Mk (Dv p K 2 5624) (σ8 a s0 s2 s3 s4 s5 s6 s7) (Base p a cs) (tLc (iList K (tVar 1)) (gName 5) tYes (tCB (rTup K) (tCons (tVar 5) tNil)) [5]) :=
  m_lc fun c D G Rk cm b nD kR => ⟨_, rfl, c.1, _, rfl, SqL.of (b.rl.each c cm), fun T hT => kR _ _ (Grows.new hT) (dv_rowT ((hid_at (new_off nD hT)).trans upd_same) (b.new hT) (by have := (b.rows c cm).1; omega) fun i hi => by have := (b.rows c cm).2 i hi; omega)⟩
theorem m_lcR : Mk (Dv p K 2 5624) (σ8 a s0 s2 s3 s4 s5 s6 s7) (Base p a cs) (tLc (iList K (tVar 1)) (gName 5) tYes (tRev K (tVar 5)) [5]) :=
  m_lc fun c D G Rk cm b nD kR => ⟨_, rfl, c.1, _, rfl, SqL.of (b.rl.each c cm), fun T hT => kR _ _ (Grows.new hT) (dv_row (r := c.2.reverse) ((hid_at (new_off nD hT)).trans (by rw [upd_same, List.map_reverse])) (b.new hT) (by rw [List.length_reverse]; have := (b.rows c cm).1; omega) fun i hi => by have := (b.rows c cm).2 i (List.mem_reverse.mp hi); omega)⟩
/-- sorted(rows), all of them rows -/
theorem sort_mk {H : Hp} {Q : VK} {x : Addr} {bs : List (Addr × List Int)} (live : ∀ h ∈ p, H h ≠ none) (e : H x = some (.lst (bs.map fun b => V.ref b.1))) (each : ∀ b ∈ bs, H b.1 = some (.lst (b.2.map V.int)) ∧ b.1 ∉ p ∧ b.2.length ≤ 21 ∧ ∀ i ∈ b.2, i.natAbs ≤ 63) (l : bs.length ≤ 38) (k : ∀ v H', Grows H H' → Dv p K 2 5624 H' v → Q v H') :
    ∃ (a : Addr) (bs : List (Addr × List Int)), [V.ref x] = [V.ref a] ∧ SqL K H a (bs.map fun b => V.ref b.1) ∧ (∀ b ∈ bs, SqL K H b.1 (b.2.map V.int)) ∧ ∀ p, H p = none → Q (.ref p) (upd H p (.lst ((bs.mergeSort rowLe).map fun b => V.ref b.1))) :=
  ⟨x, bs, rfl, SqL.of e, fun b hb => SqL.of (each b hb).1, fun y hy => k _ _ (Grows.new hy) (dv_rows upd_same (fun z => live y z hy) (by rw [List.length_map, List.length_mergeSort]; exact l) fun v hv => by
    obtain ⟨b, hb, rfl⟩ := List.mem_map.mp hv
    obtain ⟨e1, e2, e3, e4⟩ := each b (List.mem_mergeSort.mp hb)
    exact dv_row (Grows.new hy _ _ e1) e2 e3 e4)⟩
theorem m_chain {n : Nat} {hi : Int} (e : hi = 2 + (n : Nat)) (hn : n ≤ 20) : Mk (Dv p K 2 5624) (σ8 a s0 s2 s3 s4 s5 s6 s7) (Base p a cs) (tLc (iRng2 (tCons (tC (.int 2)) (tCons (tC (.int hi)) tNil))) (gName 2) tYes (tLstRg (tRg1 (tVar 2))) [2]) := fun H Q b k => by
  subst e
  refine ⟨2, 2 + (n : Nat), rfl, by omega, fun D hD => ?_⟩
  have en : ((2 + (n : Nat) : Int) - 2).toNat = n := by omega
  refine lc_range (lo := 2) (n := ((2 + (n : Nat) : Int) - 2).toNat) (fun i G => ∃ ys : List V, Grows H G ∧ G D = some (.lst ys) ∧ ys.length = i ∧ ∀ v ∈ ys, Dv p K 1 147 (hid [D] G) v) ⟨[], Grows.new hD, upd_same, rfl, fun _ h => nomatch h⟩ (fun i G hi ⟨ys, g, eD, l, all⟩ => ?_) fun G ⟨ys, g, eD, l, all⟩ => ?_
  · rw [en] at hi
    refine ⟨rfl, _, rfl, _, rfl, .of_le (by decide) (by omega) (by decide) (by omega), fun q hq => ?_⟩
    rw [rg_ints]
    have qD : q ≠ D := (ne_of_none eD hq).symm
    have gq : Grows G (upd G q (.lst (((List.range (2 + (i : Nat) : Int).toNat).map fun j => (0 + (j : Nat) : Int)).map V.int))) := Grows.new hq
    refine ⟨ys, gq _ _ eD, ?_, ys ++ [V.ref q], ?_, upd_same, by rw [List.length_append, l]; rfl, fun v hv => ?_⟩
    · rw [l]
      exact small1000 (by omega)
    · intro c o ec
      rw [upd_ne (ne_of_none ec hD)]
      exact gq _ _ (g _ _ ec)
    · rw [hid_upd (List.mem_singleton.mpr rfl)]
      rcases List.mem_append.mp hv with m | m
      · exact (all v m).grw (hid_grow (hid_grow gq))
      · rw [List.mem_singleton.mp m]
        refine dv_row ((hid_at (fun z => qD (List.mem_singleton.mp z))).trans upd_same) ((b.st _ _ g).new hq) (by rw [List.length_map, List.length_range]; omega) fun x hx => ?_
        obtain ⟨j, hj, rfl⟩ := List.mem_map.mp hx
        have := List.mem_range.mp hj
        omega
  · rw [en] at l
    exact k _ _ g (dv_rows eD (b.new hD) (by omega) fun v hv => (all v hv).grw (hid_grow hid_le))
end
end K01

namespace K01
open PySem PySem.Spec PyProof.Rows L2 SortR LcM
abbrev sLot : Stmt := top 22
def rng (n : Int) : List Int := (List.range n.toNat).map fun i => (0 + (i : Nat) : Int)
theorem rng_len {n : Int} (h : 1 ≤ n) : ((rng n).length : Int) = n := by
  unfold rng
  rw [List.length_map, List.length_range]
  omega
theorem gr_own {sd p : Addr} {H0 H : Hp} (g : Gr sd H0 H) (e : H0 p = none) (o : HO) : Gr sd H0 (upd H p o) := fun b u nb h => by
  have ne : b ≠ p := fun z => by rw [z, e] at h; cases h
  rw [upd_ne ne]
  exact g b u nb h
theorem Pch.off {H : Hp} {p x : Addr} {m : Int} (h : Pch H p m) (n : x ≠ p) (o : HO) : Pch (upd H x o) p m := by
  obtain ⟨d, b, k, e, r⟩ := h
  exact ⟨d, b, k, (upd_ne n.symm).trans e, r⟩
theorem erase_map {α β : Type} (f : α → β) : ∀ (l : List α) (k : Nat), (l.map f).eraseIdx k = (l.eraseIdx k).map f
  | [], _ => rfl
  | _ :: _, 0 => rfl
  | x :: l, k + 1 => congrArg (f x :: ·) (erase_map f l k)
theorem erase_perm {α : Type} : ∀ (l : List α) (k : Nat) (h : k < l.length), (l[k] :: l.eraseIdx k).Perm l
  | [], k, h => absurd h (Nat.not_lt_zero k)
  | x :: l, 0, _ => .refl _
  | x :: l, k + 1, h => (List.Perm.swap x (l[k]'(Nat.lt_of_succ_lt_succ h)) (l.eraseIdx k)).trans ((erase_perm l k (Nat.lt_of_succ_lt_succ h)).cons x)
theorem pop_perm {α : Type} {fs ls cs : List α} {c : α} {k : Nat} (h : (fs ++ ls).Perm cs) (e : ls[k]? = some c) : ((fs ++ [c]) ++ ls.eraseIdx k).Perm cs := by
  obtain ⟨hk, ec⟩ := List.getElem?_eq_some_iff.mp e
  refine List.Perm.trans ?_ h
  rw [List.append_assoc]
  refine List.Perm.append_left fs ?_
  rw [← ec]
  exact erase_perm ls k hk
theorem seq_in {v : Int} {n : Nat} (h0 : 0 ≤ v) (h1 : v < n) : seqIndex? v n = some v.toNat := by
  unfold seqIndex?
  dsimp only
  rw [if_neg (by omega : ¬ v < 0), if_pos (by rw [Bool.and_eq_true]; exact ⟨decide_eq_true h0, decide_eq_true h1⟩)]
theorem ints_le (l : List Int) : (l.mergeSort intLe).Pairwise (· ≤ ·) := by
  have h := List.pairwise_mergeSort (le := intLe) (fun a b c h1 h2 => by
    unfold intLe at *
    simp only [decide_eq_true_eq] at *
    omega) (fun a b => by
    unfold intLe
    simp only [Bool.or_eq_true, decide_eq_true_eq]
    omega) l
  exact h.imp fun {a b} z => by
    unfold intLe at z
    exact of_decide_eq_true z
def spLot : Sp := fun vs H Q _ => ∃ (p : Addr) (n m : Int), vs = [.ref p, .int n] ∧ Pch H p m ∧ m < 2 ^ 50 ∧ 2 ≤ n ∧ n ≤ 20 ∧
  ∀ (q : Addr) (r : List Int) (H' : Hp), Row n r → Pch H' p (m + 30) → Gr p H H' → H q = none → H' q = some (.lst (r.map V.int)) → Q (.ref q) H'
section
variable {P : Program} {w : World} {K : PySem.W.Frag} {mg : Str → Option Value} {base : Heap}
theorem scLot : FnScope ["pouch", "many", "found", "fresh", "left", "turn"] ["pouch", "many"] (defScope sLot) := ⟨rfl, rfl, rfl, by decide +kernel, rfl, by decide +kernel, by decide +kernel⟩
theorem ok_lot {f fD : Addr} {fd fdD : FuncData} (F : Fun K "_law_lot" "_law_lot" sLot f fd) (T : TxtP mg) (TD : TxtD mg fD) (FD : Fun K "_law_dip" "_law_dip" sDip fD fdD) (bD : Binds K fdD ["pouch", "wide"] []) : FnOk P w K mg base CX0 2 f fd ["pouch", "many"] spLot := by
  have GD : FnOk P w K mg base CX0 1 fD fdD ["pouch", "wide"] spDip := ok_dip FD TD.toTxt0
  refine F.ok scLot (fun vs H Q E h => ?_) (fun cdv A outer s H vs Q E hr h => ?_)
  · obtain ⟨p, n, m, rfl, _⟩ := h
    rfl
  · obtain ⟨p, mn, m, rfl, hP, hm, hmn, hmx, kq⟩ := h
    refine ⟨_, (pss_cons (ps_setLc (i := 2) (own := [("fresh", 3)]) (g := gName 3)  rfl scLot.nd rfl rfl (sw_true rfl rfl rfl (by decide +kernel)) (pi_range1 (by rfl) T.range (pa_cons (pv 1) pa_nil)) (blkOk_by (own := [("fresh", 3)]) (N := ["pouch", "many", "found", "fresh", "left", "turn"]) (sc := defScope sLot) (by decide +kernel)) (fun _ _ _ _ _ => pg_name (i := 3) scLot.nd rfl (Or.inl rfl)) (fun _ _ _ _ _ => (pts_one (pt_cmpR op_eq (pe_call GD (hr.mono (by decide)) rfl TD.gD FD.kp bD .nil pass0 (pa_cons (pv 0) (pa_cons pe_int pa_nil))) pe_int (nomark _)))) (fun _ _ _ _ _ => (pv 3)))
      (pss_cons (ps_if (pt_cmpR op_gt (pe_callB call_len_seq (by rfl) T.len (by decide +kernel) (pa_cons (pv 2) pa_nil)) pe_int (nomark _)) (pss_one (ps_ret (pv 2))) pss_nil)
      (pss_cons (ps_set (i := 4) scLot.nd rfl (.inr rfl) (pe_listRg rfl (by rfl) T.list (prg_1 (by rfl) T.range (pv 1))))
      (pss_one (ps_ret (pe_callB (call_sortedInts hr.units) (by rfl) T.sorted (by decide +kernel) (pa_cons (pe_lc (te := tBM K "list" rPopAt (tVar 4) (tCons _ tNil)) (own := [("turn", 5)]) (g := gName 5) (tt := tYes) rfl scLot.nd (pi_range1 (by rfl) T.range (pa_cons pe_int pa_nil)) (blkOk_by (own := [("turn", 5)]) (N := ["pouch", "many", "found", "fresh", "left", "turn"]) (sc := defScope sLot) (by decide +kernel)) (fun _ _ _ _ _ => pg_name (i := 5) scLot.nd rfl (Or.inl rfl)) (fun _ _ _ _ _ => pts_nil) (fun _ _ _ _ _ => (pe_bm PySem.F.plainAttrs_list PySem.F.slot_list_pop PySem.F.type_list_pop mt_popAt (pv 4) (pa_cons (pe_call GD (hr.mono (by decide)) rfl TD.gD FD.kp bD .nil pass0 (pa_cons (pv 0) (pa_cons (pe_callB (id := "len") (r := rLenS K) (by exact call_lenK) (by rfl) T.len (by decide +kernel) (pa_cons (pv 4) pa_nil)) pa_nil))) pa_nil)))) pa_nil))))))), ?_⟩
    refine ⟨_, rfl, mn, rfl, by omega, by omega, fun D hD => lc_range (lo := 0) (n := mn.toNat) (fun i H' => ∃ acc : List Int, Gr p H H' ∧ Pch H' p (m + i) ∧ H' D = some (.lst (acc.map V.int)) ∧ acc.Pairwise (· < ·) ∧ (∀ x ∈ acc, 0 ≤ x ∧ x < i) ∧ acc.length ≤ i) ⟨[], Gr.new hD, (hP.same (.new hD)).le (by omega), upd_same, .nil, (fun _ h => nomatch h), Nat.le_refl _⟩ (fun i H' hi ⟨acc, gr, hp, eD, up, rng, len⟩ => ?_) fun H1 ⟨acc, gr, hp, eD, up, rng, len⟩ => ?_⟩
    · have nDp : D ≠ p := pch_ne hP hD
      refine ⟨rfl, _, rfl, p, 2, _, rfl, hp, by omega, by decide, by decide, fun v H2 v0 v1 hp2 but => ⟨rfl, _, rfl, ?_⟩⟩
      have eD2 := but_at but eD nDp
      refine ite2 (fun e => ?_) (fun e => ?_)
      · refine ⟨_, rfl, _, eD2, ?_, acc ++ [0 + (i : Int)], gr_own (gr.trans (but_gr but)) hD _, (hp2.off nDp _).le (by omega), by rw [upd_same, List.map_append]; rfl, ?_, fun x hx => ?_, by rw [List.length_append]; exact Nat.succ_le_succ len⟩
        · rw [List.length_map]
          exact small1000 (by omega)
        · refine List.pairwise_append.mpr ⟨up, List.pairwise_singleton _ _, fun a ha b hb => ?_⟩
          rw [List.mem_singleton.mp hb]
          have := (rng a ha).2
          omega
        · rcases List.mem_append.mp hx with h | h
          · have := rng x h
            omega
          · rw [List.mem_singleton.mp h]
            omega
      · exact ⟨acc, gr.trans (but_gr but), hp2.le (by omega), eD2, up, fun x hx => by have := rng x hx; omega, Nat.le_succ_of_le len⟩
    · have nDp : D ≠ p := pch_ne hP hD
      refine ⟨_, rfl, D, _, rfl, .inl (SqL.of eD), _, _, rfl, rfl, _, rfl, ?_⟩
      rw [List.length_map]
      refine ite2 (fun e => ?_) (fun e => ?_)
      · have two := of_decide_eq_true e
        exact ⟨_, rfl, kq D acc H1 ⟨up, fun x hx => by have := rng x hx; omega, by omega⟩ (hp.le (by omega)) gr hD eD⟩
      · refine ⟨_, rfl, mn, rfl, .of_le (by decide) (by omega) (by decide) (by omega), fun q1 hq1 => ?_⟩
        have n1p := pch_ne hp hq1
        have hq0 : H q1 = none := gr_none gr hq1 n1p
        have hp1 := hp.same (.new hq1 (o := .lst (rgV 0 mn)))
        have g1 : Gr p H (upd H1 q1 (.lst (rgV 0 mn))) := gr.trans (.new hq1)
        have e1 : (upd H1 q1 (.lst (rgV 0 mn))) q1 = some (.lst ((K01.rng mn).map V.int)) := by
          rw [upd_same, rg_ints]
          rfl
        generalize upd H1 q1 (.lst (rgV 0 mn)) = G1 at hp1 g1 e1
        refine ⟨2, rfl, by decide, by decide, fun D2 hD2 => lc_range (lo := 0) (n := 2) (fun i G => ∃ acc ls : List Int, Gr p H G ∧ Pch G p (m + 20 + i) ∧ G D2 = some (.lst (acc.map V.int)) ∧ G q1 = some (.lst (ls.map V.int)) ∧ (acc ++ ls).Perm (K01.rng mn) ∧ acc.length = i)
          ⟨[], K01.rng mn, g1.trans (.new hD2), (hp1.same (.new hD2)).le (by omega), upd_same, (Grows.new hD2) _ _ e1, .refl _, rfl⟩ (fun i G hi ⟨acc, ls, g, hp2, e2, e3, pm, len⟩ => ?_) fun G ⟨acc, ls, g, hp2, e2, e3, pm, len⟩ => ?_⟩
        · have n2p : D2 ≠ p := pch_ne hp1 hD2
          have hD0 : H D2 = none := gr_none g1 hD2 n2p
          have n12 : q1 ≠ D2 := ne_of_none e1 hD2
          have tot := pm.length_eq
          rw [List.length_append] at tot
          have rl := rng_len (n := mn) (by omega)
          refine ⟨rfl, _, rfl, .inl ⟨rfl, _, SqL.of e3⟩, _, rfl, _, rfl, q1, _, rfl, .inl (SqL.of e3), p, _, _, rfl, hp2, by omega, ?_, ?_, fun u G2 u0 u1 hp3 but2 => ?_⟩
          · rw [List.length_map]
            omega
          · rw [List.length_map]
            omega
          · rw [List.length_map] at u1
            have ul : u.toNat < ls.length := by omega
            have e2' := (but2 D2 n2p).trans e2
            have e3' := (but2 q1 n1p).trans e3
            have at_u : (ls.map V.int)[u.toNat]? = some (V.int ls[u.toNat]) := by
              rw [List.getElem?_map, List.getElem?_eq_getElem ul]
              rfl
            refine ⟨q1, _, u, u.toNat, _, rfl, rfl, e3', by omega, by omega, ?_, at_u, _, (upd_ne n12.symm).trans e2', ?_, acc ++ [ls[u.toNat]], ls.eraseIdx u.toNat, ?_, ?_, ?_, ?_, pop_perm pm (List.getElem?_eq_getElem ul), ?_⟩
            · rw [List.length_map]
              exact seq_in u0 u1
            · rw [List.length_map]
              exact small1000 (by omega)
            · exact gr_own (gr_own (g.trans (but_gr but2)) hq0 _) hD0 _
            · exact ((hp3.off n1p _).off n2p _).le (by omega)
            · rw [upd_same, List.map_append]
              rfl
            · rw [upd_ne n12, upd_same, erase_map]
            · rw [List.length_append, len]
              rfl
        · have n2p : D2 ≠ p := pch_ne hp1 hD2
          refine ⟨D2, acc, rfl, SqL.of e2, fun q hq => ?_⟩
          have nqp : q ≠ p := pch_ne hp2 hq
          have nd : (acc ++ ls).Nodup := pm.nodup_iff.mpr (nd_up (rg_up _))
          have ndm : (acc.mergeSort intLe).Nodup := (List.mergeSort_perm acc intLe).nodup_iff.mpr (List.nodup_append.mp nd).1
          have srt : (acc.mergeSort intLe).Pairwise (· ≤ ·) := by
            exact ints_le acc
          refine kq q (acc.mergeSort intLe) _ ⟨?_, fun x hx => ?_, ?_⟩ ((hp2.same (.new hq)).le (by omega)) (g.trans (.new hq)) (gr_none g hq nqp) upd_same
          · exact (srt.and ndm).imp fun ⟨h1, h2⟩ => by omega
          · have mx : x ∈ K01.rng mn := pm.mem_iff.mp (List.mem_append_left _ (List.mem_mergeSort.mp hx))
            have := rg_in _ x mx
            omega
          · rw [List.length_mergeSort, len]
            decide
end
end K01

namespace K01
open PySem PySem.Spec PyProof.Rows L2 SortR LcM RepA
section
variable {p a : Addr} {K : PySem.W.Frag} {cs : List (Addr × List Int)} {m : Int} {σ : L2.St} {H0 : Hp}
/-- found + a list, told at the heap as it stands -/
theorem cat_h {te : TE} {n c : Nat} {H : Hp} {Q : VK} (s : FS H0 p a K cs m σ n H) (h : ∀ Q : VK, (∀ y ys H', Grows H H' → H' y = some (.lst ys) → ys.length = c → (∀ v ∈ ys, It [p] K H' v) → Q (.ref y) H') → te σ H Q) (hn : n ≤ 100) (hc : c ≤ 100) (hσ : 4 < σ.length) (k : ∀ f H', FS H0 p a K cs m (σ.set 4 (some (.ref f))) (n + c) H' → Grows H H' → Q (.ref f) H') : tOp rCat (tVar 4) te σ H Q := by
  obtain ⟨hP, b, gr, f, xs, e, hf, l, z, nf, na, nc, all⟩ := s
  refine ⟨_, e, h _ fun y vs H1 g ey l1 pr => ⟨f, y, xs, vs, rfl, rfl, g _ _ hf, ey, by rw [l, l1]; exact Nat.le_trans (Nat.add_le_add hn hc) (by decide), fun x hx => k x _ ?_ (g.trans (Grows.new hx))⟩⟩
  have g3 : Grows _ (upd H1 x (.lst (xs ++ vs))) := g.trans (Grows.new hx)
  have b2 := b.st _ _ g
  obtain ⟨o1, o2, o3⟩ := b2.off hx
  refine ⟨hP.same g3, b.st _ _ g3, gr.trans g3.gr, x, _, List.getElem?_set_self hσ, upd_same, by rw [List.length_append, l, l1], gr_none_back (gr.trans g.gr) o1 hx, o1, o2, o3, fun v hv => ?_⟩
  rcases List.mem_append.mp hv with q | q
  · exact (((all v q).show fun x hx => by rw [List.mem_singleton.mp hx]; exact List.mem_cons_of_mem _ (List.mem_singleton.mpr rfl)).grw (hid_grow g)).hide hx _
  · exact (pr v q).hide hx _
theorem app_h {te : TE} {n : Nat} {Dn : Ends} {H : Hp} (s : FS H0 p a K cs m σ n H) (h : ∀ f H Q, Base [f, p] a cs H → H0 f = none → Gr p H0 H → (∀ v H', Grows H H' → It [f, p] K H' v → Q v H') → te σ H Q) (hn : n ≤ 100) (k : ∀ H', FS H0 p a K cs m σ (n + 1) H' → Dn.nx σ H') : tDrop (tBM K "list" rAppend (tVar 4) (tCons te tNil)) Dn σ H := app_g (rest := tNext) s h hn k
theorem dsp7 {t : TA} {n : Nat} {rest : TS} {Dn : Ends} {Pr : Hp → V → Prop} {B : Hp → Prop} {H : Hp} (h : MkA Pr σ B t n) (hn : n ≤ 100) (b : B H) (k : ∀ x vs H1, Grows H H1 → H1 x = none → vs.length = n → (∀ v ∈ vs, Pr H1 v) → rest Dn (σ.set 7 (some (.ref x))) (upd H1 x (.lst vs))) : tSeq (tAsg (tLst t) (gName 7)) rest Dn σ H :=
  h H _ b fun vs H1 g l ps => ⟨by rw [l]; exact Nat.le_trans hn (by decide), fun x hx => k x vs H1 g hx l ps⟩
end
section
variable {p : List Addr} {a : Addr} {K : PySem.W.Frag} {cs : List (Addr × List Int)} {σ : L2.St}
theorem mk_wk {Pr : Hp → V → Prop} {B B' : Hp → Prop} {te : TE} (h : ∀ H, B' H → B H) (m : Mk Pr σ B te) : Mk Pr σ B' te := fun H Q b k => m H Q (h _ b) k
/-- what stands where the odd rows are made -/
structure BO (p : List Addr) (a : Addr) (cs : List (Addr × List Int)) (q : Addr) (row : List Int) (H : Hp) : Prop where
  b : Base p a cs H
  at_ : H q = some (.lst (row.map V.int))
  nq : q ∉ p
  ty : Tiny row
variable {q : Addr} {row : List Int}
theorem BO.st (H H' : Hp) (b : BO p a cs q row H) (g : Grows H H') : BO p a cs q row H' := ⟨b.b.st _ _ g, g _ _ b.at_, b.nq, b.ty⟩
theorem BO.fresh {H : Hp} (b : BO p a cs q row H) : Dv p K 1 147 H (.ref q) := dv_row b.at_ b.nq (by have := b.ty.1; omega) fun i hi => by have := b.ty.2 i hi; omega
theorem o_cons {n w c : Nat} {te : TE} {t : TA} (h1 : Mk (Dv p K n w) σ (BO p a cs q row) te) (h2 : MkA (Dv p K n w) σ (BO p a cs q row) t c) : MkA (Dv p K n w) σ (BO p a cs q row) (tCons te t) (c + 1) := mka_cons BO.st (dv_st n w) h1 h2
theorem o_of {n w : Nat} {te : TE} (h : Mk (Dv p K n w) σ (Base p a cs) te) (h1 : n ≤ 1 := by decide) (h2 : w ≤ 222 := by decide) : Mk (Dv p K 1 222) σ (BO p a cs q row) te := mk_wk (fun _ b => b.b) (mk_mono (fun _ _ x => x.le h1 h2) h)
theorem o_fresh (h3 : σ[3]? = some (some (.ref q))) : Mk (Dv p K 1 222) σ (BO p a cs q row) (tVar 3) := fun H Q b k => ⟨_, h3, k _ H .refl (b.fresh.le (by decide) (by decide))⟩
theorem at_nth {u : Int} {cs : List (Addr × List Int)} (u0 : 0 ≤ u) (u1 : u < cs.length) : ∃ c ∈ cs, atI (cs.map fun c => V.ref c.1) u = some (.ref c.1) := by
  have h : u.toNat < cs.length := by omega
  refine ⟨cs[u.toNat], List.getElem_mem h, ?_⟩
  have e := atI_nat (xs := cs.map fun c => V.ref c.1) (j := u.toNat) (v := .ref (cs[u.toNat]).1) (by rw [List.getElem?_map, List.getElem?_eq_getElem h]; rfl)
  rwa [Int.toNat_of_nonneg u0] at e
theorem cut_drop (xs : List V) {z : Int} (h : 0 ≤ z) : cutV xs (some z) none = xs.drop z.toNat := by
  have e := HT.sIx_nat xs.length 0 z.toNat
  rw [Int.toNat_of_nonneg h] at e
  unfold cutV
  rw [HT.sIx_none, e, List.take_of_length_le (by rw [List.length_drop]; omega)]
  by_cases q : z.toNat ≤ xs.length
  · rw [Nat.min_eq_left q]
  · rw [Nat.min_eq_right (by omega), List.drop_of_length_le (Nat.le_refl _), List.drop_of_length_le (by omega)]
theorem dv_cut {H : Hp} {x : Addr} {r : List Int} {lo hi : Option Int} (e : H x = some (.lst (cutV (r.map V.int) lo hi))) (np : x ∉ p) (t : Tiny r) : Dv p K 1 222 H (.ref x) :=
  (dv_list e np (fun v hv => dv_tinies (ns := r) (fun i hi => by have := t.2 i hi; omega) v (cutV_mem hv)) (by have := cutV_len (r.map V.int) lo hi; rw [List.length_map] at this; have := t.1; omega)).le (Nat.le_refl _) (by have := cutV_len (r.map V.int) lo hi; rw [List.length_map] at this; have := t.1; omega)
end
section
variable {p : List Addr} {a : Addr} {K : PySem.W.Frag} {cs : List (Addr × List Int)} {σ : L2.St} {q : Addr} {row : List Int}
theorem o_init {u : Int} (h1 : σ[1]? = some (some (.ref a))) (h6 : σ[6]? = some (some (.int u))) (u0 : 0 ≤ u) (u1 : u < cs.length) : Mk (Dv p K 1 222) σ (BO p a cs q row) (tSl (rSlL K) (tOp (rIxL K) (tVar 1) (tVar 6)) tNoPart (tPart (tUn (rU fun i => V.int (-i)) (tC (.int 1))))) := fun H Q b k => by
  obtain ⟨c, hc, ec⟩ := at_nth u0 u1
  exact ⟨_, h1, _, h6, a, _, u, _, rfl, rfl, SqL.of b.b.rl.top, ec, 1, rfl, -1, rfl, c.1, _, rfl, SqL.of (b.b.rl.each c hc), fun x hx => k _ _ (Grows.new hx) (dv_cut upd_same (b.b.new hx) (b.b.rows c hc))⟩
theorem o_plus {u mn : Int} (h1 : σ[1]? = some (some (.ref a))) (h6 : σ[6]? = some (some (.int u))) (h2 : σ[2]? = some (some (.int mn))) (n0 : 0 ≤ mn) (n20 : mn ≤ 20) (u0 : 0 ≤ u) (u1 : u < cs.length) : Mk (Dv p K 1 222) σ (BO p a cs q row) (tOp rCat (tOp (rIxL K) (tVar 1) (tVar 6)) (tLst (tCons (tVar 2) tNil))) := fun H Q b k => by
  obtain ⟨c, hc, ec⟩ := at_nth u0 u1
  have t := b.b.rows c hc
  refine ⟨_, h1, _, h6, a, _, u, _, rfl, rfl, SqL.of b.b.rl.top, ec, _, h2, (by show 1 ≤ sizeLine; decide), fun z hz => ⟨c.1, z, _, _, rfl, rfl, Grows.new hz _ _ (b.b.rl.each c hc), upd_same, ?_, fun x hx => k _ _ ((Grows.new hz).trans (Grows.new hx)) ?_⟩⟩
  · rw [List.length_map]
    exact Nat.le_trans (Nat.succ_le_succ t.1) (by decide)
  · refine (dv_row (r := c.2 ++ [mn]) (by rw [upd_same, List.map_append]; rfl) ((b.b.st _ _ (Grows.new hz)).new hx) (by rw [List.length_append]; have := t.1; show _ + 1 ≤ 21; omega) fun i hi => ?_).le (by decide) (by decide)
    rcases List.mem_append.mp hi with y | y
    · have := t.2 i y
      omega
    · rw [List.mem_singleton.mp y]
      omega
theorem o_more {u : Int} (h1 : σ[1]? = some (some (.ref a))) (h6 : σ[6]? = some (some (.int u))) (u0 : 0 ≤ u) (u1 : u < cs.length) : Mk (Dv p K 1 222) σ (BO p a cs q row) (tOp rCat (tOp (rIxL K) (tVar 1) (tVar 6)) (tSl (rSlL K) (tOp (rIxL K) (tVar 1) (tVar 6)) tNoPart (tPart (tC (.int 1))))) := fun H Q b k => by
  obtain ⟨c, hc, ec⟩ := at_nth u0 u1
  have t := b.b.rows c hc
  have cl : (cutV (c.2.map V.int) none (some 1)).length ≤ 1 := by
    rw [cut_take _ (by decide), List.length_take]
    exact Nat.min_le_left _ _
  refine ⟨_, h1, _, h6, a, _, u, _, rfl, rfl, SqL.of b.b.rl.top, ec, _, h1, _, h6, a, _, u, _, rfl, rfl, SqL.of b.b.rl.top, ec, 1, rfl, c.1, _, rfl, SqL.of (b.b.rl.each c hc), fun z hz => ⟨c.1, z, _, _, rfl, rfl, Grows.new hz _ _ (b.b.rl.each c hc), upd_same, ?_, fun x hx => k _ _ ((Grows.new hz).trans (Grows.new hx)) ?_⟩⟩
  · rw [List.length_map]
    have := t.1
    exact Nat.le_trans (by omega : _ ≤ 21) (by decide)
  · refine (dv_list (n := 0) (w := 6) upd_same ((b.b.st _ _ (Grows.new hz)).new hx) (fun v hv => dv_tinies (ns := c.2) (fun i hi => by have := t.2 i hi; omega) v ?_) ?_).le (Nat.le_refl _) ?_
    · rcases List.mem_append.mp hv with y | y
      · exact y
      · exact cutV_mem y
    · rw [List.length_append, List.length_map]
      have := t.1
      omega
    · rw [List.length_append, List.length_map]
      have := t.1
      omega
/-- lots[:spot] + [x] + lots[spot + 1:] -/
abbrev tMid (K : PySem.W.Frag) (i : Nat) : TE := tOp rCat (tOp rCat (tSl (rSlL K) (tVar 1) tNoPart (tPart (tVar 6))) (tLst (tCons (tVar i) tNil))) (tSl (rSlL K) (tVar 1) (tPart (tOp (rI0 fun i j => V.int (i + j)) (tVar 6) (tC (.int 1)))) tNoPart)
abbrev LsV (cs : List (Addr × List Int)) : List V := cs.map fun c => V.ref c.1
theorem mid {i : Nat} {v : V} {u : Int} {H : Hp} {Q : VK} (h1 : σ[1]? = some (some (.ref a))) (h6 : σ[6]? = some (some (.int u))) (hi : σ[i]? = some (some v)) (u0 : 0 ≤ u) (u1 : u < cs.length) (b : Base p a cs H) (k : ∀ y H', Grows H H' → H y = none → y ∉ p → H' y = some (.lst ((LsV cs).take u.toNat ++ [v] ++ (LsV cs).drop (u + 1).toNat)) → Q (.ref y) H') : tMid K i σ H Q := by
  have few := b.few
  refine ⟨_, h1, _, h6, u, rfl, a, _, rfl, SqL.of b.rl.top, fun x hx => ⟨_, hi, (by show 1 ≤ sizeLine; decide), fun z hz => ⟨x, z, _, _, rfl, rfl, Grows.new hz _ _ upd_same, upd_same, ?_, fun y1 hy1 => ?_⟩⟩⟩
  · rw [cut_take _ u0, List.length_take, List.length_map]
    exact Nat.le_trans (show _ ≤ 20 by show min _ _ + 1 ≤ 20; omega) (by decide)
  have g1 := (Grows.new (o := .lst (cutV (LsV cs) none (some u))) hx).trans ((Grows.new (o := .lst [v]) hz).trans (Grows.new (o := .lst (cutV (LsV cs) none (some u) ++ [v])) hy1))
  refine ⟨_, h1, _, h6, _, _, rfl, rfl, u + 1, rfl, a, _, rfl, SqL.of (b.st _ _ g1).rl.top, fun x2 hx2 => ⟨y1, x2, _, _, rfl, rfl, Grows.new hx2 _ _ upd_same, upd_same, ?_, fun y hy => k y _ (g1.trans ((Grows.new hx2).trans (Grows.new hy))) (none_back (g1.trans (Grows.new hx2)) hy) ((b.st _ _ (g1.trans (Grows.new hx2))).new hy) ?_⟩⟩
  · rw [cut_take _ u0, cut_drop _ (by omega), List.length_append, List.length_take, List.length_drop, List.length_map]
    exact Nat.le_trans (show _ ≤ 40 by show min _ _ + 1 + (_ - _) ≤ 40; omega) (by decide)
  · rw [upd_same, cut_take _ u0, cut_drop _ (by omega)]
theorem mid_len {v : V} {u : Int} (u0 : 0 ≤ u) (u1 : u < cs.length) (few : cs.length ≤ 19) : ((LsV cs).take u.toNat ++ [v] ++ (LsV cs).drop (u + 1).toNat).length ≤ 19 := by
  rw [List.length_append, List.length_append, List.length_take, List.length_drop, List.length_map]
  show min _ _ + 1 + (_ - _) ≤ 19
  omega
theorem mid_dv {v : V} {u : Int} {H : Hp} {y : Addr} (u0 : 0 ≤ u) (u1 : u < cs.length) (b : Base p a cs H) (pv : Dv p K 1 222 H v) (np : y ∉ p) (e : H y = some (.lst ((LsV cs).take u.toNat ++ [v] ++ (LsV cs).drop (u + 1).toNat))) : Dv p K 2 4460 H (.ref y) := by
  have l := mid_len (v := v) u0 u1 b.few
  refine (dv_list e np (n := 1) (w := 222) (fun w hw => ?_) (by omega)).le (Nat.le_refl _) (Nat.le_trans (Nat.mul_le_mul_right _ l) (by decide))
  rcases List.mem_append.mp hw with z | z
  · rcases List.mem_append.mp z with z | z
    · exact (b.all _ (List.mem_of_mem_take z)).le (by decide) (by decide)
    · rw [List.mem_singleton.mp z]
      exact pv
  · exact (b.all _ (List.mem_of_mem_drop z)).le (by decide) (by decide)
variable {s0 s2 s3 s4 s5 : Option V}
/-- [lots[:spot] + [lot] + lots[spot + 1:] for lot in odd] -/
theorem m_odd {x : Addr} {vs : List V} {u : Int} {H : Hp} {Q : VK} (u0 : 0 ≤ u) (u1 : u < cs.length) (b : Base p a cs H) (ex : H x = some (.lst vs)) (lv : vs.length = 8) (all : ∀ v ∈ vs, Dv p K 1 222 H v) (k : ∀ y ys H', Grows H H' → H' y = some (.lst ys) → ys.length = 8 → (∀ v ∈ ys, It p K H' v) → Q (.ref y) H') :
    tLc (iList K (tVar 7)) (gName 5) tYes (tMid K 5) [5] (σ8 a s0 s2 s3 s4 s5 (some (.int u)) (some (.ref x))) H Q := by
  refine ⟨_, rfl, x, rfl, ⟨_, SqL.of ex⟩, fun D hD => lc_listX (K := K) (fun _ y G => Dv p K 2 4460 (hid [D] G) y) (fun j y G G' g r => r.grw (hid_grow (hid_grow g))) (fun j y G zs r _ u => by rw [hid_upd (List.mem_singleton.mpr rfl)]; exact r) hD (SqL.of ex) (by rw [lv]; decide) (fun j v G Rk hv sm nD kR => ?_) fun G ys mx => ?_⟩
  · have vm := List.mem_of_getElem? hv
    have b1 : Base p a cs G := b.st _ _ sm
    refine ⟨rfl, mid (i := 5) rfl rfl rfl u0 u1 b1 fun y H4 g ny np ey => kR _ _ g ?_⟩
    have gh : Grows H (hid [D] H4) := fun c o e => (hid_at (fun z => ne_of_none e hD (List.mem_singleton.mp z))).trans (g _ _ (sm _ _ e))
    exact mid_dv u0 u1 (b.st _ _ gh) (dv_st _ _ _ _ v (all v vm) gh) np ((hid_at (new_off nD ny)).trans ey)
  · refine k _ _ _ mx.grow mx.top (mx.len.trans lv) fun v hv => .inl ?_
    obtain ⟨i, hi⟩ := List.getElem?_of_mem hv
    exact ((mx.rel i v hi).grw (hid_grow hid_le)).le (by decide) (by decide)
theorem cut_rows (i j : Nat) : (LsV cs).take i = (cs.take i).map (fun c => V.ref c.1) ∧ (LsV cs).drop j = (cs.drop j).map (fun c => V.ref c.1) := ⟨List.map_take.symm, List.map_drop.symm⟩
/-- sorted(lots[:spot] + [fresh] + lots[spot + 1:]) -/
theorem mid_sort {u : Int} {H : Hp} {Q : VK} (h1 : σ[1]? = some (some (.ref a))) (h6 : σ[6]? = some (some (.int u))) (h3 : σ[3]? = some (some (.ref q))) (u0 : 0 ≤ u) (u1 : u < cs.length) (b : BO p a cs q row H) (k : ∀ v H', Grows H H' → Dv p K 2 5624 H' v → Q v H') :
    tCB (fun xs H Q => ∃ (a : Addr) (bs : List (Addr × List Int)), xs = [V.ref a] ∧ SqL K H a (bs.map fun b => V.ref b.1) ∧ (∀ b ∈ bs, SqL K H b.1 (b.2.map V.int)) ∧
    ∀ p, H p = none → Q (.ref p) (upd H p (.lst ((bs.mergeSort rowLe).map fun b => V.ref b.1)))) (tCons (tMid K 3) tNil) σ H Q := by
  refine mid (i := 3) h1 h6 h3 u0 u1 b.b fun y H1 g ny np ey => ?_
  have b1 := b.st _ _ g
  obtain ⟨c1, c2⟩ := cut_rows (cs := cs) u.toNat (u + 1).toNat
  refine sort_mk (bs := cs.take u.toNat ++ [(q, row)] ++ cs.drop (u + 1).toNat) b1.b.live (by rw [ey, c1, c2, List.map_append, List.map_append]; rfl) (fun c hc => ?_) ?_ fun v H' g' d => k v H' (g.trans g') d
  · have old : c ∈ cs → H1 c.1 = some (.lst (c.2.map V.int)) ∧ c.1 ∉ p ∧ c.2.length ≤ 21 ∧ ∀ i ∈ c.2, i.natAbs ≤ 63 := fun m => ⟨b1.b.rl.each c m, b1.b.nes c m, by have := (b1.b.rows c m).1; omega, fun i hi => by have := (b1.b.rows c m).2 i hi; omega⟩
    rcases List.mem_append.mp hc with m | m
    · rcases List.mem_append.mp m with m | m
      · exact old (List.mem_of_mem_take m)
      · rw [List.mem_singleton.mp m]
        exact ⟨b1.at_, b1.nq, by have := b1.ty.1; show row.length ≤ 21; omega, fun i hi => by have := b1.ty.2 i hi; omega⟩
    · exact old (List.mem_of_mem_drop m)
  · have few := b.b.few
    rw [List.length_append, List.length_append, List.length_take, List.length_drop]
    show min _ _ + 1 + (_ - _) ≤ 38
    omega
/-- the eight odd rows -/
theorem odd8 {u mn : Int} (h1 : σ[1]? = some (some (.ref a))) (h6 : σ[6]? = some (some (.int u))) (h2 : σ[2]? = some (some (.int mn))) (h3 : σ[3]? = some (some (.ref q))) (n0 : 0 ≤ mn) (n20 : mn ≤ 20) (u0 : 0 ≤ u) (u1 : u < cs.length) : MkA (Dv p K 1 222) σ (BO p a cs q row) (tCons (tVar 3) (tCons (tSl (rSlL K) (tOp (rIxL K) (tVar 1) (tVar 6)) tNoPart (tPart (tUn (rU fun i => V.int (-i)) (tC (.int 1))))) (tCons (tOp rCat (tOp (rIxL K) (tVar 1) (tVar 6)) (tLst (tCons (tVar 2) tNil))) (tCons (tOp rCat (tOp (rIxL K) (tVar 1) (tVar 6)) (tSl (rSlL K) (tOp (rIxL K) (tVar 1) (tVar 6)) tNoPart (tPart (tC (.int 1))))) (tCons (tC .non) (tCons (tC (.int 0)) (tCons (tC (.str "0")) (tCons (tLst (tCons (tC .non) (tCons (tC (.int 1)) tNil))) tNil)))))))) 8 :=
  o_cons (o_fresh h3) (o_cons (o_init h1 h6 u0 u1) (o_cons (o_plus h1 h6 h2 n0 n20 u0 u1) (o_cons (o_more h1 h6 u0 u1) (o_cons (o_of m_non) (o_cons (o_of (m_int (smi (i := 0) (by decide)))) (o_cons (o_of m_0) (o_cons (o_of (m_lst (d_cons m_non (d_cons (m_int (smi (i := 1) (by decide))) mka_nil)))) mka_nil)))))))
end
end K01

namespace K01
open PySem PySem.Spec PyProof.Rows L2 SortR LcM RepA
abbrev sRight : Stmt := top 27
abbrev sAllR : Stmt := top 28
abbrev sThr : Stmt := top 29
abbrev sRows : Stmt := top 21
structure TxtW (mg : Str → Option Value) : Prop extends TxtP mg, Txt0 mg where
  repr : mg "repr" = none
  set : mg "set" = none
structure LawF (K : PySem.W.Frag) (mg : Str → Option Value) where
  Z : ProgF K mg
  T : TxtW mg
  (fPouch fDip fItems fFolk fPut fNest fLots fRows fLot fCrL fIsLot fIsNest fObj fRight fAllR fThr : Addr)
  (dPouch dDip dItems dFolk dPut dNest dLots dRows dLot dCrL dIsLot dIsNest dObj dRight dAllR dThr : FuncData)
  FPouch : Fun K "_law_pouch" "_law_pouch" sPouch fPouch dPouch
  FDip : Fun K "_law_dip" "_law_dip" sDip fDip dDip
  FItems : Fun K "_law_items" "_law_items" sItems fItems dItems
  FFolk : Fun K "_law_folk" "_law_folk" sFolk fFolk dFolk
  FPut : Fun K "_law_put" "_law_put" sPut fPut dPut
  FNest : Fun K "_law_nest" "_law_nest" sNest fNest dNest
  FLots : Fun K "_law_lots" "_law_lots" sLots fLots dLots
  FRows : Fun K "_law_rows" "_law_rows" sRows fRows dRows
  FLot : Fun K "_law_lot" "_law_lot" sLot fLot dLot
  FCrL : Fun K "_law_cross" "_law_cross" sCrL fCrL dCrL
  FIsLot : Fun K "_law_is_lot" "_law_is_lot" sIsLot fIsLot dIsLot
  FIsNest : Fun K "_law_is_nest" "_law_is_nest" sIsNest fIsNest dIsNest
  FObj : Fun K "_law_objects" "_law_objects" sObj fObj dObj
  FRight : Fun K "_law_right" "_law_right" sRight fRight dRight
  FAllR : Fun K "_law_all_right" "_law_all_right" sAllR fAllR dAllR
  FThr : Fun K "_law_threes_right" "_law_threes_right" sThr fThr dThr
  gPouch : mg "_law_pouch" = some (.ref fPouch)
  gDip : mg "_law_dip" = some (.ref fDip)
  gItems : mg "_law_items" = some (.ref fItems)
  gFolk : mg "_law_folk" = some (.ref fFolk)
  gPut : mg "_law_put" = some (.ref fPut)
  gNest : mg "_law_nest" = some (.ref fNest)
  gLots : mg "_law_lots" = some (.ref fLots)
  gRows : mg "_law_rows" = some (.ref fRows)
  gLot : mg "_law_lot" = some (.ref fLot)
  gCrL : mg "_law_cross" = some (.ref fCrL)
  gIsLot : mg "_law_is_lot" = some (.ref fIsLot)
  gIsNest : mg "_law_is_nest" = some (.ref fIsNest)
  gObj : mg "_law_objects" = some (.ref fObj)
  gRight : mg "_law_right" = some (.ref fRight)
  gAllR : mg "_law_all_right" = some (.ref fAllR)
  gThr : mg "_law_threes_right" = some (.ref fThr)
  bPouch : Binds K dPouch ["script", "at"] []
  bDip : Binds K dDip ["pouch", "wide"] []
  bItems : Binds K dItems ["pouch", "many"] []
  bFolk : Binds K dFolk ["nest"] []
  bPut : Binds K dPut ["nest", "item", "fresh"] []
  bNest : Binds K dNest ["items"] []
  bLots : Binds K dLots ["nest"] []
  bRows : Binds K dRows ["many"] []
  bLot : Binds K dLot ["pouch", "many"] []
  bCrL : Binds K dCrL ["lot", "rest"] []
  bIsLot : Binds K dIsLot ["many", "item"] []
  bIsNest : Binds K dIsNest ["item"] []
  bObj : Binds K dObj ["pouch", "lots"] []
  bRight : Binds K dRight ["pouch"] []
  bAllR : Binds K dAllR ["many"] []
  bThr : Binds K dThr [] []
  kbIs : KBinds K Z.dIs ["thing"] ["thing"] (fun us ws => us ++ ws) (fun vs zs => vs ++ zs)
section
variable {P : Program} {w : World} {K : PySem.W.Frag} {mg : Str → Option Value} {base : Heap}
theorem LawF.TD (W : LawF K mg) : TxtD mg W.fDip := ⟨W.T.toTxt0, W.gDip⟩
theorem LawF.pouch (W : LawF K mg) : FnOk P w K mg base CX0 1 W.fPouch W.dPouch ["script", "at"] (spPouch K) := ok_pouch W.FPouch W.T.toTxt0
theorem LawF.dip (W : LawF K mg) : FnOk P w K mg base CX0 1 W.fDip W.dDip ["pouch", "wide"] spDip := ok_dip W.FDip W.T.toTxt0
theorem LawF.items (W : LawF K mg) : FnOk P w K mg base CX0 2 W.fItems W.dItems ["pouch", "many"] spItems := ok_items W.FItems W.TD W.FDip W.bDip
theorem LawF.nest (W : LawF K mg) : FnOk P w K mg base CX0 23 W.fNest W.dNest ["items"] (spNest K) := ok_nest W.FNest W.T.toTxtP W.gPut W.FPut W.bPut (ok_put W.FPut W.T.toTxtP W.T.toTxt0 W.gPut W.bPut W.FFolk W.gFolk W.bFolk 19)
theorem LawF.lots (W : LawF K mg) : FnOk P w K mg base CX0 22 W.fLots W.dLots ["nest"] (spLots K 19) := ok_lots W.FLots W.T.toTxtP W.gLots W.bLots W.FFolk W.gFolk W.bFolk 19
theorem LawF.lot (W : LawF K mg) : FnOk P w K mg base CX0 2 W.fLot W.dLot ["pouch", "many"] spLot := ok_lot W.FLot W.T.toTxtP W.TD W.FDip W.bDip
theorem LawF.isNest (W : LawF K mg) : FnOk P w K mg base CX0 2 W.fIsNest W.dIsNest ["item"] (spIsNest K) := ok_isNest W.FIsNest W.T.toTxtP W.T.toTxt0 W.T.set W.FIsLot W.gIsLot W.bIsLot W.FCrL W.gCrL W.bCrL
theorem LawF.is (W : LawF K mg) : FnOk P w K mg base CX0 5 W.Z.fIs W.Z.dIs ["thing"] (spIsD K) := ok_isD W.Z W.T.toTxtP
end
theorem m_srt {p : List Addr} {a : Addr} {K : PySem.W.Frag} {cs : List (Addr × List Int)} {σ : L2.St} {n : Int} (h1 : σ[1]? = some (some (.ref a))) (h2 : σ[2]? = some (some (.int n))) (n0 : 0 ≤ n) (n20 : n ≤ 20) : Mk (Dv p K 2 5624) σ (Base p a cs) (tCB (fun xs H Q => ∃ (a : Addr) (bs : List (Addr × List Int)), xs = [V.ref a] ∧ SqL K H a (bs.map fun b => V.ref b.1) ∧ (∀ b ∈ bs, SqL K H b.1 (b.2.map V.int)) ∧
    ∀ p, H p = none → Q (.ref p) (upd H p (.lst ((bs.mergeSort rowLe).map fun b => V.ref b.1)))) (tCons (tOp rCat (tVar 1) (tLst (tCons (tLstRg (tRg1 (tOp (rI0 fun i j => V.int (i + j)) (tVar 2) (tC (.int 1))))) tNil))) tNil)) := fun H Q b k => by
  refine ⟨_, h1, _, h2, _, _, rfl, rfl, _, rfl, .of_le (by decide) (by omega) (by decide) (by omega), fun q hq => ⟨(by show 1 ≤ sizeLine; decide), fun z hz => ?_⟩⟩
  rw [rg_ints] at hz ⊢
  have tl : ∀ x ∈ (List.range (n + 1).toNat).map (fun i => (0 + (i : Nat) : Int)), x.natAbs ≤ 63 := fun x hx => by
    obtain ⟨j, hj, rfl⟩ := List.mem_map.mp hx
    have := List.mem_range.mp hj
    omega
  have ll : ((List.range (n + 1).toNat).map fun i => (0 + (i : Nat) : Int)).length ≤ 21 := by
    rw [List.length_map, List.length_range]
    omega
  generalize (List.range (n + 1).toNat).map (fun i => (0 + (i : Nat) : Int)) = r at hz tl ll ⊢
  have g1 := Grows.new (o := .lst (r.map V.int)) hq
  have g2 := g1.trans (Grows.new (o := .lst [V.ref q]) hz)
  have few := b.few
  refine ⟨a, z, _, _, rfl, rfl, g2 _ _ b.rl.top, upd_same, by rw [List.length_map]; exact Nat.le_trans (by show cs.length + 1 ≤ 20; omega) (by decide), fun y hy => ?_⟩
  have g3 := g2.trans (Grows.new (o := .lst ((cs.map fun c => V.ref c.1) ++ [V.ref q])) hy)
  have b3 := b.st _ _ g3
  exact sort_mk (bs := cs ++ [(q, r)]) b3.live (by rw [upd_same, List.map_append]; rfl) (fun c hc => by
    rcases List.mem_append.mp hc with m | m
    · exact ⟨b3.rl.each c m, b.nes c m, by have := (b.rows c m).1; omega, fun i hi => by have := (b.rows c m).2 i hi; omega⟩
    · rw [List.mem_singleton.mp m]
      exact ⟨((Grows.new hz).trans (Grows.new hy)) _ _ upd_same, b.new hq, ll, tl⟩) (by rw [List.length_append]; show cs.length + 1 ≤ 38; omega) fun v H' g d => k v H' (g3.trans g) d
def spObj (K : PySem.W.Frag) : Sp := fun vs H Q _ => ∃ (p a : Addr) (cs : List (Addr × List Int)) (m : Int), vs = [.ref p, .ref a] ∧ Pch H p m ∧ m < 2 ^ 49 ∧ Base [p] a cs H ∧
  ∀ (l : Addr) (vs : List V) (H' : Hp), Pch H' p (m + 100) → Gr p H H' → H l = none → H' l = some (.lst vs) → vs.length ≤ 60 → (∀ v ∈ vs, It [p] K H' v) → Q (.ref l) H'
section
variable {P : Program} {w : World} {K : PySem.W.Frag} {mg : Str → Option Value} {base : Heap}
theorem scObj : FnScope ["pouch", "lots", "many", "fresh", "found", "lot", "spot", "odd"] ["pouch", "lots"] (defScope sObj) := ⟨rfl, rfl, rfl, by decide +kernel, rfl, by decide +kernel, by decide +kernel⟩
theorem ok_obj (W : LawF K mg) : FnOk P w K mg base CX0 3 W.fObj W.dObj ["pouch", "lots"] (spObj K) := by
  have GDip : FnOk P w K mg base CX0 1 W.fDip W.dDip ["pouch", "wide"] spDip := W.dip
  have GLot : FnOk P w K mg base CX0 2 W.fLot W.dLot ["pouch", "many"] spLot := W.lot
  refine W.FObj.ok scObj (fun vs H Q E h => ?_) (fun cdv A outer s H vs Q E hr h => ?_)
  · obtain ⟨p, a, cs, m, rfl, _⟩ := h
    rfl
  · obtain ⟨p, a, cs, m, rfl, hP, hm, b0, k⟩ := h
    refine ⟨_, (pss_cons (ps_set (i := 2) scObj.nd rfl (.inl rfl) (pe_op op_add (pe_callB call_len_seq (by rfl) W.T.len (by decide +kernel) (pa_cons (pv 1) pa_nil)) pe_int))
      (pss_cons (ps_set (i := 3) scObj.nd rfl (.inl rfl) (pe_call GLot (hr.mono (by decide)) rfl W.gLot W.FLot.kp W.bLot .nil pass0 (pa_cons (pv 0) (pa_cons (pe_callB (call_max2 rfl) (by rfl) W.T.max (by decide +kernel) (pa_cons pe_int (pa_cons (pv 2) pa_nil))) pa_nil))))
      (pss_cons (ps_set (i := 4) scObj.nd rfl (.inl rfl) (pe_lst (pa_cons pe_non (pa_cons pe_bl (pa_cons pe_int (pa_cons pe_int (pa_cons pe_str (pa_cons pe_str (pa_cons pe_dnewK (pa_cons (pe_lst pa_nil) (pa_cons (pe_tup pa_nil) (pa_cons (pe_lst (pa_cons (pe_lst pa_nil) pa_nil)) (pa_cons (pe_lst (pa_cons (pe_lst (pa_cons pe_int pa_nil)) pa_nil)) (pa_cons (pe_lst (pa_cons pe_int pa_nil)) (pa_cons (pe_lst (pa_cons pe_non pa_nil)) (pa_cons (pe_lst (pa_cons (pe_lst (pa_cons pe_int (pa_cons pe_int pa_nil))) pa_nil)) (pa_cons (pe_lst (pa_cons (pe_tup (pa_cons pe_int (pa_cons pe_int pa_nil))) pa_nil)) (pa_cons (pe_tup (pa_cons (pe_lst (pa_cons pe_int (pa_cons pe_int pa_nil))) pa_nil)) (pa_cons (pe_lst (pa_cons (pe_lst (pa_cons pe_int (pa_cons pe_int pa_nil))) pa_nil)) pa_nil)))))))))))))))))))
      (pss_cons (ps_set (i := 4) scObj.nd rfl (.inl rfl) (pe_op op_cat (pv 4) (pe_lst (pa_cons (pe_lst (pa_cons (pe_lst (pa_cons pe_bl (pa_cons pe_bl pa_nil))) pa_nil)) (pa_cons (pe_lst (pa_cons (pe_lst (pa_cons pe_int (pa_cons pe_bl pa_nil))) pa_nil)) (pa_cons (pe_lst (pa_cons (pe_lst (pa_cons pe_str (pa_cons pe_str pa_nil))) pa_nil)) (pa_cons (pe_lst (pa_cons (pe_lst (pa_cons pe_int (pa_cons pe_int pa_nil))) (pa_cons (pe_lst (pa_cons pe_int (pa_cons pe_int pa_nil))) pa_nil))) (pa_cons (pe_lst (pa_cons (pe_lst (pa_cons pe_int (pa_cons pe_int pa_nil))) (pa_cons (pe_lst (pa_cons pe_int (pa_cons pe_int (pa_cons pe_int pa_nil)))) pa_nil))) (pa_cons (pe_lst (pa_cons (pe_lst (pa_cons pe_int (pa_cons pe_int (pa_cons pe_int pa_nil)))) pa_nil)) pa_nil)))))))))
      (pss_cons (ps_set (i := 4) scObj.nd rfl (.inl rfl) (pe_op op_cat (pv 4) (pe_lst (pa_cons (pe_lst (pa_cons (pe_lst (pa_cons pe_int (pa_cons pe_int pa_nil))) (pa_cons (pe_lst (pa_cons pe_int (pa_cons pe_int (pa_cons pe_int pa_nil)))) pa_nil))) (pa_cons (pe_lst (pa_cons (pe_lst (pa_cons pe_int (pa_cons pe_int (pa_cons pe_int pa_nil)))) (pa_cons (pe_lst (pa_cons pe_int (pa_cons pe_int pa_nil))) pa_nil))) (pa_cons (pe_lst (pa_cons (pe_lst (pa_cons pe_int (pa_cons pe_int (pa_cons pe_int pa_nil)))) (pa_cons (pe_lst (pa_cons pe_int (pa_cons pe_int pa_nil))) pa_nil))) (pa_cons (pe_lst (pa_cons (pe_lst (pa_cons (pe_un un_neg pe_int) (pa_cons pe_int pa_nil))) pa_nil)) (pa_cons (pe_lst (pa_cons (pe_lst (pa_cons pe_int (pa_cons (pe_op op_powW pe_int pe_int) pa_nil))) pa_nil)) pa_nil))))))))
      (pss_cons (ps_expr (pe_bm PySem.F.plainAttrs_list PySem.F.slot_list_append PySem.F.type_list_append mt_append (pv 4) (pa_cons (pe_lst (pa_cons (pe_lst (pa_cons pe_int (pa_cons pe_int pa_nil))) pa_nil)) pa_nil)))
      (pss_cons (ps_set (i := 4) scObj.nd rfl (.inl rfl) (pe_op op_cat (pv 4) (pe_lst (pa_cons (pe_lst (pa_cons (pe_lst (pa_cons pe_int (pa_cons pe_int pa_nil))) (pa_cons (pe_lst (pa_cons pe_int (pa_cons pe_int (pa_cons pe_int (pa_cons pe_int pa_nil))))) (pa_cons (pe_lst (pa_cons pe_int (pa_cons pe_int (pa_cons pe_int pa_nil)))) pa_nil)))) (pa_cons (pe_lst (pa_cons (pe_lst (pa_cons pe_int (pa_cons pe_int pa_nil))) (pa_cons (pe_lst (pa_cons pe_int (pa_cons pe_int (pa_cons pe_int (pa_cons pe_int pa_nil))))) (pa_cons (pe_lst (pa_cons pe_int (pa_cons pe_int pa_nil))) pa_nil)))) (pa_cons (pe_lst (pa_cons (pe_lst (pa_cons pe_int (pa_cons pe_int pa_nil))) (pa_cons (pe_lst (pa_cons pe_int (pa_cons pe_int (pa_cons pe_int (pa_cons pe_int pa_nil))))) (pa_cons (pe_lst (pa_cons pe_int (pa_cons pe_int pa_nil))) pa_nil)))) pa_nil))))))
      (pss_cons (ps_set (i := 4) scObj.nd rfl (.inl rfl) (pe_op op_cat (pv 4) (pe_lst (pa_cons (pe_rev (pv 1)) (pa_cons (pe_op op_cat (pv 1) (pe_slice (r := rSlL K) (by exact sl_list) (pv 1) po_none (po_some pe_int))) (pa_cons (pe_slice (r := rSlL K) (by exact sl_list) (pv 1) (po_some pe_int) po_none) (pa_cons (pe_slice (r := rSlL K) (by exact sl_list) (pv 1) po_none (po_some (pe_un un_neg pe_int))) (pa_cons (pe_callTy call_tuple_of (by rfl) W.T.tuple (by decide +kernel) (pa_cons (pv 1) pa_nil)) (pa_cons (pe_op op_rep (pv 1) pe_int) pa_nil)))))))))
      (pss_cons (ps_expr (pe_bm PySem.F.plainAttrs_list PySem.F.slot_list_append PySem.F.type_list_append mt_append (pv 4) (pa_cons (pe_lc (own := [("lot", 5)]) (g := gName 5) (tt := tYes) rfl scObj.nd (pi_list (pv 1)) (blkOk_by (own := [("lot", 5)]) (N := ["pouch", "lots", "many", "fresh", "found", "lot", "spot", "odd"]) (sc := defScope sObj) (by decide +kernel)) (fun _ _ _ _ _ => pg_name (i := 5) scObj.nd rfl (Or.inl rfl)) (fun _ _ _ _ _ => pts_nil) (fun _ _ _ _ _ => (pe_callTy (T := "tuple") (r := rTup K) (by exact call_tupK) (by rfl) W.T.tuple (by decide +kernel) (pa_cons (pv 5) pa_nil)))) pa_nil)))
      (pss_cons (ps_set (i := 4) scObj.nd rfl (.inl rfl) (pe_op op_cat (pv 4) (pe_lst (pa_cons (pe_callB (call_sortedR hr.units) (by rfl) W.T.sorted (by decide +kernel) (pa_cons (pe_op op_cat (pv 1) (pe_lst (pa_cons (pe_listRg rfl (by rfl) W.T.list (prg_1 (by rfl) W.T.range (pe_op op_add (pv 2) pe_int))) pa_nil))) pa_nil)) (pa_cons (pe_lc (te := tRev K (tVar 5)) (own := [("lot", 5)]) (g := gName 5) (tt := tYes) rfl scObj.nd (pi_list (pv 1)) (blkOk_by (own := [("lot", 5)]) (N := ["pouch", "lots", "many", "fresh", "found", "lot", "spot", "odd"]) (sc := defScope sObj) (by decide +kernel)) (fun _ _ _ _ _ => pg_name (i := 5) scObj.nd rfl (Or.inl rfl)) (fun _ _ _ _ _ => pts_nil) (fun _ _ _ _ _ => (pe_rev (pv 5)))) (pa_cons (pe_op op_cat (pv 1) (pe_lst (pa_cons pe_non pa_nil))) (pa_cons (pe_lst (pa_cons (pv 1) pa_nil)) pa_nil)))))))
      (pss_cons (ps_if (pt_cmpR (op_neD hr.units) (pv 1) (pe_lst pa_nil) (nomark _)) (pss_cons (ps_set (i := 6) scObj.nd rfl (.inr rfl) (pe_call GDip (hr.mono (by decide)) rfl W.gDip W.FDip.kp W.bDip .nil pass0 (pa_cons (pv 0) (pa_cons (pe_callB call_len_seq (by rfl) W.T.len (by decide +kernel) (pa_cons (pv 1) pa_nil)) pa_nil))))
      (pss_cons (ps_set (i := 7) scObj.nd rfl (.inl rfl) (pe_lst (pa_cons (pv 3) (pa_cons (pe_slice (r := rSlL K) (by exact sl_list) (pe_ix (r := rIxL K) ix_list (pv 1) (pv 6) (fun _ _ => rfl)) po_none (po_some (pe_un un_neg pe_int))) (pa_cons (pe_op op_cat (pe_ix (r := rIxL K) ix_list (pv 1) (pv 6) (fun _ _ => rfl)) (pe_lst (pa_cons (pv 2) pa_nil))) (pa_cons (pe_op op_cat (pe_ix (r := rIxL K) ix_list (pv 1) (pv 6) (fun _ _ => rfl)) (pe_slice (r := rSlL K) (by exact sl_list) (pe_ix (r := rIxL K) ix_list (pv 1) (pv 6) (fun _ _ => rfl)) po_none (po_some pe_int))) (pa_cons pe_non (pa_cons pe_int (pa_cons pe_str (pa_cons (pe_lst (pa_cons pe_non (pa_cons pe_int pa_nil))) pa_nil))))))))))
      (pss_cons (ps_set (i := 4) scObj.nd rfl (.inl rfl) (pe_op op_cat (pv 4) (pe_lc (own := [("lot", 5)]) (g := gName 5) (tt := tYes) rfl scObj.nd (pi_list (pv 7)) (blkOk_by (own := [("lot", 5)]) (N := ["pouch", "lots", "many", "fresh", "found", "lot", "spot", "odd"]) (sc := defScope sObj) (by decide +kernel)) (fun _ _ _ _ _ => pg_name (i := 5) scObj.nd rfl (Or.inl rfl)) (fun _ _ _ _ _ => pts_nil) (fun _ _ _ _ _ => (pe_op op_cat (pe_op op_cat (pe_slice (r := rSlL K) (by exact sl_list) (pv 1) po_none (po_some (pv 6))) (pe_lst (pa_cons (pv 5) pa_nil))) (pe_slice (r := rSlL K) (by exact sl_list) (pv 1) (po_some (pe_op op_add (pv 6) pe_int)) po_none))))))
      (pss_one (ps_expr (pe_bm PySem.F.plainAttrs_list PySem.F.slot_list_append PySem.F.type_list_append mt_append (pv 4) (pa_cons (pe_callB (call_sortedR hr.units) (by rfl) W.T.sorted (by decide +kernel) (pa_cons (pe_op op_cat (pe_op op_cat (pe_slice (r := rSlL K) (by exact sl_list) (pv 1) po_none (po_some (pv 6))) (pe_lst (pa_cons (pv 3) pa_nil))) (pe_slice (r := rSlL K) (by exact sl_list) (pv 1) (po_some (pe_op op_add (pv 6) pe_int)) po_none)) pa_nil)) pa_nil))))))) pss_nil)
      (pss_one (ps_ret (pe_op op_cat (pv 4) (pe_lst (pa_cons (pe_lc (own := [("many", 2)]) (g := gName 2) (tt := tYes) rfl scObj.nd (pi_range2 (by rfl) W.T.range (pa_cons pe_int (pa_cons pe_int pa_nil))) (blkOk_by (own := [("many", 2)]) (N := ["pouch", "lots", "many", "fresh", "found", "lot", "spot", "odd"]) (sc := defScope sObj) (by decide +kernel)) (fun _ _ _ _ _ => pg_name (i := 2) scObj.nd rfl (Or.inl rfl)) (fun _ _ _ _ _ => pts_nil) (fun _ _ _ _ _ => (pe_listRg rfl (by rfl) W.T.list (prg_1 (by rfl) W.T.range (pv 2))))) (pa_cons (pe_lc (own := [("many", 2)]) (g := gName 2) (tt := tYes) rfl scObj.nd (pi_range2 (by rfl) W.T.range (pa_cons pe_int (pa_cons pe_int pa_nil))) (blkOk_by (own := [("many", 2)]) (N := ["pouch", "lots", "many", "fresh", "found", "lot", "spot", "odd"]) (sc := defScope sObj) (by decide +kernel)) (fun _ _ _ _ _ => pg_name (i := 2) scObj.nd rfl (Or.inl rfl)) (fun _ _ _ _ _ => pts_nil) (fun _ _ _ _ _ => (pe_listRg rfl (by rfl) W.T.list (prg_1 (by rfl) W.T.range (pv 2))))) pa_nil))))))))))))))))), ?_⟩
    have few := b0.few
    have ap : a ≠ p := fun z => b0.ne (by rw [z]; exact List.mem_singleton.mpr rfl)
    have cp : ∀ c ∈ cs, c.1 ≠ p := fun c hc z => b0.nes c hc (by rw [z]; exact List.mem_singleton.mpr rfl)
    refine ⟨_, rfl, a, _, rfl, .inl (SqL.of b0.rl.top), _, _, rfl, rfl, ?_⟩
    rw [List.length_map]
    obtain ⟨M, eM, M2, M20⟩ : ∃ M : Int, (if ((cs.length : Nat) : Int) + 1 > 2 then ((cs.length : Nat) : Int) + 1 else 2) = M ∧ 2 ≤ M ∧ M ≤ 20 := ⟨_, rfl, by split <;> omega, by split <;> omega⟩
    refine ⟨_, rfl, _, rfl, _, _, rfl, p, M, m, by rw [eM]; rfl, hP, by omega, M2, M20, fun q r H1 row hP1 g1 nq eq => ?_⟩
    have qp : q ≠ p := fun z => by rw [z] at nq; exact pch_ne hP nq rfl
    have b1 : Base [p] a cs H1 := ⟨⟨g1 _ _ ap b0.rl.top, fun c hc => g1 _ _ (cp c hc) (b0.rl.each c hc)⟩, b0.ne, b0.nes, fun h hh z => by
      rw [List.mem_singleton.mp hh] at z
      exact pch_ne hP1 z rfl, b0.few, b0.rows⟩
    have few' : (cs.length : Int) + 1 ≤ 20 := by omega
    refine disp_s (K := K) (H0 := H1) (n := 17) (i_cons (it_of m_non) (i_cons (it_of (m_bl true)) (i_cons (it_of (m_int (smi (i := 0) (by decide)))) (i_cons (it_of (m_int (smi (i := 1) (by decide)))) (i_cons (it_of m_e) (i_cons (it_of m_0) (i_cons it_dict (i_cons (it_of (m_lst (n := 0) (w := 110) mka_nil)) (i_cons (it_of (m_tup (n := 0) (w := 110) mka_nil)) (i_cons (it_of (m_lst (d_cons (n := 1) (w := 0) (m_lst (n := 0) (w := 110) mka_nil) mka_nil))) (i_cons (it_of (m_lst (d_cons (n := 1) (w := 111) (m_lst (d_cons (n := 0) (w := 110) (m_int (smi (i := 0) (by decide))) mka_nil)) mka_nil))) (i_cons (it_of (m_lst (d_cons (n := 0) (w := 110) (m_int (smi (i := 0) (by decide))) mka_nil))) (i_cons (it_of (m_lst (d_cons (n := 0) (w := 110) m_non mka_nil))) (i_cons (it_of (m_lst (d_cons (n := 1) (w := 222) (m_lst (d_cons (n := 0) (w := 110) (m_int (smi (i := 0) (by decide))) (d_cons (n := 0) (w := 110) (m_int (smi (i := 1) (by decide))) mka_nil))) mka_nil))) (i_cons (it_of (m_lst (d_cons (n := 1) (w := 222) (m_tup (d_cons (n := 0) (w := 110) (m_int (smi (i := 0) (by decide))) (d_cons (n := 0) (w := 110) (m_int (smi (i := 1) (by decide))) mka_nil))) mka_nil))) (i_cons (it_of (m_tup (d_cons (n := 1) (w := 222) (m_lst (d_cons (n := 0) (w := 110) (m_int (smi (i := 0) (by decide))) (d_cons (n := 0) (w := 110) (m_int (smi (i := 1) (by decide))) mka_nil))) mka_nil))) (i_cons (it_of (m_lst (d_cons (n := 1) (w := 222) (m_lst (d_cons (n := 0) (w := 110) (m_int (smi (i := 1) (by decide))) (d_cons (n := 0) (w := 110) (m_int (smi (i := 0) (by decide))) mka_nil))) mka_nil))) mka_nil))))))))))))))))) (by decide) hP1 .refl b1 (by show 4 < 8; decide) fun f1 G1 S1 => ?_
    refine cat_s S1 (c := 6) (i_cons (it_of (m_lst (d_cons (n := 1) (w := 222) (m_lst (d_cons (n := 0) (w := 110) (m_bl false) (d_cons (n := 0) (w := 110) (m_bl true) mka_nil))) mka_nil))) (i_cons (it_of (m_lst (d_cons (n := 1) (w := 222) (m_lst (d_cons (n := 0) (w := 110) (m_int (smi (i := 0) (by decide))) (d_cons (n := 0) (w := 110) (m_bl true) mka_nil))) mka_nil))) (i_cons (it_of (m_lst (d_cons (n := 1) (w := 222) (m_lst (d_cons (n := 0) (w := 110) m_0 (d_cons (n := 0) (w := 110) m_1 mka_nil))) mka_nil))) (i_cons (it_of (m_lst (d_cons (n := 1) (w := 222) (m_lst (d_cons (n := 0) (w := 110) (m_int (smi (i := 0) (by decide))) (d_cons (n := 0) (w := 110) (m_int (smi (i := 1) (by decide))) mka_nil))) (d_cons (n := 1) (w := 222) (m_lst (d_cons (n := 0) (w := 110) (m_int (smi (i := 0) (by decide))) (d_cons (n := 0) (w := 110) (m_int (smi (i := 1) (by decide))) mka_nil))) mka_nil)))) (i_cons (it_of (m_lst (d_cons (n := 1) (w := 333) (d_of (m_lst (d_cons (n := 0) (w := 110) (m_int (smi (i := 0) (by decide))) (d_cons (n := 0) (w := 110) (m_int (smi (i := 1) (by decide))) mka_nil)))) (d_cons (n := 1) (w := 333) (m_lst (d_cons (n := 0) (w := 110) (m_int (smi (i := 0) (by decide))) (d_cons (n := 0) (w := 110) (m_int (smi (i := 1) (by decide))) (d_cons (n := 0) (w := 110) (m_int (smi (i := 2) (by decide))) mka_nil)))) mka_nil)))) (i_cons (it_of (m_lst (d_cons (n := 1) (w := 333) (m_lst (d_cons (n := 0) (w := 110) (m_int (smi (i := 0) (by decide))) (d_cons (n := 0) (w := 110) (m_int (smi (i := 1) (by decide))) (d_cons (n := 0) (w := 110) (m_int (smi (i := 2) (by decide))) mka_nil)))) mka_nil))) mka_nil)))))) (by decide) (by decide) (by show 4 < 8; decide) fun f2 G2 S2 => ?_
    refine cat_s S2 (c := 5) (i_cons (it_of (m_lst (d_cons (n := 1) (w := 333) (d_of (m_lst (d_cons (n := 0) (w := 110) (m_int (smi (i := 0) (by decide))) (d_cons (n := 0) (w := 110) (m_int (smi (i := 2) (by decide))) mka_nil)))) (d_cons (n := 1) (w := 333) (m_lst (d_cons (n := 0) (w := 110) (m_int (smi (i := 0) (by decide))) (d_cons (n := 0) (w := 110) (m_int (smi (i := 1) (by decide))) (d_cons (n := 0) (w := 110) (m_int (smi (i := 2) (by decide))) mka_nil)))) mka_nil)))) (i_cons (it_of (m_lst (d_cons (n := 1) (w := 333) (m_lst (d_cons (n := 0) (w := 110) (m_int (smi (i := 0) (by decide))) (d_cons (n := 0) (w := 110) (m_int (smi (i := 1) (by decide))) (d_cons (n := 0) (w := 110) (m_int (smi (i := 2) (by decide))) mka_nil)))) (d_cons (n := 1) (w := 333) (d_of (m_lst (d_cons (n := 0) (w := 110) (m_int (smi (i := 0) (by decide))) (d_cons (n := 0) (w := 110) (m_int (smi (i := 2) (by decide))) mka_nil)))) mka_nil)))) (i_cons (it_of (m_lst (d_cons (n := 1) (w := 333) (m_lst (d_cons (n := 0) (w := 110) (m_int (smi (i := 0) (by decide))) (d_cons (n := 0) (w := 110) (m_int (smi (i := 1) (by decide))) (d_cons (n := 0) (w := 110) (m_int (smi (i := 2) (by decide))) mka_nil)))) (d_cons (n := 1) (w := 333) (d_of (m_lst (d_cons (n := 0) (w := 110) (m_int (smi (i := 1) (by decide))) (d_cons (n := 0) (w := 110) (m_int (smi (i := 2) (by decide))) mka_nil)))) mka_nil)))) (i_cons (it_of (m_lst (d_cons (n := 1) (w := 222) (m_lst (d_cons (n := 0) (w := 110) (m_neg (i := 1) (smi (by decide))) (d_cons (n := 0) (w := 110) (m_int (smi (i := 0) (by decide))) mka_nil))) mka_nil))) (i_cons (it_of (m_lst (d_cons (n := 1) (w := 222) (m_lst (d_cons (n := 0) (w := 110) (m_int (smi (i := 0) (by decide))) (d_cons (n := 0) (w := 110) m_big mka_nil))) mka_nil))) mka_nil))))) (by decide) (by decide) (by show 4 < 8; decide) fun f3 G3 S3 => ?_
    refine app_s S3 (fun hs => (it_of (m_lst (d_cons (n := 1) (w := 222) (m_lst (d_cons (n := 0) (w := 110) (m_int (smi (i := 0) (by decide))) (d_cons (n := 0) (w := 110) (m_int (smi (i := 2) (by decide))) mka_nil))) mka_nil)))) (by decide) fun G4 S4 => ?_
    refine cat_s S4 (c := 3) (i_cons (it_of (m_lst (d_cons (n := 1) (w := 444) (d_of (m_lst (d_cons (n := 0) (w := 110) (m_int (smi (i := 0) (by decide))) (d_cons (n := 0) (w := 110) (m_int (smi (i := 1) (by decide))) mka_nil)))) (d_cons (n := 1) (w := 444) (m_lst (d_cons (n := 0) (w := 110) (m_int (smi (i := 0) (by decide))) (d_cons (n := 0) (w := 110) (m_int (smi (i := 1) (by decide))) (d_cons (n := 0) (w := 110) (m_int (smi (i := 2) (by decide))) (d_cons (n := 0) (w := 110) (m_int (smi (i := 3) (by decide))) mka_nil))))) (d_cons (n := 1) (w := 444) (d_of (m_lst (d_cons (n := 0) (w := 110) (m_int (smi (i := 0) (by decide))) (d_cons (n := 0) (w := 110) (m_int (smi (i := 1) (by decide))) (d_cons (n := 0) (w := 110) (m_int (smi (i := 3) (by decide))) mka_nil))))) mka_nil))))) (i_cons (it_of (m_lst (d_cons (n := 1) (w := 444) (d_of (m_lst (d_cons (n := 0) (w := 110) (m_int (smi (i := 0) (by decide))) (d_cons (n := 0) (w := 110) (m_int (smi (i := 1) (by decide))) mka_nil)))) (d_cons (n := 1) (w := 444) (m_lst (d_cons (n := 0) (w := 110) (m_int (smi (i := 0) (by decide))) (d_cons (n := 0) (w := 110) (m_int (smi (i := 1) (by decide))) (d_cons (n := 0) (w := 110) (m_int (smi (i := 2) (by decide))) (d_cons (n := 0) (w := 110) (m_int (smi (i := 3) (by decide))) mka_nil))))) (d_cons (n := 1) (w := 444) (d_of (m_lst (d_cons (n := 0) (w := 110) (m_int (smi (i := 2) (by decide))) (d_cons (n := 0) (w := 110) (m_int (smi (i := 3) (by decide))) mka_nil)))) mka_nil))))) (i_cons (it_of (m_lst (d_cons (n := 1) (w := 444) (d_of (m_lst (d_cons (n := 0) (w := 110) (m_int (smi (i := 0) (by decide))) (d_cons (n := 0) (w := 110) (m_int (smi (i := 1) (by decide))) mka_nil)))) (d_cons (n := 1) (w := 444) (m_lst (d_cons (n := 0) (w := 110) (m_int (smi (i := 0) (by decide))) (d_cons (n := 0) (w := 110) (m_int (smi (i := 1) (by decide))) (d_cons (n := 0) (w := 110) (m_int (smi (i := 2) (by decide))) (d_cons (n := 0) (w := 110) (m_int (smi (i := 3) (by decide))) mka_nil))))) (d_cons (n := 1) (w := 444) (d_of (m_lst (d_cons (n := 0) (w := 110) (m_int (smi (i := 1) (by decide))) (d_cons (n := 0) (w := 110) (m_int (smi (i := 2) (by decide))) mka_nil)))) mka_nil))))) mka_nil))) (by decide) (by decide) (by show 4 < 8; decide) fun f5 G5 S5 => ?_
    refine cat_s S5 (c := 6) (i_cons (it_of (m_rev (by rfl))) (i_cons (it_of (m_more (by rfl))) (i_cons (it_of (m_tail (by rfl))) (i_cons (it_of (m_init (by rfl))) (i_cons (it_of (m_tuple (by rfl))) (i_cons (it_of (m_twice (by rfl))) mka_nil)))))) (by decide) (by decide) (by show 4 < 8; decide) fun f6 G6 S6 => ?_
    refine app_s S6 (fun hs => (it_of m_lcT)) (by decide) fun G7 S7 => ?_
    refine cat_s S7 (c := 4) (i_cons (it_of (m_srt (by rfl) (by rfl) (by omega) (by omega))) (i_cons (it_of m_lcR) (i_cons (it_of (m_cat (by rfl) m_non)) (i_cons (it_of (m_one (by rfl))) mka_nil)))) (by decide) (by decide) (by show 4 < 8; decide) fun f8 G8 S8 => ?_
    have out : ∀ l vs G, Pch G p (m + 31) → Gr p H1 G → H1 l = none → G l = some (.lst vs) → vs.length ≤ 60 → (∀ v ∈ vs, It [p] K G v) → Q (.ref l) G := fun l vs G e0 e1 e2 e3 e4 e5 => k l vs G (e0.le (by omega)) (g1.trans e1) (gr_none g1 e2 (fun z => by rw [z] at e2; exact pch_ne hP1 e2 rfl)) e3 e4 e5
    refine ⟨_, rfl, (by show 0 ≤ sizeLine; decide), fun z hz => ?_⟩
    have gz := Grows.new (o := .lst []) hz
    have S9 := S8.grow gz
    have ez : (upd G8 z (.lst [])) z = some (.lst []) := upd_same
    generalize upd G8 z (.lst []) = G9 at S9 gz ez
    have fin : ∀ (τ : L2.St) (n : Nat) (G : Hp) (s0 s2 s3 s5 s6 s7 : Option V) (f : Addr), τ = σ8 a s0 s2 s3 (some (.ref f)) s5 s6 s7 → FS H1 p a K cs (m + 31) τ n G → n ≤ 58 → tOp rCat (tVar 4) (tLst (tCons (tLc (iRng2 (tCons (tC (.int 2)) (tCons (tC (.int 22)) tNil))) (gName 2) tYes (tLstRg (tRg1 (tVar 2))) [2]) (tCons (tLc (iRng2 (tCons (tC (.int 2)) (tCons (tC (.int 21)) tNil))) (gName 2) tYes (tLstRg (tRg1 (tVar 2))) [2]) tNil))) τ G Q := fun τ n G s0 s2 s3 s5 s6 s7 f eτ S hn => by
      subst eτ
      refine cat_q S (c := 2) (lst_g (i_cons (it_of (m_chain (n := 20) rfl (by decide))) (i_cons (it_of (m_chain (n := 19) rfl (by decide))) mka_nil)) (by decide)) (by omega) (by decide) (by show 4 < 8; decide) fun x X SX => ?_
      obtain ⟨hP', b', gr', x', xs', e', hf', l', z', nf', na', nc', all'⟩ := SX
      have ex : x = x' := by
        have : some (some (V.ref x)) = some (some (V.ref x')) := e'
        cases this
        rfl
      subst ex
      exact out _ xs' _ hP' gr' z' hf' (by omega) fun v hv => (all' v hv).show fun y hy => by rw [List.mem_singleton.mp hy]; exact List.mem_cons_of_mem _ (List.mem_singleton.mpr rfl)
    refine ⟨.list ((cs.map fun c : Addr × List Int => c.2).map fun r => .list (r.map .int)), .list [], .lst (SqL.of S9.base.rl.top) (rows_data fun c hc => SqL.of (S9.base.rl.each c hc)), .lst (SqL.of ez) .nil, shaped_rows _, shaped_all (fun _ h => nomatch h), _, rfl, ?_⟩
    rw [eqv_nil]
    by_cases hne : cs = []
    · rw [decide_eq_true (by rw [hne]; rfl)]
      refine iteF ?_
      exact fin _ 43 _ _ _ _ _ _ _ f8 rfl ⟨S9.pch.le (by omega), S9.base, S9.gr, S9.fd⟩ (by decide)
    · rw [decide_eq_false (fun z => hne (List.map_eq_nil_iff.mp (List.map_eq_nil_iff.mp z)))]
      refine iteT ?_
      have ty : Tiny r := ⟨by have := up_len r 0 row.up row.rng; omega, fun i hi => by have := row.rng i hi; omega⟩
      have cpos : 0 < cs.length := List.length_pos_iff.mpr hne
      refine ⟨_, rfl, _, rfl, a, _, rfl, .inl (SqL.of S9.base.rl.top), p, _, _, rfl, S9.pch, by omega, by rw [List.length_map]; omega, by rw [List.length_map]; exact Nat.lt_of_le_of_lt (show _ ≤ 19 by omega) (by decide), fun u G10 u0 u1 hP10 but => ?_⟩
      rw [List.length_map] at u1
      have S10 := S9.dip hP10 but
      have hq10 : G10 q = some (.lst (r.map V.int)) := S10.gr q _ qp eq
      refine dsp7 (odd8 (K := K) (mn := (cs.length : Int) + 1) (by rfl) (by rfl) (by rfl) (by rfl) (by omega) (by omega) u0 u1) (by decide) (⟨S10.base, hq10, fun z => qp (List.mem_singleton.mp z), ty⟩ : BO [p] a cs q r G10) fun x vs G11 g11 hx l ps => ?_
      have gx := Grows.new (o := .lst vs) hx
      have S12 := (S10.grow (g11.trans gx))
      have ps12 := fun v hv => dv_st _ _ _ _ v (ps v hv) gx
      have ex : (upd G11 x (.lst vs)) x = some (.lst vs) := upd_same
      generalize upd G11 x (.lst vs) = G12 at S12 ps12 ex
      refine cat_h (S12.slot (by rfl)) (fun Q' kk => m_odd u0 u1 S12.base ex l ps12 kk) (by decide) (c := 8) (by decide) (by show 4 < 8; decide) fun f13 G13 S13 g13 => ?_
      refine app_h S13 (fun f H Q b hf g k => mid_sort (q := q) (row := r) (by rfl) (by rfl) (by rfl) u0 u1 ⟨b, g q _ qp eq, fun z => by
        rcases List.mem_cons.mp z with z | z
        · rw [z, hf] at eq
          cases eq
        · exact qp (List.mem_singleton.mp z), ty⟩ fun v H' g' d => k v H' g' (.inl (d.le (by decide) (by decide)))) (by decide) fun G14 S14 => ?_
      exact fin _ 52 _ _ _ _ _ _ _ f13 rfl ⟨S14.pch.le (by omega), S14.base, S14.gr, S14.fd⟩ (by decide)
end
end K01

namespace K01
open PySem PySem.Spec PyProof.Rows L2 SortR LcM RepA
/-! ### what the judged objects are, as data -/
structure OkE (d : PyData) : Prop where
  sh : d.showable = true
  dp : d.depth ≤ 3
  lv : PyData.leavesShort 40 d = true
  wt : d.weight ≤ 6000
theorem oke_dict : OkE (.dict []) := ⟨by decide +kernel, by decide +kernel, by decide +kernel, by decide +kernel⟩
theorem lay_mem : ∀ {ds : List PyData}, PyData.canLayAll0 ds = true → ∀ e ∈ ds, e.canLay0 = true ∧ e.depth ≤ PyData.depthAll ds
  | [], _, _, h => nomatch h
  | d :: ds, h, e, he => by
    simp only [PyData.canLayAll0, Bool.and_eq_true] at h
    have hd : PyData.depthAll (d :: ds) = max d.depth (PyData.depthAll ds) := by simp only [PyData.depthAll]
    rw [hd]
    rcases List.mem_cons.mp he with z | z
    · subst z
      exact ⟨h.1, Nat.le_max_left _ _⟩
    · obtain ⟨a, b⟩ := lay_mem h.2 e z
      exact ⟨a, Nat.le_trans b (Nat.le_max_right _ _)⟩
theorem wt_len : ∀ ds : List PyData, ds.length ≤ PyData.weightAll ds
  | [] => Nat.zero_le _
  | d :: ds => by
    have := wt_len ds
    simp only [PyData.weightAll, List.length_cons]
    omega
theorem okd_fin1 {d : PyData} (h : sh60 d = true) (l : d.canLay0 = true) (p : d.depth ≤ 3) : Fin1 d := by
  rintro ds rfl
  rw [sh60, Bool.and_eq_true] at h
  simp only [PyData.canLay0] at l
  simp only [PyData.depth] at p
  exact ⟨of_decide_eq_true h.1, fun e he => ⟨(lay_mem l e he).1, by have := (lay_mem l e he).2; omega⟩⟩
theorem okd_fin2 {d : PyData} (h : OkD 3 6000 d) : Fin2 d ∧ Lim2 d := by
  have s := h.s6
  have l := h.ly
  have p := h.dp
  have one : ∀ ds, d = .list ds → ds.length ≤ 60 ∧ ∀ e ∈ ds, sh60 e = true ∧ e.canLay0 = true ∧ e.depth ≤ 3 := by
    rintro ds rfl
    rw [sh60, Bool.and_eq_true] at s
    simp only [PyData.canLay0] at l
    simp only [PyData.depth] at p
    exact ⟨of_decide_eq_true s.1, fun e he => ⟨sh60_mem s.2 e he, (lay_mem l e he).1, by have := (lay_mem l e he).2; omega⟩⟩
  refine ⟨fun ds e => ⟨(one ds e).1, fun x hx => ?_⟩, fun ds e => ⟨by have := (one ds e).1; omega, fun x hx es ex => ?_⟩⟩
  · obtain ⟨a, b, c⟩ := (one ds e).2 x hx
    exact ⟨okd_fin1 a b c, b, by omega⟩
  · obtain ⟨a, b, c⟩ := (one ds e).2 x hx
    have := (okd_fin1 a b c es ex).1
    omega
theorem it_dd {p : List Addr} {K : PySem.W.Frag} {H : Hp} {v : V} (h : It p K H v) : ∃ d, Dd K H v d ∧ OkE d ∧ (Fin2 d ∧ Lim2 d) := by
  rcases h with ⟨d, a, o⟩ | ⟨a, n, rfl, q⟩
  · exact ⟨d, .inl (Dp.grow hid_le a), ⟨o.sh, o.dp, o.lv, o.wt⟩, okd_fin2 o⟩
  · exact ⟨.dict [], .inr ⟨a, rfl, q, rfl⟩, oke_dict, ⟨fun ds e => (nomatch e), fun ds e => (nomatch e)⟩⟩
theorem it_all {p : List Addr} {K : PySem.W.Frag} {H : Hp} : ∀ vs : List V, (∀ v ∈ vs, It p K H v) → ∃ ds, DdAll K H vs ds ∧ ds.length = vs.length ∧ ∀ d ∈ ds, OkE d ∧ (Fin2 d ∧ Lim2 d)
  | [], _ => ⟨[], .nil, rfl, fun _ h => nomatch h⟩
  | v :: vs, h => by
    obtain ⟨ds, a, b, c⟩ := it_all vs fun x m => h x (List.mem_cons_of_mem _ m)
    obtain ⟨d, q, o⟩ := it_dd (h v List.mem_cons_self)
    refine ⟨d :: ds, .cons q a, congrArg (· + 1) b, fun e he => ?_⟩
    rcases List.mem_cons.mp he with z | z
    · rw [z]; exact o
    · exact c e z
theorem DdAll.at {K : PySem.W.Frag} {H : Hp} : ∀ {ds : List PyData} {xs : List V} {i : Nat} {x : V}, DdAll K H xs ds → xs[i]? = some x → ∃ d, d ∈ ds ∧ Dd K H x d
  | [], _, _, _, .nil, h => nomatch h
  | d :: ds, _, i, x, .cons (vs := vs) a b, h => by
    cases i with
    | zero =>
      cases h
      exact ⟨_, List.mem_cons_self, a⟩
    | succ i =>
      have h' : vs[i]? = some x := h
      obtain ⟨e, he, q⟩ := DdAll.at b h'
      exact ⟨e, List.mem_cons_of_mem _ he, q⟩
theorem DdAll.grow {K : PySem.W.Frag} {H H' : Hp} (s : Grows H H') : ∀ {xs : List V} {ds : List PyData}, DdAll K H xs ds → DdAll K H' xs ds
  | _, _, .nil => .nil
  | _, _, .cons a b => .cons (Dd.grow s a) (DdAll.grow s b)
theorem oke_all : ∀ ds : List PyData, (∀ d ∈ ds, OkE d) → PyData.showableAll ds = true ∧ PyData.depthAll ds ≤ 3 ∧ PyData.leavesShortAll 40 ds = true ∧ PyData.weightAll ds ≤ ds.length * 6001
  | [], _ => by simp only [PyData.showableAll, PyData.depthAll, PyData.leavesShortAll, PyData.weightAll]; exact ⟨trivial, Nat.zero_le _, trivial, Nat.zero_le _⟩
  | d :: ds, h => by
    obtain ⟨a1, a3, a4, a5⟩ := oke_all ds fun e m => h e (List.mem_cons_of_mem _ m)
    obtain ⟨b1, b3, b4, b5⟩ := h d List.mem_cons_self
    refine ⟨?_, ?_, ?_, ?_⟩
    · simp only [PyData.showableAll, a1, b1, Bool.and_self]
    · simp only [PyData.depthAll]; omega
    · simp only [PyData.leavesShortAll, a4, b4, Bool.and_self]
    · simp only [PyData.weightAll, List.length_cons]
      omega
theorem oke_text {ds : List PyData} (h : ∀ d ∈ ds, OkE d) (l : ds.length ≤ 61) : PyData.showableAll ds = true ∧ PyData.depthAll ds ≤ 40 ∧ (listText (PyData.shownAll ds)).length ≤ sizeLine := by
  obtain ⟨a, b, c, d⟩ := oke_all ds h
  refine ⟨a, Nat.le_trans b (by decide), ?_⟩
  have q := PyData.shown_le 40 (by decide) (.list ds) (by simp only [PyData.leavesShort, c])
  have e : (PyData.list ds).shown = listText (PyData.shownAll ds) := by simp only [PyData.shown]
  rw [e] at q
  have w : (PyData.list ds).weight = PyData.weightAll ds := by simp only [PyData.weight]
  rw [w] at q
  refine Nat.le_trans q (Nat.le_trans (by omega : _ ≤ 16000000) (by decide))
theorem two_text (b : Bool) : PyData.showableAll [.bool b, .bool b] = true ∧ PyData.depthAll [.bool b, .bool b] ≤ 40 ∧ (listText (PyData.shownAll [.bool b, .bool b])).length ≤ sizeLine := by
  cases b <;> exact ⟨by decide +kernel, by decide +kernel, by decide +kernel⟩
/-! ### lots as data -/
def rwD (r : List Int) : PyData := .list (r.map .int)
theorem toI_ints (r : List Int) : (r.map PyData.int).map toI = r := by
  rw [List.map_map]
  exact (List.map_congr_left fun _ _ => rfl).trans (List.map_id r)
theorem grpD_row (n : Int) (r : List Int) : grpD n (rwD r) = group n r := by
  have e : inR n r = r.all fun x => decide (0 ≤ x) && decide (x < n) := all_at (0 : Int) (fun x => decide (0 ≤ x) && decide (x < n)) r
  have e2 : (r.map PyData.int).all (persD n) = r.all fun x => decide (0 ≤ x) && decide (x < n) := by
    rw [List.all_map]
    rfl
  unfold rwD
  rw [grpD_list, plistD_list, toI_ints, List.length_map, e2, ← e]
  rfl
theorem isPD_rows (rs : List (List Int)) : isPD (.list (rs.map rwD)) = isP rs := by
  have e : (rs.map rwD).map toR = rs := by
    rw [List.map_map]
    exact (List.map_congr_left fun r _ => toI_ints r).trans (List.map_id rs)
  have e2 : (rs.map rwD).all (grpD (rs.length + 1)) = (List.range rs.length).all fun i => group (rs.length + 1) (rs.getD i []) := by
    rw [all_at [] (fun r => group (rs.length + 1) r) rs, List.all_map]
    exact congrArg (fun f => rs.all f) (funext fun r => grpD_row _ r)
  rw [isPD_list, e, List.length_map, e2]
  rfl
theorem Nest.lot_sz : ∀ (t : Nest), ∀ q ∈ t.lots, q.length ≤ t.sz
  | .leaf _, q, h => nomatch h
  | .node l r, q, h => by
    have e : (Nest.node l r).sz = l.sz + r.sz := rfl
    rcases Nest.lots_mem.mp h with m | m | m
    · rw [m, Nest.folk_len]
      exact Nat.le_refl _
    · have := Nest.lot_sz l q m
      omega
    · have := Nest.lot_sz r q m
      omega
def spRight : Sp := fun vs H Q _ => ∃ (p : Addr) (m : Int), vs = [.ref p] ∧ Pch H p m ∧ m < 2 ^ 48 ∧ ∀ H', Pch H' p (m + 300) → Gr p H H' → Q (.bl true) H'
section
variable {P : Program} {w : World} {K : PySem.W.Frag} {mg : Str → Option Value} {base : Heap}
theorem scRight : FnScope ["pouch", "lots", "objects_here", "kept", "item", "due"] ["pouch"] (defScope sRight) := ⟨rfl, rfl, rfl, by decide +kernel, rfl, by decide +kernel, by decide +kernel⟩
theorem ok_right (W : LawF K mg) : FnG P w K mg base CX0 24 W.fRight W.dRight ["pouch"] spRight := by
  have TW := W.T
  have GObj : FnOk P w K mg base CX0 3 W.fObj W.dObj ["pouch", "lots"] (spObj K) := ok_obj W
  refine okG W.FRight scRight (fun vs H Q E h => ?_) (fun cdv A outer s H vs Q E hr noG h => ?_)
  · obtain ⟨p, m, rfl, _⟩ := h
    rfl
  · obtain ⟨p, m, rfl, hP, hm, kq⟩ := h
    refine ⟨_, (pss_cons (ps_set (i := 1) scRight.nd rfl (.inl rfl) (pe_call W.lots (hr.mono (by decide)) rfl W.gLots W.FLots.kp W.bLots .nil pass0 (pa_cons (pe_call W.nest (hr.mono (by decide)) rfl W.gNest W.FNest.kp W.bNest .nil pass0 (pa_cons (pe_call W.items (hr.mono (by decide)) rfl W.gItems W.FItems.kp W.bItems .nil pass0 (pa_cons (pv 0) (pa_cons (pe_op op_add pe_int (pe_call W.dip (hr.mono (by decide)) rfl W.gDip W.FDip.kp W.bDip .nil pass0 (pa_cons (pv 0) (pa_cons pe_int pa_nil)))) pa_nil))) pa_nil)) pa_nil)))
      (pss_cons (ps_set (i := 2) scRight.nd rfl (.inl rfl) (pe_op op_cat (pe_lst (pa_cons (pv 1) pa_nil)) (pe_call GObj (hr.mono (by decide)) rfl W.gObj W.FObj.kp W.bObj .nil pass0 (pa_cons (pv 0) (pa_cons (pv 1) pa_nil)))))
      (pss_cons (ps_set (i := 3) scRight.nd rfl (.inl rfl) (pe_callB (call_reprL noG hr.units) (by rfl) TW.repr (by decide +kernel) (pa_cons (pv 2) pa_nil)))
      (pss_cons (ps_for PassesOwn.never rfl (pi_list (pv 2)) (pg_name (i := 4) scRight.nd rfl (.inl rfl))
      (pss_cons (ps_set (i := 5) scRight.nd rfl (.inl rfl) (pe_call W.isNest (hr.mono (by decide)) rfl W.gIsNest W.FIsNest.kp W.bIsNest .nil pass0 (pa_cons (pv 4) pa_nil)))
      (pss_one (ps_if (pt_cmpR op_ne (pe_callB (call_reprL noG hr.units) (by rfl) TW.repr (by decide +kernel) (pa_cons (pe_lst (pa_cons (pe_call W.is (hr.mono (by decide)) rfl W.Z.gIs W.Z.FIs.kp W.Z.bIs .nil pass0 (pa_cons (pv 4) pa_nil)) (pa_cons (pe_callKw W.is (hr.mono (by decide)) rfl W.Z.gIs W.Z.FIs.kp W.kbIs pass0 (pk_cons (pv 4) pk_nil)) pa_nil))) pa_nil)) (pe_callB (call_reprL noG hr.units) (by rfl) TW.repr (by decide +kernel) (pa_cons (pe_lst (pa_cons (pv 5) (pa_cons (pv 5) pa_nil))) pa_nil)) (nomark _)) (pss_one (ps_ret pe_bl)) pss_nil))))
      (pss_one (ps_ret (pe_and (pe_cmpR op_eq (pe_callB (call_reprL noG hr.units) (by rfl) TW.repr (by decide +kernel) (pa_cons (pv 2) pa_nil)) (pv 3) (nomark _)) (pe_one (pe_cmpR op_is_bl (pe_call W.is (hr.mono (by decide)) rfl W.Z.gIs W.Z.FIs.kp W.Z.bIs .nil pass0 (pa_cons (pv 1) pa_nil)) pe_bl (nomark _)))))))))), ?_⟩
    refine ⟨_, rfl, _, rfl, p, 20, m, rfl, hP, by omega, by decide, by decide, fun v H1 v0 v1 hP1 but1 => ⟨_, _, rfl, rfl, p, 1 + v, m + 1, rfl, hP1, by omega, by omega, by omega, fun l xs H2 hxl hb hP2 g2 n2 e2 => ?_⟩⟩
    have xl : xs.length ≤ 19 := by omega
    obtain ⟨full, has⟩ := nestN_full xs hb xs.length (Nat.le_refl _)
    have sz : (nestN xs xs.length).sz = xs.length + 1 := full.size
    refine ⟨l, xs, rfl, SqL.of e2, xl, fun y H3 g3 nv => ⟨y, _, rfl, nv, Nat.le_trans (nestN_ht xs _) xl, by omega, fun a cs H4 ecs g4 na nw nca ea => ?_⟩⟩
    have len := (nestN xs xs.length).lots_len
    rw [sz, ← ecs, List.length_map] at len
    have hP4 : Pch H4 p (m + 1 + 100) := (hP2.same g3).same g4
    have b4 : Base [p] a cs H4 := by
      refine ⟨⟨ea, nw.lists⟩, fun z => ?_, fun c hc z => ?_, fun h hh z => ?_, by omega, fun c hc => ?_⟩
      · rw [List.mem_singleton.mp z] at na
        exact pch_ne (hP2.same g3) na rfl
      · have := nw.new c hc
        rw [List.mem_singleton.mp z] at this
        exact pch_ne (hP2.same g3) this rfl
      · rw [List.mem_singleton.mp hh] at z
        exact pch_ne hP4 z rfl
      · have m2 : c.2 ∈ (nestN xs xs.length).lots := by rw [← ecs]; exact List.mem_map.mpr ⟨c, hc, rfl⟩
        refine ⟨by have := Nest.lot_sz _ _ m2; omega, fun i hi => ?_⟩
        have := full.rng i ((Nest.lot_ok _ full.nodup _ m2).1 i hi)
        omega
    have is1 : isPD (.list ((cs.map fun c => c.2).map rwD)) = true := by
      have := isPD_rows (nestN xs xs.length).lots
      rw [isP_lots full (by omega), ← ecs] at this
      exact this
    refine ⟨_, rfl, (by show 1 ≤ sizeLine; decide), fun z hz => ?_⟩
    have gz := Grows.new (o := .lst [V.ref a]) hz
    have ez : (upd H4 z (.lst [V.ref a])) z = some (.lst [V.ref a]) := upd_same
    have b5 := b4.st _ _ gz
    have hP5 := hP4.same gz
    generalize upd H4 z (.lst [V.ref a]) = H5 at gz ez b5 hP5
    have zp : z ≠ p := pch_ne hP4 hz
    refine ⟨_, rfl, _, rfl, p, a, cs, _, rfl, hP5, by omega, b5, fun l2 vs H6 hP6 g6 nl el ll all => ⟨z, l2, _, _, rfl, rfl, g6 _ _ zp ez, el, by show 1 + vs.length ≤ sizeLine; exact Nat.le_trans (by omega : _ ≤ 61) (by decide), fun o ho => ?_⟩⟩
    have ap : a ≠ p := fun z => b5.ne (by rw [z]; exact List.mem_singleton.mpr rfl)
    have cp : ∀ c ∈ cs, c.1 ≠ p := fun c hc z => b5.nes c hc (by rw [z]; exact List.mem_singleton.mpr rfl)
    have go := Grows.new (o := .lst ([V.ref a] ++ vs)) ho
    have eo : (upd H6 o (.lst ([V.ref a] ++ vs))) o = some (.lst ([V.ref a] ++ vs)) := upd_same
    have hP7 := hP6.same go
    have it7 := fun v hv => (all v hv).grw (hid_grow (hs := [p]) go)
    have rl7 : Rl (upd H6 o (.lst ([V.ref a] ++ vs))) a cs := ⟨go _ _ (g6 _ _ ap b5.rl.top), fun c hc => go _ _ (g6 _ _ (cp c hc) (b5.rl.each c hc))⟩
    have gg : Gr p H (upd H6 o (.lst ([V.ref a] ++ vs))) := (((((but_gr but1).trans g2).trans g3.gr).trans (g4.trans gz).gr).trans g6).trans go.gr
    generalize upd H6 o (.lst ([V.ref a] ++ vs)) = H7 at eo hP7 it7 rl7 gg
    have b7 : Base [p] a cs H7 := ⟨rl7, b5.ne, b5.nes, fun h hh z => by
      rw [List.mem_singleton.mp hh] at z
      exact pch_ne hP7 z rfl, b5.few, b5.rows⟩
    have few := b7.few
    obtain ⟨ds, dd, dl, ok⟩ := it_all (K := K) (p := [p]) ([V.ref a] ++ vs) fun v hv => by
      rcases List.mem_append.mp hv with m | m
      · rw [List.mem_singleton.mp m]
        exact .inl ((dv_rows rl7.top b7.ne (by rw [List.length_map]; omega) b7.all).le (by decide) (by decide))
      · exact it7 v m
    obtain ⟨t1, t2, t3⟩ := oke_text (fun d hd => (ok d hd).1) (by rw [dl, List.length_append, List.length_singleton]; omega)
    refine ⟨_, rfl, o, _, ds, rfl, SqL.of eo, dd, t1, t2, t3, ?_⟩
    refine ⟨_, rfl, o, rfl, ⟨_, SqL.of eo⟩, for_list (K := K) (a := o) (xs := [V.ref a] ++ vs) (fun i σ G => ∃ o4 o5, σ = [some (.ref p), some (.ref a), some (.ref o), some (.str (PyData.list ds).shown), o4, o5] ∧ Grows H7 G) ⟨none, none, rfl, .refl⟩ (fun i σ G _ ⟨_, _, _, g⟩ => SqL.of (g _ _ eo)) (fun i x σ G hx ⟨o4, o5, e, g⟩ => ?_) fun σ G ⟨o4, o5, e, g⟩ => ?_⟩
    · subst e
      obtain ⟨d, hd, ddx⟩ := DdAll.at dd hx
      obtain ⟨u1, u2, u3⟩ := two_text (isPD d)
      obtain ⟨fi, li⟩ := (ok d hd).2
      refine ⟨_, rfl, x, d, rfl, Dd.grow g ddx, fi, fun G1 g1 => ?_⟩
      refine ⟨_, rfl, x, d, rfl, Dd.grow (g.trans g1) ddx, li, fun G2 g2 => ⟨_, rfl, x, d, rfl, Dd.grow ((g.trans g1).trans g2) ddx, li, fun G3 g3 => ⟨(by show 2 ≤ sizeLine; decide), fun q hq => ⟨q, _, [.bool (isPD d), .bool (isPD d)], rfl, SqL.of upd_same, .of_dp (.cons (.bl _) (.cons (.bl _) .nil)), u1, u2, u3, ?_⟩⟩⟩⟩
      refine ⟨_, rfl, _, rfl, (by show 2 ≤ sizeLine; decide), fun q2 hq2 => ⟨q2, _, [.bool (isPD d), .bool (isPD d)], rfl, SqL.of upd_same, .of_dp (.cons (.bl _) (.cons (.bl _) .nil)), u1, u2, u3, rfl, _, rfl, ?_⟩⟩
      rw [decide_eq_true rfl]
      exact ⟨_, _, rfl, (((g.trans g1).trans g2).trans g3).trans ((Grows.new hq).trans (Grows.new hq2))⟩
    · subst e
      refine ⟨_, rfl, o, _, ds, rfl, SqL.of (g _ _ eo), DdAll.grow g dd, t1, t2, t3, _, rfl, rfl, ?_⟩
      rw [decide_eq_true rfl]
      have lim : Lim2 (.list ((cs.map fun c => c.2).map rwD)) := fun es ee => by
        cases ee
        refine ⟨by rw [List.length_map, List.length_map]; omega, fun e he fs ef => ?_⟩
        obtain ⟨r, hr', rfl⟩ := List.mem_map.mp he
        obtain ⟨c, hc, rfl⟩ := List.mem_map.mp hr'
        cases ef
        rw [List.length_map]
        have := (b7.rows c hc).1
        omega
      refine ⟨_, rfl, _, rfl, .ref a, .list ((cs.map fun c => c.2).map rwD), rfl, .inl (.lst (SqL.of (g _ _ rl7.top)) (rows_data fun c hc => SqL.of (g _ _ (rl7.each c hc)))), lim, fun G1 g1 => ?_⟩
      rw [is1]
      refine ⟨_, _, rfl, rfl, ?_⟩
      rw [decide_eq_true rfl]
      exact kq _ ((hP7.same (g.trans g1)).le (by omega)) (gg.trans (g.trans g1).gr)
end
end K01

namespace K01
open PySem PySem.Spec PyProof.Rows L2 SortR LcM RepA
/-! ### sorting that the kernel can do -/
def ins {α : Type} (le : α → α → Bool) (x : α) : List α → List α
  | [] => [x]
  | y :: ys => if le x y = true then x :: y :: ys else y :: ins le x ys
def isort {α : Type} (le : α → α → Bool) : List α → List α
  | [] => []
  | x :: xs => ins le x (isort le xs)
theorem ins_perm {α : Type} (le : α → α → Bool) (x : α) : ∀ ys : List α, (ins le x ys).Perm (x :: ys)
  | [] => .refl _
  | y :: ys => by
    unfold ins
    split
    · exact .refl _
    · exact ((ins_perm le x ys).cons y).trans (List.Perm.swap _ _ _)
theorem isort_perm {α : Type} (le : α → α → Bool) : ∀ xs : List α, (isort le xs).Perm xs
  | [] => .refl _
  | x :: xs => (ins_perm le x _).trans ((isort_perm le xs).cons x)
theorem ins_up {α : Type} {le : α → α → Bool} (tr : ∀ a b c, le a b = true → le b c = true → le a c = true) (tot : ∀ a b, le a b = true ∨ le b a = true) (x : α) : ∀ ys : List α, ys.Pairwise (fun a b => le a b = true) → (ins le x ys).Pairwise (fun a b => le a b = true)
  | [], _ => List.pairwise_singleton _ _
  | y :: ys, h => by
    obtain ⟨h1, h2⟩ := List.pairwise_cons.mp h
    unfold ins
    by_cases e : le x y = true
    · rw [if_pos e]
      refine List.pairwise_cons.mpr ⟨fun z hz => ?_, h⟩
      rcases List.mem_cons.mp hz with q | q
      · rw [q]; exact e
      · exact tr _ _ _ e (h1 z q)
    · rw [if_neg e]
      refine List.pairwise_cons.mpr ⟨fun z hz => ?_, ins_up tr tot x ys h2⟩
      rcases List.mem_cons.mp ((ins_perm le x ys).mem_iff.mp hz) with q | q
      · rw [q]; exact (tot x y).resolve_left e
      · exact h1 z q
theorem isort_up {α : Type} {le : α → α → Bool} (tr : ∀ a b c, le a b = true → le b c = true → le a c = true) (tot : ∀ a b, le a b = true ∨ le b a = true) : ∀ xs : List α, (isort le xs).Pairwise (fun a b => le a b = true)
  | [] => .nil
  | x :: xs => ins_up tr tot x _ (isort_up tr tot xs)
theorem sort_is {α : Type} {le : α → α → Bool} (tr : ∀ a b c, le a b = true → le b c = true → le a c = true) (tot : ∀ a b, le a b = true ∨ le b a = true) (anti : ∀ a b, le a b = true → le b a = true → a = b) (xs : List α) : xs.mergeSort le = isort le xs :=
  List.Perm.eq_of_pairwise (le := fun a b => le a b = true) (fun a b _ _ => anti a b) (List.pairwise_mergeSort tr (fun a b => by
    rcases tot a b with h | h
    · rw [h]; rfl
    · rw [h, Bool.or_true]) xs) (isort_up tr tot xs) ((List.mergeSort_perm _ _).trans (isort_perm le xs).symm)
def rowB (p q : List Int) : Bool := decide (p ≤ q)
theorem sort_rowsI (xs : List (List Int)) : (xs.mergeSort fun p q => decide (p ≤ q)) = isort rowB xs :=
  sort_is (le := rowB) (fun a b c h1 h2 => decide_eq_true (List.le_trans (of_decide_eq_true h1) (of_decide_eq_true h2))) (fun a b => (List.le_total a b).imp decide_eq_true decide_eq_true) (fun a b h1 h2 => List.le_antisymm (of_decide_eq_true h1) (of_decide_eq_true h2)) xs
theorem sort_intsI (xs : List Int) : xs.mergeSort intLe = isort intLe xs :=
  sort_is (fun a b c h1 h2 => by
    unfold intLe at *
    simp only [decide_eq_true_eq] at *
    omega) (fun a b => by
    unfold intLe
    simp only [decide_eq_true_eq]
    omega) (fun a b h1 h2 => by
    unfold intLe at *
    simp only [decide_eq_true_eq] at *
    omega) xs
def folkS : Nest → List Int
  | .leaf i => [i]
  | .node l r => isort intLe (folkS l ++ folkS r)
theorem folkS_eq : ∀ t : Nest, t.folk = folkS t
  | .leaf _ => rfl
  | .node l r => by
    show (l.folk ++ r.folk).mergeSort intLe = isort intLe (folkS l ++ folkS r)
    rw [sort_intsI, folkS_eq l, folkS_eq r]
def lotsS : Nest → List (List Int)
  | .leaf _ => []
  | .node l r => isort rowB (folkS (.node l r) :: (lotsS l ++ lotsS r))
theorem lotsS_eq : ∀ t : Nest, t.lots = lotsS t
  | .leaf _ => rfl
  | .node l r => by
    show ((Nest.node l r).folk :: (l.lots ++ r.lots)).mergeSort _ = isort rowB (folkS (.node l r) :: (lotsS l ++ lotsS r))
    rw [sort_rowsI, folkS_eq, lotsS_eq l, lotsS_eq r]
/-- all coming lists of k + 1 persons -/
def itsR (k : Nat) : List Int := (List.range (2 * k + 1)).map fun (i : Nat) => (i : Int) - k
def rowsR : Nat → List (List Int)
  | 0 => [[]]
  | k + 1 => (rowsR k).flatMap fun row => (itsR k).map fun i => row ++ [i]
def lotsOf (r : List Int) : List (List Int) := lotsS (nestN r r.length)
theorem lots_of (r : List Int) : (nestN r r.length).lots = lotsOf r := lotsS_eq _
def goodRow (r : List Int) : Bool := isP (lotsOf r) && (lotsOf r).all (fun q => decide (q.length ≤ 20) && q.all fun x => decide (x.natAbs ≤ 20))
theorem good_all : ((List.range 5).all fun k => (rowsR k).all goodRow) = true := by decide +kernel
theorem lots_all : ((List.range 5).all fun k => decide ((rowsR k).map lotsOf).Nodup) = true := by decide +kernel
theorem good_at {k : Nat} (hk : k ≤ 4) {r : List Int} (h : r ∈ rowsR k) : goodRow r = true := List.all_eq_true.mp (List.all_eq_true.mp good_all k (List.mem_range.mpr (by omega))) r h
theorem lots_nodup {k : Nat} (hk : k ≤ 4) : ((rowsR k).map lotsOf).Nodup := of_decide_eq_true (List.all_eq_true.mp lots_all k (List.mem_range.mpr (by omega)))
end K01

namespace K01
open PySem PySem.Spec PyProof.Rows L2 SortR LcM RepA
theorem Rl.at {H : Hp} {a : Addr} {cs : List (Addr × List Int)} (r : Rl H a cs) {i : Nat} (hi : i < cs.length) : H (cs.getD i (0, [])).1 = some (.lst ((cs.getD i (0, [])).2.map V.int)) := by
  rw [List.getD_eq_getElem?_getD, List.getElem?_eq_getElem hi]
  exact r.each _ (List.getElem_mem hi)
theorem grows_own {H0 H : Hp} {p : Addr} (g : Grows H0 H) (e : H0 p = none) (o : HO) : Grows H0 (upd H p o) := fun b u h => by
  have ne : b ≠ p := fun z => by rw [z, e] at h; cases h
  rw [upd_ne ne]
  exact g b u h
def spRows : Sp := fun vs H Q _ => ∃ (k : Nat), vs = [.int (k + 1)] ∧ k ≤ 4 ∧ ∀ (p : Addr) (cs : List (Addr × List Int)) (H' : Hp), cs.map (·.2) = rowsR k → Grows H H' → H p = none → Rl H' p cs → (∀ c ∈ cs, H c.1 = none) → Q (.ref p) H'
theorem rowsR_len : ∀ k, ∀ r ∈ rowsR k, r.length = k
  | 0, r, h => by
    have : r = [] := List.mem_singleton.mp h
    rw [this]
    rfl
  | k + 1, r, h => by
    obtain ⟨s, hs, m⟩ := List.mem_flatMap.mp h
    obtain ⟨i, _, rfl⟩ := List.mem_map.mp m
    rw [List.length_append, rowsR_len k s hs]
    rfl
theorem rowsR_few : ∀ k, k ≤ 4 → (rowsR k).length ≤ 1000 := by decide +kernel
section
variable {P : Program} {w : World} {K : PySem.W.Frag} {mg : Str → Option Value} {base : Heap}
theorem scRows : FnScope ["many", "found", "fresh", "longer", "row", "item"] ["many"] (defScope sRows) := ⟨rfl, rfl, rfl, by decide +kernel, rfl, by decide +kernel, by decide +kernel⟩
theorem ok_rows {f : Addr} {fd : FuncData} (F : Fun K "_law_rows" "_law_rows" sRows f fd) (T : TxtP mg) : FnOk P w K mg base CX0 1 f fd ["many"] spRows := by
  refine F.ok scRows (fun vs H Q E h => ?_) (fun cdv A outer s H vs Q E hr h => ?_)
  · obtain ⟨k, rfl, _⟩ := h
    rfl
  · obtain ⟨k, rfl, hk, kq⟩ := h
    refine ⟨_, (pss_cons (ps_set (i := 1) scRows.nd rfl (.inl rfl) (pe_lst (pa_cons (pe_lst pa_nil) pa_nil)))
      (pss_cons (ps_for PassesOwn.never rfl (pi_range2 (by rfl) T.range (pa_cons pe_int (pa_cons (pv 0) pa_nil))) (pg_name (i := 2) scRows.nd rfl (.inl rfl))
      (pss_cons (ps_set (i := 3) scRows.nd rfl (.inl rfl) (pe_lst pa_nil))
      (pss_cons (ps_for PassesOwn.never rfl (pi_list (pv 1)) (pg_name (i := 4) scRows.nd rfl (.inr rfl))
      (pss_one (ps_expr (pe_bm PySem.F.plainAttrs_list PySem.F.slot_list_extend PySem.F.type_list_extend mt_extend (pv 3) (pa_cons (pe_lc (own := [("item", 5)]) (g := gName 5) (tt := tYes) rfl scRows.nd (pi_range2 (by rfl) T.range (pa_cons (pe_op op_sub pe_int (pv 2)) (pa_cons (pv 2) pa_nil))) (blkOk_by (own := [("item", 5)]) (N := ["many", "found", "fresh", "longer", "row", "item"]) (sc := defScope sRows) (by decide +kernel)) (fun _ _ _ _ _ => pg_name (i := 5) scRows.nd rfl (Or.inl rfl)) (fun _ _ _ _ _ => pts_nil) (fun _ _ _ _ _ => (pe_op op_cat (pv 4) (pe_lst (pa_cons (pv 5) pa_nil))))) pa_nil)))))
      (pss_one (ps_set (i := 1) scRows.nd rfl (.inl rfl) (pv 3))))))
      (pss_one (ps_ret (pv 1))))), ?_⟩
    refine ⟨(by show 0 ≤ sizeLine; decide), fun e0 he0 => ⟨(by show 1 ≤ sizeLine; decide), fun f0 hf0 => ?_⟩⟩
    have g0 : Grows H (upd (upd H e0 (.lst [])) f0 (.lst [V.ref e0])) := (Grows.new he0).trans (Grows.new hf0)
    have en : (((k : Nat) : Int) + 1 - 1).toNat = k := by omega
    refine ⟨_, rfl, 1, _, rfl, by omega, for_range (lo := 1) (n := (((k : Nat) : Int) + 1 - 1).toNat) (fun i σ G => ∃ f cs o2 o3 o4, σ = [some (.int (((k : Nat) : Int) + 1)), some (.ref f), o2, o3, o4, none] ∧ H f = none ∧ Grows H G ∧ Rl G f cs ∧ cs.map (·.2) = rowsR i ∧ ∀ c ∈ cs, H c.1 = none)
      ⟨f0, [(e0, [])], none, none, none, rfl, none_back (Grows.new he0) hf0, g0, ⟨upd_same, fun c hc => ?_⟩, rfl, fun c hc => ?_⟩ (fun i σ G hi ⟨f, cs, o2, o3, o4, e, hf, g, rl, ec, nw⟩ => ?_) fun σ G ⟨f, cs, o2, o3, o4, e, hf, g, rl, ec, nw⟩ => ?_⟩
    · rw [List.mem_singleton.mp hc]
      exact Grows.new hf0 _ _ upd_same
    · rw [List.mem_singleton.mp hc]
      exact he0
    · subst e
      rw [en] at hi
      refine ⟨(by show 0 ≤ sizeLine; decide), fun l hl => ?_⟩
      have gl : Grows G (upd G l (.lst [])) := Grows.new hl
      have fl : f ≠ l := fun z => by
        have := rl.top
        rw [z, hl] at this
        cases this
      have cl : ∀ c ∈ cs, c.1 ≠ l := fun c hc z => by
        have := rl.each c hc
        rw [z, hl] at this
        cases this
      have Hl : H l = none := none_back g hl
      have clen : cs.length = (rowsR i).length := by
        have := congrArg List.length ec
        rw [List.length_map] at this
        exact this
      have cfew := rowsR_few i (by omega)
      have cfew2 := rowsR_few (i + 1) (by omega)
      refine ⟨_, rfl, f, rfl, ⟨_, SqL.of (rl.keep gl).top⟩, for_list (K := K) (a := f) (xs := cs.map fun c => V.ref c.1) (fun j σ G' => ∃ ds o4, σ = [some (.int (((k : Nat) : Int) + 1)), some (.ref f), some (.int (1 + (i : Nat))), some (.ref l), o4, none] ∧ Grows H G' ∧ Rl G' f cs ∧ Rl G' l ds ∧ ds.map (·.2) = ((rowsR i).take j).flatMap (fun row => (itsR i).map fun x => row ++ [x]) ∧ ∀ c ∈ ds, H c.1 = none ∧ c.1 ≠ l)
        ⟨[], _, rfl, g.trans gl, rl.keep gl, ⟨upd_same, fun _ h => nomatch h⟩, rfl, fun _ h => nomatch h⟩ (fun j σ G' _ ⟨_, _, _, _, r, _⟩ => SqL.of r.top) (fun j x σ G' hx ⟨ds, o, e, g', rl', rd, ed, nwd⟩ => ?_) fun σ G' ⟨ds, o, e, g', rl', rd, ed, nwd⟩ => ?_⟩
      · subst e
        have jl := (List.getElem?_eq_some_iff.mp hx).1
        rw [List.length_map] at jl
        obtain rfl := at_map (d := (0, [])) hx
        have ej := rl'.at jl
        refine ⟨_, rfl, .inl ⟨rfl, _, SqL.of rd.top⟩, ?_⟩
        have en2 : ((1 + (i : Nat) : Int) - (1 - (1 + (i : Nat)))).toNat = 2 * i + 1 := by omega
        have il : (itsR i).length = 2 * i + 1 := by
          unfold itsR
          rw [List.length_map, List.length_range]
        generalize hr : (cs.getD j (0, [])) = rc at ej
        have rlen : rc.2.length = i := by
          have m : rc.2 ∈ rowsR i := by
            rw [← ec, ← hr]
            exact mem_at jl
          exact rowsR_len i _ m
        refine ⟨_, rfl, _, _, rfl, rfl, _, rfl, _, _, rfl, by omega, fun D hD => lc_range (lo := 1 - (1 + (i : Nat))) (n := ((1 + (i : Nat) : Int) - (1 - (1 + (i : Nat)))).toNat) (fun m G2 => ∃ es : List (Addr × List Int), Grows G' G2 ∧ G2 D = some (.lst (es.map fun c => V.ref c.1)) ∧ es.map (·.2) = ((itsR i).take m).map (fun x => rc.2 ++ [x]) ∧ ∀ c ∈ es, G2 c.1 = some (.lst (c.2.map V.int)) ∧ G' c.1 = none ∧ c.1 ≠ D)
          ⟨[], Grows.new hD, upd_same, rfl, fun _ h => nomatch h⟩ (fun m G2 ml ⟨es, g2, eD, ee, le⟩ => ?_) fun G2 ⟨es, g2, eD, ee, le⟩ => ?_⟩
        · rw [en2] at ml
          have nDz : ∀ {z}, G2 z = none → z ≠ D := fun hz q => by rw [q, eD] at hz; cases hz
          refine ⟨rfl, _, rfl, _, rfl, (by show 1 ≤ sizeLine; decide), fun z hz => ⟨rc.1, z, _, _, rfl, rfl, Grows.new hz _ _ (g2 _ _ ej), upd_same, ?_, fun w hw => ?_⟩⟩
          · rw [List.length_map, rlen]
            show i + 1 ≤ sizeLine
            exact Nat.le_trans (show i + 1 ≤ 5 by omega) (by decide)
          · have t : Grows G2 (upd (upd G2 z (.lst [V.int (1 - (1 + (i : Nat)) + (m : Nat))])) w (.lst (rc.2.map V.int ++ [V.int (1 - (1 + (i : Nat)) + (m : Nat))]))) := (Grows.new hz).trans (Grows.new hw)
            have eD2 := t _ _ eD
            have wD : w ≠ D := nDz (none_back (Grows.new (o := .lst [V.int (1 - (1 + (i : Nat)) + (m : Nat))]) hz) hw)
            have emlen : es.length = m := by
              have := congrArg List.length ee
              rw [List.length_map, List.length_map, List.length_take] at this
              omega
            have own : ∀ c o, G' c = some o → c ≠ D := fun c o q z2 => by rw [z2, hD] at q; cases q
            refine ⟨_, eD2, ?_, es ++ [(w, rc.2 ++ [(1 - (1 + (i : Nat)) + (m : Nat) : Int)])], fun c o q => ?_, ?_, ?_, fun c hc => ?_⟩
            · rw [List.length_map, emlen]
              exact small1000 (by omega)
            · rw [upd_ne (own c o q)]
              exact t _ _ (g2 c o q)
            · rw [upd_same, List.map_append]
              rfl
            · have ei : (itsR i)[m]? = some ((1 : Int) - (1 + ((i : Nat) : Int)) + ((m : Nat) : Int)) := by
                unfold itsR
                rw [List.getElem?_map, List.getElem?_range ml]
                show some ((m : Int) - (i : Nat)) = _
                exact congrArg some (by omega)
              rw [List.map_append, ee, List.take_succ, ei, List.map_append]
              rfl
            · rcases List.mem_append.mp hc with q | q
              · obtain ⟨a1, a2, a3⟩ := le c q
                rw [upd_ne a3]
                exact ⟨t _ _ a1, a2, a3⟩
              · rw [List.mem_singleton.mp q]
                show (upd _ D _) w = _ ∧ G' w = none ∧ w ≠ D
                rw [upd_ne wD, upd_same, List.map_append]
                exact ⟨rfl, none_back (g2.trans (Grows.new (o := .lst [V.int (1 - (1 + (i : Nat)) + (m : Nat))]) hz)) hw, wD⟩
        · rw [en2, ← il, List.take_length] at ee
          have eslen : es.length = 2 * i + 1 := by
            have := congrArg List.length ee
            rw [List.length_map, List.length_map, il] at this
            exact this
          have dslen : ds.length ≤ 1000 := by
            have e1 := congrArg List.length ed
            rw [List.length_map] at e1
            have e2 : ((rowsR i).take j).flatMap (fun row => (itsR i).map fun x => row ++ [x]) = ((rowsR i).take j).flatMap (fun row => (itsR i).map fun x => row ++ [x]) := rfl
            have sub : (((rowsR i).take j).flatMap (fun row => (itsR i).map fun x => row ++ [x])).length ≤ (rowsR (i + 1)).length := by
              show _ ≤ ((rowsR i).flatMap (fun row => (itsR i).map fun x => row ++ [x])).length
              conv => rhs; rw [← List.take_append_drop j (rowsR i), List.flatMap_append, List.length_append]
              exact Nat.le_add_right _ _
            omega
          have lD : l ≠ D := fun z => by
            have := rd.top
            rw [z, hD] at this
            cases this
          have t2 := g2 _ _ rd.top
          refine ⟨l, D, _, _, rfl, rfl, t2, eD, ?_, ds ++ es, _, rfl, grows_own (g'.trans g2) Hl _, ⟨?_, fun c hc => ?_⟩, ⟨?_, fun c hc => ?_⟩, ?_, fun c hc => ?_⟩
          · rw [List.length_map, List.length_map]
            exact Nat.le_trans (show ds.length + es.length ≤ 1009 by omega) (by decide)
          · rw [upd_ne fl]
            exact g2 _ _ rl'.top
          · rw [upd_ne (cl c hc)]
            exact g2 _ _ (rl'.each c hc)
          · rw [upd_same, List.map_append]
          · rcases List.mem_append.mp hc with q | q
            · rw [upd_ne (nwd c q).2]
              exact g2 _ _ (rd.each c q)
            · obtain ⟨a1, a2, a3⟩ := le c q
              have nl : c.1 ≠ l := fun z => by
                have := rd.top
                rw [← z, a2] at this
                cases this
              rw [upd_ne nl]
              exact a1
          · have ej' : (rowsR i)[j]? = some rc.2 := by
              rw [← ec, List.getElem?_map, List.getElem?_eq_getElem jl, ← hr, List.getD_eq_getElem?_getD, List.getElem?_eq_getElem jl]
              rfl
            rw [List.map_append, ed, ee, List.take_succ, ej', List.flatMap_append]
            simp
          · rcases List.mem_append.mp hc with q | q
            · exact nwd c q
            · obtain ⟨a1, a2, a3⟩ := le c q
              exact ⟨none_back g' a2, fun z => by
                have := rd.top
                rw [← z, a2] at this
                cases this⟩
      · subst e
        refine ⟨_, rfl, l, ds, _, _, _, rfl, Hl, g', rd, ?_, fun c hc => (nwd c hc).1⟩
        rw [ed, List.length_map, clen, List.take_length]
        rfl
    · subst e
      rw [en] at ec
      exact ⟨_, rfl, kq f cs G ec g hf rl nw⟩
end
end K01

namespace K01
open PySem PySem.Spec PyProof.Rows L2 SortR LcM RepA
abbrev rsD (rs : List (List Int)) : PyData := .list (rs.map fun r => .list (r.map .int))
theorem isPD_rs (rs : List (List Int)) : isPD (rsD rs) = isP rs := isPD_rows rs
theorem lim_rs {rs : List (List Int)} (l : rs.length ≤ 1000) (h : ∀ r ∈ rs, r.length ≤ 1000) : Lim2 (rsD rs) := fun es ee => by
  cases ee
  refine ⟨by rw [List.length_map]; exact l, fun e he fs ef => ?_⟩
  obtain ⟨r, hr, rfl⟩ := List.mem_map.mp he
  cases ef
  rw [List.length_map]
  exact h r hr
theorem not_seen {k i : Nat} (hk : k ≤ 4) (hi : i < (rowsR k).length) : (((rowsR k).take i).map fun r => rsD (lotsOf r)).any (fun z => PyData.eqv z (rsD (lotsOf (rowsR k)[i]))) = false := by
  rw [List.any_map, List.any_eq_false]
  intro r hr
  show ¬(PyData.eqv (rsD (lotsOf r)) (rsD (lotsOf (rowsR k)[i]))) = true
  rw [eqv_rows, decide_eq_true_eq]
  intro e
  have nd := lots_nodup hk
  rw [← List.take_append_drop i (rowsR k), List.map_append, List.drop_eq_getElem_cons hi] at nd
  exact (List.nodup_append.mp nd).2.2 _ (List.mem_map.mpr ⟨r, hr, rfl⟩) _ (List.mem_map.mpr ⟨_, List.mem_cons_self, rfl⟩) e
theorem lay_ints : ∀ ns : List Int, PyData.canLayAll0 (ns.map .int) = true ∧ PyData.depthAll (ns.map .int) ≤ 0
  | [] => by simp only [List.map_nil, PyData.canLayAll0, PyData.depthAll]; exact ⟨trivial, Nat.le_refl _⟩
  | n :: ns => by
    obtain ⟨a, b⟩ := lay_ints ns
    simp only [List.map_cons, PyData.canLayAll0, PyData.depthAll, PyData.canLay0, PyData.depth, a, Bool.and_self]
    exact ⟨trivial, by omega⟩
theorem lay_rs : ∀ rs : List (List Int), PyData.canLayAll0 (rs.map fun r => .list (r.map .int)) = true ∧ PyData.depthAll (rs.map fun r => .list (r.map .int)) ≤ 1
  | [] => by simp only [List.map_nil, PyData.canLayAll0, PyData.depthAll]; exact ⟨trivial, by omega⟩
  | n :: ns => by
    obtain ⟨a, b⟩ := lay_rs ns
    obtain ⟨c, d⟩ := lay_ints n
    simp only [List.map_cons, PyData.canLayAll0, PyData.depthAll, PyData.canLay0, PyData.depth, a, c, Bool.and_self]
    exact ⟨trivial, by omega⟩
theorem dpa_app {K : PySem.W.Frag} {H : Hp} {v : V} {d : PyData} (q : Dp K H v d) : ∀ {xs : List V} {ds : List PyData}, DpAll K H xs ds → DpAll K H (xs ++ [v]) (ds ++ [d])
  | _, _, .nil => .cons q .nil
  | _, _, .cons a b => .cons a (dpa_app q b)
theorem shaped_seen (rs : List (List Int)) : SeqAt.shaped (.list (rs.map fun r => rsD (lotsOf r))) = true := shaped_all fun d hd => by
  obtain ⟨r, _, rfl⟩ := List.mem_map.mp hd
  obtain ⟨a, b⟩ := lay_rs (lotsOf r)
  refine ⟨?_, ?_⟩
  · simp only [PyData.canLay0]
    exact a
  · simp only [PyData.depth]
    omega
def spAllR : Sp := fun vs H Q _ => ∃ (k : Nat), vs = [.int (k + 1)] ∧ k ≤ 4 ∧ ∀ H', Grows H H' → Q (.bl true) H'
theorem units65 {k : Nat} {A : Around} (r : Room k A) : A.units + 65 < cLine := by have := r.un; omega
section
variable {P : Program} {w : World} {K : PySem.W.Frag} {mg : Str → Option Value} {base : Heap}
theorem scAllR : FnScope ["many", "seen", "row", "lots"] ["many"] (defScope sAllR) := ⟨rfl, rfl, rfl, by decide +kernel, rfl, by decide +kernel, by decide +kernel⟩
theorem ok_allR (W : LawF K mg) : FnOk P w K mg base CX0 24 W.fAllR W.dAllR ["many"] spAllR := by
  have TW := W.T
  have GRows : FnOk P w K mg base CX0 1 W.fRows W.dRows ["many"] spRows := ok_rows W.FRows W.T.toTxtP
  refine W.FAllR.ok scAllR (fun vs H Q E h => ?_) (fun cdv A outer s H vs Q E hr h => ?_)
  · obtain ⟨k, rfl, _⟩ := h
    rfl
  · obtain ⟨k, rfl, hk, kq⟩ := h
    refine ⟨_, (pss_cons (ps_set (i := 1) scAllR.nd rfl (.inl rfl) (pe_lst pa_nil))
      (pss_cons (ps_for PassesOwn.never rfl (pi_list (pe_call GRows (hr.mono (by decide)) rfl W.gRows W.FRows.kp W.bRows .nil pass0 (pa_cons (pv 0) pa_nil))) (pg_name (i := 2) scAllR.nd rfl (.inl rfl))
      (pss_cons (ps_set (i := 3) scAllR.nd rfl (.inl rfl) (pe_call W.lots (hr.mono (by decide)) rfl W.gLots W.FLots.kp W.bLots .nil pass0 (pa_cons (pe_call W.nest (hr.mono (by decide)) rfl W.gNest W.FNest.kp W.bNest .nil pass0 (pa_cons (pv 2) pa_nil)) pa_nil)))
      (pss_cons (ps_if (PW.pt (pw_or (pt_cmpR op_isnot_bl (pe_call W.is (hr.mono (by decide)) rfl W.Z.gIs W.Z.FIs.kp W.Z.bIs .nil pass0 (pa_cons (pv 3) pa_nil)) pe_bl (nomark _)) (pw_or1 (pt_cmpR (r := rInD K) (by exact op_inD (units65 hr)) (pv 3) (pv 1) (by rfl))))) (pss_one (ps_ret pe_bl)) pss_nil)
      (pss_one (ps_expr (pe_bm PySem.F.plainAttrs_list PySem.F.slot_list_append PySem.F.type_list_append mt_append (pv 1) (pa_cons (pv 3) pa_nil)))))))
      (pss_one (ps_ret pe_bl)))), ?_⟩
    refine ⟨(by show 0 ≤ sizeLine; decide), fun sd hsd => ?_⟩
    have g0 : Grows H (upd H sd (.lst [])) := Grows.new hsd
    refine ⟨_, rfl, k, rfl, hk, fun p cs H1 ec g1 np rl nw => ?_⟩
    have e0 : H1 sd = some (.lst []) := g1 _ _ upd_same
    have psd : p ≠ sd := fun z => by rw [z, upd_same] at np; cases np
    have csd : ∀ c ∈ cs, c.1 ≠ sd := fun c hc z => by
      have := nw c hc
      rw [z, upd_same] at this
      cases this
    have rlg : ∀ G, Gr sd H1 G → Rl G p cs := fun G g => ⟨g _ _ psd rl.top, fun c hc => g _ _ (csd c hc) (rl.each c hc)⟩
    refine ⟨p, rfl, ⟨_, SqL.of rl.top⟩, for_list (K := K) (a := p) (xs := cs.map fun c => V.ref c.1) (fun i σ G => ∃ xs o2 o3, σ = [some (.int (((k : Nat) : Int) + 1)), some (.ref sd), o2, o3] ∧ G sd = some (.lst xs) ∧ DpAll K (hid [sd] G) xs (((rowsR k).take i).map fun r => rsD (lotsOf r)) ∧ xs.length = i ∧ Gr sd H1 G)
      ⟨[], none, none, rfl, e0, .nil, rfl, Gr.refl⟩ (fun i σ G _ ⟨_, _, _, _, _, _, _, g⟩ => SqL.of (rlg G g).top) (fun i x σ G hx ⟨xs, o2, o3, e, es, al, xl, g⟩ => ?_) fun σ G ⟨xs, o2, o3, e, es, al, xl, g⟩ => ?_⟩
    · subst e
      have il := (List.getElem?_eq_some_iff.mp hx).1
      rw [List.length_map] at il
      obtain rfl := at_map (d := (0, [])) hx
      have ilr : i < (rowsR k).length := by
        rw [← ec, List.length_map]
        exact il
      have few := rowsR_few k hk
      have er : (cs.getD i (0, [])).2 = (rowsR k)[i] := by
        have z := snd_at cs i
        rw [← z, ec, List.getD_eq_getElem?_getD, List.getElem?_eq_getElem ilr]
        rfl
      have eR := (rlg G g).at il
      rw [er] at eR
      generalize (cs.getD i (0, [])).1 = ra at eR
      have rin : (rowsR k)[i] ∈ rowsR k := List.getElem_mem ilr
      have rk : (rowsR k)[i].length = k := rowsR_len k _ rin
      have gd := good_at hk rin
      have ns := not_seen hk ilr
      have tk : (rowsR k).take (i + 1) = (rowsR k).take i ++ [(rowsR k)[i]] := by rw [List.take_succ, List.getElem?_eq_getElem ilr]; rfl
      generalize (rowsR k)[i] = r at eR rk gd ns tk
      unfold goodRow at gd
      rw [Bool.and_eq_true] at gd
      obtain ⟨gp, gs⟩ := gd
      have gs' : ∀ q ∈ lotsOf r, q.length ≤ 20 := fun q hq => by
        have := List.all_eq_true.mp gs q hq
        rw [Bool.and_eq_true] at this
        exact of_decide_eq_true this.1
      refine ⟨_, rfl, ra, r, rfl, SqL.of eR, by omega, fun y G1 s1 nv => ?_⟩
      have fz : (nestN r r.length).sz ≤ 600000 := Nat.le_trans (nestN_sz r r.length) (Nat.le_trans (Nat.pow_le_pow_right (by decide) (show r.length ≤ 19 by omega)) (by decide))
      refine ⟨y, nestN r r.length, rfl, nv, Nat.le_trans (nestN_ht r r.length) (by omega), fz, fun a ls G2 els s2 na nwl apl topl => ?_⟩
      rw [lots_of] at els
      have s12 := s1.trans s2
      have es2 := s12 _ _ es
      have g2 : Gr sd H1 G2 := g.trans s12.gr
      have al2 := DpAll.grow (hid_grow (hs := [sd]) s12) al
      have ll : Rl G2 a ls := ⟨topl, nwl.lists⟩
      have asd : a ≠ sd := fun z => by
        rw [z, s1 _ _ es] at na
        cases na
      have lsd : ∀ c ∈ ls, c.1 ≠ sd := fun c hc z => by
        have := nwl.new c hc
        rw [z, s1 _ _ es] at this
        cases this
      have dpa : Dp K (hid [sd] G2) (.ref a) (rsD (lotsOf r)) := by
        rw [← els]
        exact .lst (SqL.of ((hid_at (fun z => asd (List.mem_singleton.mp z))).trans ll.top)) (rows_data fun c hc => SqL.of ((hid_at (fun z => lsd c hc (List.mem_singleton.mp z))).trans (ll.each c hc)))
      have lim : Lim2 (rsD (lotsOf r)) := by
        refine lim_rs ?_ fun q hq => Nat.le_trans (gs' q hq) (by decide)
        unfold isP at gp
        simp only [Bool.and_eq_true, decide_eq_true_eq] at gp
        omega
      refine ⟨_, rfl, .ref a, rsD (lotsOf r), rfl, .inl (Dp.grow hid_le dpa), lim, fun G3 s3 => ⟨_, _, rfl, rfl, ?_⟩⟩
      rw [isPD_rs, gp]
      have es3 := s3 _ _ es2
      have al3 := DpAll.grow (hid_grow (hs := [sd]) s3) al2
      have dpa3 := Dp.grow (hid_grow (hs := [sd]) s3) dpa
      refine ⟨_, rfl, ?_⟩
      rw [decide_eq_true rfl]
      refine iteF ?_
      refine ⟨_, rfl, _, rfl, rsD (lotsOf r), ((rowsR k).take i).map fun r => rsD (lotsOf r), Dp.grow hid_le dpa3, .lst (SqL.of es3) (DpAll.grow hid_le al3), shaped_rows _, shaped_seen _, ?_⟩
      rw [ns]
      refine ⟨_, rfl, ?_⟩
      refine iteF ?_
      refine ⟨_, rfl, .inl ⟨rfl, _, SqL.of es3⟩, _, rfl, sd, xs, _, rfl, rfl, es3, ?_, xs ++ [V.ref a], _, _, rfl, upd_same, ?_, by rw [List.length_append, xl]; rfl, ?_⟩
      · rw [xl]
        exact small1000 (by omega)
      · rw [tk, List.map_append, hid_upd (List.mem_singleton.mpr rfl)]
        exact dpa_app dpa3 al3
      · intro b o nb eb
        rw [upd_ne nb]
        exact (g2.trans s3.gr) b o nb eb
    · subst e
      exact kq _ fun b o e => g b o (fun z => by rw [z, hsd] at e; cases e) (g1 _ _ (g0 b o e))
end
end K01

namespace K01
open PySem PySem.Spec PyProof.Rows L2 SortR LcM RepA
/-- the lots of four persons, ascending -/
def lots4 : List (List Int) := [[0, 1], [0, 1, 2], [0, 1, 2, 3], [0, 1, 3], [0, 2], [0, 2, 3], [0, 3], [1, 2], [1, 2, 3], [1, 3], [2, 3]]
def three (l m h : Nat) : Bool := isP [lots4.getD h [], lots4.getD m [], lots4.getD l []]
def cH (l m : Nat) : Nat → Int
  | 0 => 0
  | h + 1 => cH l m h + (if three l m h then 1 else 0)
def cM (l : Nat) : Nat → Int
  | 0 => 0
  | m + 1 => cM l m + cH l m m
def cL : Nat → Int
  | 0 => 0
  | l + 1 => cL l + cM l l
theorem fifteen : cL 11 = 15 := by decide +kernel
theorem lots4_len (j : Nat) : (lots4.getD j []).length ≤ 60 := by
  have all : ∀ r ∈ lots4, r.length ≤ 60 := by decide
  rw [List.getD_eq_getElem?_getD]
  cases e : lots4[j]? with
  | none => exact Nat.zero_le _
  | some r => exact all r (List.mem_of_getElem? e)
theorem fin_rs {rs : List (List Int)} (l : rs.length ≤ 60) (h : ∀ r ∈ rs, r.length ≤ 60) : Fin2 (rsD rs) := fun es ee => by
  cases ee
  refine ⟨by rw [List.length_map]; exact l, fun e he => ?_⟩
  obtain ⟨r, hr, rfl⟩ := List.mem_map.mp he
  obtain ⟨a, b⟩ := lay_ints r
  refine ⟨fun fs ef => ?_, by simp only [PyData.canLay0]; exact a, by simp only [PyData.depth]; omega⟩
  cases ef
  refine ⟨by rw [List.length_map]; exact h r hr, fun x hx => ?_⟩
  obtain ⟨i, _, rfl⟩ := List.mem_map.mp hx
  exact ⟨by simp only [PyData.canLay0], by simp only [PyData.depth]; omega⟩
def bit (d f : Nat) : Bool := decide (((d : Nat) : Int) / 2 ^ f % 2 = 1)
def bitsTo (d : Nat) : Nat → List Int
  | 0 => []
  | f + 1 => bitsTo d f ++ (if bit d f = true then [((f : Nat) : Int)] else [])
def lotsTo : Nat → List (List Int)
  | 0 => []
  | d + 1 => lotsTo d ++ (if 1 < (bitsTo d 4).length then [bitsTo d 4] else [])
theorem lots_sorted : isort rowB (lotsTo 16) = lots4 := by decide +kernel
theorem bits_len (d : Nat) : ∀ f, (bitsTo d f).length ≤ f
  | 0 => Nat.le_refl _
  | f + 1 => by
    have := bits_len d f
    unfold bitsTo
    rw [List.length_append]
    split
    · show _ + 1 ≤ f + 1
      omega
    · show _ + 0 ≤ f + 1
      omega
theorem lots_len4 : ∀ i, (lotsTo i).length ≤ i
  | 0 => Nat.le_refl _
  | d + 1 => by
    have := lots_len4 d
    unfold lotsTo
    rw [List.length_append]
    split
    · show _ + 1 ≤ d + 1
      omega
    · show _ + 0 ≤ d + 1
      omega
def spThr : Sp := fun vs H Q _ => vs = [] ∧ ∀ H', Grows H H' → Q (.bl true) H'
section
variable {P : Program} {w : World} {K : PySem.W.Frag} {mg : Str → Option Value} {base : Heap}
theorem scThr : FnScope ["every", "count_here", "digits", "lot", "low", "mid", "high", "item", "fresh"] [] (defScope sThr) := ⟨rfl, rfl, rfl, by decide +kernel, rfl, by decide +kernel, by decide +kernel⟩
theorem ok_thr (W : LawF K mg) : FnOk P w K mg base CX0 24 W.fThr W.dThr [] spThr := by
  have TW := W.T
  refine W.FThr.ok scThr (fun vs H Q E h => ?_) (fun cdv A outer s H vs Q E hr h => ?_)
  · obtain ⟨rfl, _⟩ := h
    rfl
  · obtain ⟨rfl, kq⟩ := h
    refine ⟨_, (pss_cons (ps_par (i := 0) (j := 1) (by rfl) scThr.nd rfl rfl (by decide) rfl rfl (pa_cons (pe_lst pa_nil) (pa_cons pe_int pa_nil)) (by rfl))
      (pss_cons (ps_for PassesOwn.never rfl (pi_range1 (by rfl) TW.range (pa_cons pe_int pa_nil)) (pg_name (i := 2) scThr.nd rfl (.inr rfl))
      (pss_cons (ps_setLc (i := 3) (own := [("fresh", 8)]) (g := gName 8)  rfl scThr.nd rfl rfl (sw_true rfl rfl rfl (by decide +kernel)) (pi_range1 (by rfl) TW.range (pa_cons pe_int pa_nil)) (blkOk_by (own := [("fresh", 8)]) (N := ["every", "count_here", "digits", "lot", "low", "mid", "high", "item", "fresh"]) (sc := defScope sThr) (by decide +kernel)) (fun _ _ _ _ _ => pg_name (i := 8) scThr.nd rfl (Or.inl rfl)) (fun _ _ _ _ _ => (pts_one (pt_cmpR op_eq (pe_op op_mod (pe_callTy call_int1 (by rfl) TW.int (by decide +kernel) (pa_cons (pe_op op_shr (pv 2) (pv 8)) pa_nil)) pe_int) pe_int (nomark _)))) (fun _ _ _ _ _ => (pv 8)))
      (pss_one (ps_if (pt_cmpR op_gt (pe_callB call_len_seq (by rfl) TW.len (by decide +kernel) (pa_cons (pv 3) pa_nil)) pe_int (nomark _)) (pss_one (ps_expr (pe_bm PySem.F.plainAttrs_list PySem.F.slot_list_append PySem.F.type_list_append mt_append (pv 0) (pa_cons (pv 3) pa_nil)))) pss_nil))))
      (pss_cons (ps_set (i := 0) scThr.nd rfl (.inl rfl) (pe_callB (call_sortedR hr.units) (by rfl) TW.sorted (by decide +kernel) (pa_cons (pv 0) pa_nil)))
      (pss_cons (ps_for PassesOwn.never rfl (pi_range1 (by rfl) TW.range (pa_cons pe_int pa_nil)) (pg_name (i := 4) scThr.nd rfl (.inl rfl))
      (pss_one (ps_for PassesOwn.never rfl (pi_range1 (by rfl) TW.range (pa_cons (pv 4) pa_nil)) (pg_name (i := 5) scThr.nd rfl (.inl rfl))
      (pss_one (ps_for PassesOwn.never rfl (pi_range1 (by rfl) TW.range (pa_cons (pv 5) pa_nil)) (pg_name (i := 6) scThr.nd rfl (.inl rfl))
      (pss_cons (ps_set (i := 7) scThr.nd rfl (.inl rfl) (pe_lst (pa_cons (pe_ix (r := rIxL K) ix_list (pv 0) (pv 6) (fun _ _ => rfl)) (pa_cons (pe_ix (r := rIxL K) ix_list (pv 0) (pv 5) (fun _ _ => rfl)) (pa_cons (pe_ix (r := rIxL K) ix_list (pv 0) (pv 4) (fun _ _ => rfl)) pa_nil)))))
      (pss_cons (ps_if (pt_cmpR op_ne (pe_callB RepBl.call_repr_bl (by rfl) TW.repr (by decide +kernel) (pa_cons (pe_call W.is (hr.mono (by decide)) rfl W.Z.gIs W.Z.FIs.kp W.Z.bIs .nil pass0 (pa_cons (pv 7) pa_nil)) pa_nil)) (pe_callB RepBl.call_repr_bl (by rfl) TW.repr (by decide +kernel) (pa_cons (pe_call W.isNest (hr.mono (by decide)) rfl W.gIsNest W.FIsNest.kp W.bIsNest .nil pass0 (pa_cons (pv 7) pa_nil)) pa_nil)) (nomark _)) (pss_one (ps_ret pe_bl)) pss_nil)
      (pss_one (ps_set (i := 1) scThr.nd rfl (.inl rfl) (pe_op op_add (pv 1) (pe_callTy call_int1 (by rfl) TW.int (by decide +kernel) (pa_cons (pe_call W.is (hr.mono (by decide)) rfl W.Z.gIs W.Z.FIs.kp W.Z.bIs .nil pass0 (pa_cons (pv 7) pa_nil)) pa_nil))))))))))))
      (pss_one (ps_ret (pe_cmpR op_eq (pv 1) pe_int (nomark _)))))))), ?_⟩
    refine ⟨(by show 0 ≤ sizeLine; decide), fun e0 he0 => ?_⟩
    have g0 : Grows H (upd H e0 (.lst [])) := Grows.new he0
    refine ⟨_, _, rfl, 16, rfl, by decide, by decide, for_range (lo := 0) (n := 16) (fun i σ G => ∃ cs o2 o3, σ = [some (.ref e0), some (.int 0), o2, o3, none, none, none, none, none] ∧ Rl G e0 cs ∧ cs.map (·.2) = lotsTo i ∧ Grows H G ∧ ∀ c ∈ cs, c.1 ≠ e0)
      ⟨[], none, none, rfl, ⟨upd_same, fun _ h => nomatch h⟩, rfl, g0, fun _ h => nomatch h⟩ (fun i σ G hi ⟨cs, o2, o3, e, rl, ec, g, ne⟩ => ?_) fun σ G ⟨cs, o2, o3, e, rl, ec, g, ne⟩ => ?_⟩
    · subst e
      have clen : cs.length ≤ i := by
        have z := congrArg List.length ec
        rw [List.length_map] at z
        rw [z]
        exact lots_len4 i
      refine ⟨4, rfl, by decide, by decide, fun D hD => lc_range (lo := 0) (n := 4) (fun f G2 => Grows G G2 ∧ G2 D = some (.lst ((bitsTo i f).map V.int))) ⟨Grows.new hD, upd_same⟩ (fun f G2 hf ⟨g2, eD⟩ => ?_) fun G2 ⟨g2, eD⟩ => ?_⟩
      · refine ⟨rfl, _, rfl, _, rfl, _, _, rfl, rfl, by omega, .inl ⟨_, rfl, _, _, rfl, rfl, (by show (0 : Int) < 2; decide), rfl, _, rfl, ?_⟩⟩
        have eb : decide (V.int ((0 + ((i : Nat) : Int)) / 2 ^ (0 + ((f : Nat) : Int)).toNat % 2) = V.int 1) = bit i f := by
          have e1 : (0 + ((i : Nat) : Int)) = i := by omega
          have e2 : (0 + ((f : Nat) : Int)).toNat = f := by omega
          rw [dec_int, e1, e2]
          unfold bit
          rw [Bool.eq_iff_iff, beq_iff_eq, decide_eq_true_eq]
        rw [eb]
        have own : ∀ c o, G c = some o → c ≠ D := fun c o q z2 => by rw [z2, hD] at q; cases q
        have bl := bits_len i f
        by_cases hb : bit i f = true
        · rw [hb]
          refine iteT ?_
          refine ⟨_, rfl, _, eD, ?_, fun c o q => ?_, ?_⟩
          · rw [List.length_map]
            exact small1000 (by omega)
          · rw [upd_ne (own c o q)]
            exact g2 c o q
          · have e3 : bitsTo i (f + 1) = bitsTo i f ++ (if bit i f = true then [((f : Nat) : Int)] else []) := rfl
            rw [upd_same, e3, if_pos hb, List.map_append, show (0 + ((f : Nat) : Int)) = f from by omega]
            rfl
        · rw [show bit i f = false from by simpa using hb]
          refine iteF ?_
          refine ⟨g2, ?_⟩
          unfold bitsTo
          rw [if_neg hb, List.append_nil]
          exact eD
      · have eb : H = H := rfl
        refine ⟨_, rfl, D, _, rfl, .inl (SqL.of eD), _, _, rfl, rfl, _, rfl, ?_⟩
        have bl := bits_len i 4
        have rl2 := rl.keep g2
        have De : D ≠ e0 := fun z => by
          have := rl.top
          rw [← z, hD] at this
          cases this
        by_cases hb : 1 < (bitsTo i 4).length
        · rw [List.length_map, decide_eq_true (by omega)]
          refine iteT ?_
          refine ⟨_, rfl, .inl ⟨rfl, _, SqL.of rl2.top⟩, _, rfl, e0, _, _, rfl, rfl, rl2.top, ?_, cs ++ [(D, bitsTo i 4)], _, _, rfl, ⟨by rw [upd_same, List.map_append]; rfl, fun c hc => ?_⟩, ?_, grows_own (g.trans g2) he0 _, fun c hc => ?_⟩
          · rw [List.length_map]
            exact small1000 (by omega)
          · rcases List.mem_append.mp hc with q | q
            · rw [upd_ne (ne c q)]
              exact rl2.each c q
            · rw [List.mem_singleton.mp q]
              exact (upd_ne De).trans eD
          · unfold lotsTo
            rw [if_pos hb, List.map_append, ec]
            rfl
          · rcases List.mem_append.mp hc with q | q
            · exact ne c q
            · rw [List.mem_singleton.mp q]
              exact De
        · rw [List.length_map, decide_eq_false (by omega)]
          refine iteF ?_
          refine ⟨cs, _, _, rfl, rl2, ?_, g.trans g2, ne⟩
          unfold lotsTo
          rw [if_neg hb, List.append_nil]
          exact ec
    · subst e
      refine ⟨_, rfl, e0, cs, rfl, SqL.of rl.top, fun c hc => SqL.of (rl.each c hc), fun y hy => ?_⟩
      have g1 := Grows.new (o := .lst ((cs.mergeSort rowLe).map fun b => V.ref b.1)) hy
      have rl1 : Rl (upd G y (.lst ((cs.mergeSort rowLe).map fun b => V.ref b.1))) y (cs.mergeSort rowLe) := ⟨upd_same, fun c hc => g1 _ _ (rl.each c (List.mem_mergeSort.mp hc))⟩
      have gH := g.trans g1
      have es : (cs.mergeSort rowLe).map (·.2) = lots4 := by
        rw [sort_rows, ec, sort_rowsI]
        exact lots_sorted
      generalize upd G y (.lst ((cs.mergeSort rowLe).map fun b => V.ref b.1)) = G1 at rl1 gH
      generalize cs.mergeSort rowLe = bs at rl1 es
      have bl : bs.length = 11 := by
        have := congrArg List.length es
        rw [List.length_map] at this
        exact this
      refine ⟨11, rfl, by decide, by decide, for_range (lo := 0) (n := 11) (fun l σ G => ∃ o2 o3 o4 o5 o6 o7, σ = [some (.ref y), some (.int (cL l)), o2, o3, o4, o5, o6, o7, none] ∧ Grows G1 G) ⟨_, _, _, _, _, _, rfl, .refl⟩ (fun l σ G hl ⟨o2, o3, o4, o5, o6, o7, e, g⟩ => ?_) fun σ G ⟨o2, o3, o4, o5, o6, o7, e, g⟩ => ?_⟩
      · subst e
        rw [show (0 + ((l : Nat) : Int)) = l from by omega]
        refine ⟨_, rfl, ((l : Nat) : Int), rfl, by omega, by omega, for_range (lo := 0) (n := ((l : Nat) : Int).toNat) (fun m σ G => ∃ o5 o6 o7, σ = [some (.ref y), some (.int (cL l + cM l m)), o2, o3, some (.int ((l : Nat) : Int)), o5, o6, o7, none] ∧ Grows G1 G) ⟨_, _, _, by rw [show cM l 0 = 0 from rfl, Int.add_zero]; rfl, g⟩ (fun m σ G hm ⟨o5, o6, o7, e, g⟩ => ?_) fun σ G ⟨o5, o6, o7, e, g⟩ => ?_⟩
        · subst e
          rw [Int.toNat_natCast] at hm
          rw [show (0 + ((m : Nat) : Int)) = m from by omega]
          refine ⟨_, rfl, ((m : Nat) : Int), rfl, by omega, by omega, for_range (lo := 0) (n := ((m : Nat) : Int).toNat) (fun h σ G => ∃ o6 o7, σ = [some (.ref y), some (.int (cL l + cM l m + cH l m h)), o2, o3, some (.int ((l : Nat) : Int)), some (.int ((m : Nat) : Int)), o6, o7, none] ∧ Grows G1 G) ⟨_, _, by rw [show cH l m 0 = 0 from rfl, Int.add_zero]; rfl, g⟩ (fun h σ G hh ⟨o6, o7, e, g⟩ => ?_) fun σ G ⟨o6, o7, e, g⟩ => ?_⟩
          · subst e
            rw [Int.toNat_natCast] at hh
            rw [show (0 + ((h : Nat) : Int)) = h from by omega]
            have dl : ∀ j, j < 11 → bs.getD j (0, []) ∈ bs ∧ atI (bs.map fun b => V.ref b.1) ((j : Nat) : Int) = some (V.ref (bs.getD j (0, [])).1) ∧ (bs.getD j (0, [])).2 = lots4.getD j [] := fun j hj => by
              have jl : j < bs.length := by omega
              refine ⟨?_, ?_, ?_⟩
              · rw [List.getD_eq_getElem?_getD, List.getElem?_eq_getElem jl]
                exact List.getElem_mem jl
              · exact atI_nat (by rw [List.getElem?_map, List.getD_eq_getElem?_getD, List.getElem?_eq_getElem jl]; rfl)
              · rw [← snd_at, es]
            obtain ⟨mh, ah, eh⟩ := dl h (by omega)
            obtain ⟨mm, am, em⟩ := dl m (by omega)
            obtain ⟨ml, al, el⟩ := dl l (by omega)
            have tr : isPD (rsD [lots4.getD h [], lots4.getD m [], lots4.getD l []]) = three l m h := isPD_rs _
            have t4 : ∀ j, (lots4.getD j []).length ≤ 60 := lots4_len
            rw [← eh, ← em, ← el] at tr
            have rlG := rl1.keep g
            generalize bs.getD h (0, []) = ch at mh ah eh tr
            generalize bs.getD m (0, []) = cm at mm am em tr
            generalize bs.getD l (0, []) = cl at ml al el tr
            have three_in : ∀ c ∈ [ch, cm, cl], c ∈ bs := fun c hc => by
              rcases List.mem_cons.mp hc with z | hc
              · rw [z]; exact mh
              rcases List.mem_cons.mp hc with z | hc
              · rw [z]; exact mm
              · rw [List.mem_singleton.mp hc]; exact ml
            have three_len : ∀ r ∈ [ch.2, cm.2, cl.2], r.length ≤ 60 := fun r hr => by
              rcases List.mem_cons.mp hr with z | hr
              · rw [z, eh]; exact t4 h
              rcases List.mem_cons.mp hr with z | hr
              · rw [z, em]; exact t4 m
              · rw [List.mem_singleton.mp hr, el]; exact t4 l
            refine ⟨_, rfl, _, rfl, y, _, _, _, rfl, rfl, SqL.of rlG.top, ah, _, rfl, _, rfl, y, _, _, _, rfl, rfl, SqL.of rlG.top, am, _, rfl, _, rfl, y, _, _, _, rfl, rfl, SqL.of rlG.top, al, (by show 3 ≤ sizeLine; decide), fun x hx => ?_⟩
            have gx := Grows.new (o := .lst [V.ref ch.1, V.ref cm.1, V.ref cl.1]) hx
            have dx : Dp K (upd G x (.lst [V.ref ch.1, V.ref cm.1, V.ref cl.1])) (.ref x) (rsD [ch.2, cm.2, cl.2]) := .lst (SqL.of upd_same) (rows_data (bs := [ch, cm, cl]) fun c hc => SqL.of (gx _ _ (rlG.each c (three_in c hc))))
            generalize upd G x (.lst [V.ref ch.1, V.ref cm.1, V.ref cl.1]) = G2 at gx dx
            have lm : Lim2 (rsD [ch.2, cm.2, cl.2]) := lim_rs (by show 3 ≤ 1000; decide) fun r hr => Nat.le_trans (three_len r hr) (by decide)
            have fn : Fin2 (rsD [ch.2, cm.2, cl.2]) := fin_rs (by show 3 ≤ 60; decide) three_len
            generalize rsD [ch.2, cm.2, cl.2] = d at dx tr lm fn
            refine ⟨_, rfl, .ref x, d, rfl, .inl dx, lm, fun G3 g3 => ⟨_, rfl, ?_⟩⟩
            refine ⟨_, rfl, .ref x, d, rfl, .inl (Dp.grow g3 dx), fn, fun G4 g4 => ⟨_, rfl, rfl, _, rfl, ?_⟩⟩
            rw [decide_eq_true rfl]
            refine iteF ?_
            refine ⟨_, rfl, _, rfl, .ref x, d, rfl, .inl (Dp.grow (g3.trans g4) dx), lm, fun G5 g5 => .inr ⟨_, rfl, _, _, rfl, rfl, ?_⟩⟩
            rw [tr]
            refine ⟨some (.int ((h : Nat) : Int)), some (.ref x), ?_, (g.trans gx).trans ((g3.trans g4).trans g5)⟩
            rw [show cH l m (h + 1) = cH l m h + (if three l m h then 1 else 0) from rfl, ← Int.add_assoc]
            rfl
          · subst e
            rw [Int.toNat_natCast]
            exact ⟨_, _, _, by rw [show cM l (m + 1) = cM l m + cH l m m from rfl, Int.add_assoc], g⟩
        · subst e
          rw [Int.toNat_natCast]
          exact ⟨_, _, _, _, _, _, rfl, g⟩
      · subst e
        refine ⟨_, rfl, rfl, ?_⟩
        rw [fifteen, decide_eq_true rfl]
        exact kq _ (gH.trans g)
end
end K01

namespace K01
open PySem PySem.Spec PyProof.Rows L2 SortR LcM RepA
abbrev sLaw : Stmt := top 30
def spLaw (K : PySem.W.Frag) : Sp := fun vs H Q _ => ∃ (a : Addr) (ns : List Int), vs = [.ref a] ∧ SqL K H a (ns.map V.int) ∧ ns.length ≤ 63 ∧ ∀ H', Q (.bl true) H'
theorem mm (k : Int) : ∃ J : Int, 1 ≤ J ∧ J ≤ 4 ∧ (if (if k < 4 then k else 4) > 1 then (if k < 4 then k else 4) else 1) = J := by
  refine ⟨_, ?_, ?_, rfl⟩
  · split <;> omega
  · split <;> split <;> omega
theorem gr_grows {sd : Addr} {H H0 H1 G : Hp} (g0 : Grows H H0) (n : H sd = none) (g : Gr sd H1 G) (g1 : Grows H0 H1) : Grows H G := fun b o e => g b o (fun z => by rw [z, n] at e; cases e) (g1 _ _ (g0 b o e))
theorem pd0 : isPD (rsD []) = true := (isPD_rs _).trans (by decide +kernel)
theorem pd1 : isPD (rsD [[0, 1]]) = true := (isPD_rs _).trans (by decide +kernel)
section
variable {P : Program} {w : World} {K : PySem.W.Frag} {mg : Str → Option Value} {base : Heap}
theorem scLaw : FnScope ["script", "at", "pouch", "turn", "many"] ["script"] (defScope sLaw) := ⟨rfl, rfl, rfl, by decide +kernel, rfl, by decide +kernel, by decide +kernel⟩
theorem ok_law {f : Addr} {fd : FuncData} (F : Fun K "law" "law" sLaw f fd) (W : LawF K mg) : FnG P w K mg base CX0 25 f fd ["script"] (spLaw K) := by
  have TW := W.T
  have GRight : FnG P w K mg base CX0 24 W.fRight W.dRight ["pouch"] spRight := ok_right W
  have GAll : FnOk P w K mg base CX0 24 W.fAllR W.dAllR ["many"] spAllR := ok_allR W
  have GThr : FnOk P w K mg base CX0 24 W.fThr W.dThr [] spThr := ok_thr W
  refine okG F scLaw (fun vs H Q E h => ?_) (fun cdv A outer s H vs Q E hr noG h => ?_)
  · obtain ⟨a, ns, rfl, _⟩ := h
    rfl
  · obtain ⟨a, ns, rfl, hS, hl, kq⟩ := h
    refine ⟨_, (pss_cons (ps_for PassesOwn.never rfl (pi_range1 (by rfl) TW.range (pa_cons (pe_callB (call_max2 rfl) (by rfl) TW.max (by decide +kernel) (pa_cons pe_int (pa_cons (pe_callB (call_min2 rfl) (by rfl) TW.min (by decide +kernel) (pa_cons pe_int (pa_cons (pe_callB call_len_seq (by rfl) TW.len (by decide +kernel) (pa_cons (pv 0) pa_nil)) pa_nil))) pa_nil))) pa_nil)) (pg_name (i := 1) scLaw.nd rfl (.inl rfl))
      (pss_cons (ps_set (i := 2) scLaw.nd rfl (.inl rfl) (pe_call W.pouch (hr.mono (by decide)) rfl W.gPouch W.FPouch.kp W.bPouch .nil pass0 (pa_cons (pv 0) (pa_cons (pv 1) pa_nil))))
      (pss_one (ps_for PassesOwn.never rfl (pi_range1 (by rfl) TW.range (pa_cons pe_int pa_nil)) (pg_name (i := 3) scLaw.nd rfl (.inl rfl))
      (pss_one (ps_if (pt_not (pt_val (pe_callG GRight (hr.mono (by decide)) noG rfl W.gRight W.FRight.kp W.bRight .nil pass0 (pa_cons (pv 2) pa_nil)))) (pss_one (ps_ret pe_bl)) pss_nil))))))
      (pss_cons (ps_for PassesOwn.never rfl (pi_range2 (by rfl) TW.range (pa_cons pe_int (pa_cons pe_int pa_nil))) (pg_name (i := 4) scLaw.nd rfl (.inl rfl))
      (pss_one (ps_if (pt_not (pt_val (pe_call GAll (hr.mono (by decide)) rfl W.gAllR W.FAllR.kp W.bAllR .nil pass0 (pa_cons (pv 4) pa_nil)))) (pss_one (ps_ret pe_bl)) pss_nil)))
      (pss_one (ps_ret (pe_and (pe_call0 GThr (hr.mono (by decide)) rfl W.gThr W.FThr.kp W.bThr .nil pass0) (pe_and (pe_cmpR op_is_bl (pe_call W.is (hr.mono (by decide)) rfl W.Z.gIs W.Z.FIs.kp W.Z.bIs .nil pass0 (pa_cons (pe_lst pa_nil) pa_nil)) pe_bl (nomark _)) (pe_one (pe_cmpR op_is_bl (pe_call W.is (hr.mono (by decide)) rfl W.Z.gIs W.Z.FIs.kp W.Z.bIs .nil pass0 (pa_cons (pe_lst (pa_cons (pe_lst (pa_cons pe_int (pa_cons pe_int pa_nil))) pa_nil)) pa_nil)) pe_bl (nomark _))))))))), ?_⟩
    obtain ⟨J, J1, J4, eJ⟩ := mm ((ns.map V.int).length : Nat)
    refine ⟨_, rfl, a, _, rfl, .inl hS, 4, _, rfl, 1, _, rfl, J, congrArg (fun z => [V.int z]) eJ, by omega, by omega, for_range (fun i σ H' => ∃ o1 o2 o3, σ = [some (.ref a), o1, o2, o3, none] ∧ Grows H H') ⟨none, none, none, rfl, .refl⟩ (fun i σ H1 hi ⟨o1, o2, o3, e, g1⟩ => ?_) fun σ H1 ⟨o1, o2, o3, e, g1⟩ => ?_⟩
    · subst e
      refine ⟨_, rfl, _, rfl, a, _, ns, rfl, g1.seq hS, by omega, by omega, fun p H2 np g2 hP2 => ?_⟩
      have Hp0 : H p = none := none_back g1 np
      have g2' := g1.trans g2
      refine ⟨2, rfl, by decide, by decide, for_range (fun j σ G => ∃ o, σ = [some (.ref a), some (.int (0 + (i : Nat))), some (.ref p), o, none] ∧ Grows H G ∧ Pch G p (300 * j)) ⟨_, rfl, g2', hP2.le (by omega)⟩ (fun j σ G hj ⟨o, e, g, hp⟩ => ?_) fun σ G ⟨o, e, g, hp⟩ => ⟨_, _, _, e, g⟩⟩
      subst e
      exact ⟨_, rfl, p, 300 * j, rfl, hp, by omega, fun G' hp' gg => ⟨_, rfl, _, rfl, gr_grows g Hp0 gg .refl, hp'.le (by omega)⟩⟩
    · subst e
      refine ⟨1, 6, rfl, ⟨by decide, by decide, by decide, by decide⟩, for_range (fun _ σ _ => ∃ o4, σ = [some (.ref a), o1, o2, o3, o4]) ⟨_, rfl⟩ (fun i σ G hi ⟨o4, e⟩ => ?_) fun σ G ⟨o4, e⟩ => ?_⟩
      · subst e
        have hi' : i < 5 := hi
        exact ⟨_, rfl, i, congrArg (fun z => [V.int z]) (Int.add_comm 1 (i : Int)), by omega, fun G' _ => ⟨_, rfl, _, rfl⟩⟩
      subst e
      refine ⟨rfl, fun G1 g1 => ⟨_, rfl, ?_⟩⟩
      refine iteT ?_
      refine ⟨(by show 0 ≤ sizeLine; decide), fun x hx => ⟨.ref x, rsD [], rfl, .inl (.lst (SqL.of upd_same) .nil), lim_rs (by decide) (fun _ h => nomatch h), fun G2 g2 => ⟨_, _, rfl, rfl, _, rfl, ?_⟩⟩⟩
      rw [pd0, decide_eq_true rfl]
      refine iteT ?_
      refine ⟨(by show 2 ≤ sizeLine; decide), fun y hy => ⟨(by show 1 ≤ sizeLine; decide), fun z hz => ⟨.ref z, rsD [[0, 1]], rfl, .inl (.lst (SqL.of upd_same) (.cons (.lst (SqL.of (Grows.new hz _ _ upd_same)) (rows_dp [0, 1])) .nil)), lim_rs (by decide) (fun r hr => by rw [List.mem_singleton.mp hr]; decide), fun G3 g3 => ⟨_, _, rfl, rfl, ?_⟩⟩⟩⟩
      rw [pd1, decide_eq_true rfl]
      exact kq _
end
end K01

namespace K01
open PySem PySem.Spec PyProof.Rows L2 SortR LcM RepA
theorem kb_one {K : PySem.W.Frag} {fd : FuncData} {x : Str} (h1 : ∀ (s : Shared) (a : Value), BindsTo s fd ⟨[], [(x, a)]⟩ [(x, a)]) (h0 : ∀ (s : Shared) (a : Value), BindsTo s fd ⟨[a], []⟩ [(x, a)]) :
    KBinds K fd [x] [x] (fun us ws => us ++ ws) (fun vs zs => vs ++ zs) := by
  refine ⟨fun s us ws _ h => ?_, fun r r2 => r.append r2⟩
  have e : us.length + ws.length = 1 := by simpa using h
  match us, ws, e with
  | [], [_], _ => exact h1 _ _
  | [_], [], _ => exact h0 _ _
  | [], [], e => simp at e
  | [], _ :: _ :: _, e => simp only [List.length_cons, List.length_nil] at e; omega
  | [_], _ :: _, e => simp only [List.length_cons, List.length_nil] at e; omega
  | _ :: _ :: _, _, e => simp only [List.length_cons, List.length_nil] at e; omega
theorem all_mk {l : PySem.W.OpenLaw} {w : World} {K : PySem.W.Frag} {h : Heap} {mg : Str → Option Value} {fa fNum fPer fAsc fPL fGr fMask fCross fAny fIs fPouch fDip fItems fFolk fPut fNest fLots fRows fLot fCrL fIsLot fIsNest fObj fRight fAllR fThr fL : Addr} (X : K.In h) (G : h.Ns mainGlobals mg) (hfa : mg "law" = some (.ref fa))
    {odNum anNum odPer anPer odAsc anAsc odPL anPL odGr anGr odMask anMask odCross anCross odAny anAny odIs anIs odPouch anPouch odDip anDip odItems anItems odFolk anFolk odPut anPut odNest anNest odLots anLots odRows anRows odLot anLot odCrL anCrL odIsLot anIsLot odIsNest anIsNest odObj anObj odRight anRight odAllR anAllR odThr anThr odL anL : Option Addr} {slNum slPer slAsc slPL slGr slMask slCross slAny slIs slPouch slDip slItems slFolk slPut slNest slLots slRows slLot slCrL slIsLot slIsNest slObj slRight slAllR slThr slL : Array (Option Value)} {ocNum kVNum dcNum pmNum cvNum ctNum ocPer kVPer dcPer pmPer cvPer ctPer ocAsc kVAsc dcAsc pmAsc cvAsc ctAsc ocPL kVPL dcPL pmPL cvPL ctPL ocGr kVGr dcGr pmGr cvGr ctGr ocMask kVMask dcMask pmMask cvMask ctMask ocCross kVCross dcCross pmCross cvCross ctCross ocAny kVAny dcAny pmAny cvAny ctAny ocIs kVIs dcIs pmIs cvIs ctIs ocPouch kVPouch dcPouch pmPouch cvPouch ctPouch ocDip kVDip dcDip pmDip cvDip ctDip ocItems kVItems dcItems pmItems cvItems ctItems ocFolk kVFolk dcFolk pmFolk cvFolk ctFolk ocPut kVPut dcPut pmPut cvPut ctPut ocNest kVNest dcNest pmNest cvNest ctNest ocLots kVLots dcLots pmLots cvLots ctLots ocRows kVRows dcRows pmRows cvRows ctRows ocLot kVLot dcLot pmLot cvLot ctLot ocCrL kVCrL dcCrL pmCrL cvCrL ctCrL ocIsLot kVIsLot dcIsLot pmIsLot cvIsLot ctIsLot ocIsNest kVIsNest dcIsNest pmIsNest cvIsNest ctIsNest ocObj kVObj dcObj pmObj cvObj ctObj ocRight kVRight dcRight pmRight cvRight ctRight ocAllR kVAllR dcAllR pmAllR cvAllR ctAllR ocThr kVThr dcThr pmThr cvThr ctThr ocL kVL dcL pmL cvL ctL : Value} {mtok : Tok}
    (aNum : PySem.W.nsIn K mainGlobals "is_number" = some (some (.ref fNum))) (lNum : K.lookup fNum = some ⟨ocNum, odNum, .func (PySem.W.fnOf "is_number" "is_number" (defArgs sNumber) (defBody sNumber) (defScope sNumber) .none kVNum dcNum pmNum anNum cvNum ctNum), slNum⟩) (xNum : PySem.W.codeIn K cvNum "is_number" = true) (kNum : PySem.W.keepIn K (.ref fNum) = true)
    (aPer : PySem.W.nsIn K mainGlobals "is_person" = some (some (.ref fPer))) (lPer : K.lookup fPer = some ⟨ocPer, odPer, .func (PySem.W.fnOf "is_person" "is_person" (defArgs sPerson) (defBody sPerson) (defScope sPerson) .none kVPer dcPer pmPer anPer cvPer ctPer), slPer⟩) (xPer : PySem.W.codeIn K cvPer "is_person" = true) (kPer : PySem.W.keepIn K (.ref fPer) = true)
    (aAsc : PySem.W.nsIn K mainGlobals "is_ascending" = some (some (.ref fAsc))) (lAsc : K.lookup fAsc = some ⟨ocAsc, odAsc, .func (PySem.W.fnOf "is_ascending" "is_ascending" (defArgs sAsc) (defBody sAsc) (defScope sAsc) .none kVAsc dcAsc pmAsc anAsc cvAsc ctAsc), slAsc⟩) (xAsc : PySem.W.codeIn K cvAsc "is_ascending" = true) (kAsc : PySem.W.keepIn K (.ref fAsc) = true)
    (aPL : PySem.W.nsIn K mainGlobals "is_person_list" = some (some (.ref fPL))) (lPL : K.lookup fPL = some ⟨ocPL, odPL, .func (PySem.W.fnOf "is_person_list" "is_person_list" (defArgs sPList) (defBody sPList) (defScope sPList) .none kVPL dcPL pmPL anPL cvPL ctPL), slPL⟩) (xPL : PySem.W.codeIn K cvPL "is_person_list" = true) (kPL : PySem.W.keepIn K (.ref fPL) = true)
    (aGr : PySem.W.nsIn K mainGlobals "is_group" = some (some (.ref fGr))) (lGr : K.lookup fGr = some ⟨ocGr, odGr, .func (PySem.W.fnOf "is_group" "is_group" (defArgs sGroup) (defBody sGroup) (defScope sGroup) .none kVGr dcGr pmGr anGr cvGr ctGr), slGr⟩) (xGr : PySem.W.codeIn K cvGr "is_group" = true) (kGr : PySem.W.keepIn K (.ref fGr) = true)
    (aMask : PySem.W.nsIn K mainGlobals "mask_of" = some (some (.ref fMask))) (lMask : K.lookup fMask = some ⟨ocMask, odMask, .func (PySem.W.fnOf "mask_of" "mask_of" (defArgs sMask) (defBody sMask) (defScope sMask) .none kVMask dcMask pmMask anMask cvMask ctMask), slMask⟩) (xMask : PySem.W.codeIn K cvMask "mask_of" = true) (kMask : PySem.W.keepIn K (.ref fMask) = true)
    (aCross : PySem.W.nsIn K mainGlobals "masks_cross" = some (some (.ref fCross))) (lCross : K.lookup fCross = some ⟨ocCross, odCross, .func (PySem.W.fnOf "masks_cross" "masks_cross" (defArgs sCross) (defBody sCross) (defScope sCross) .none kVCross dcCross pmCross anCross cvCross ctCross), slCross⟩) (xCross : PySem.W.codeIn K cvCross "masks_cross" = true) (kCross : PySem.W.keepIn K (.ref fCross) = true)
    (aAny : PySem.W.nsIn K mainGlobals "any_cross" = some (some (.ref fAny))) (lAny : K.lookup fAny = some ⟨ocAny, odAny, .func (PySem.W.fnOf "any_cross" "any_cross" (defArgs sAny) (defBody sAny) (defScope sAny) .none kVAny dcAny pmAny anAny cvAny ctAny), slAny⟩) (xAny : PySem.W.codeIn K cvAny "any_cross" = true) (kAny : PySem.W.keepIn K (.ref fAny) = true)
    (aIs : PySem.W.nsIn K mainGlobals "is_parting" = some (some (.ref fIs))) (lIs : K.lookup fIs = some ⟨ocIs, odIs, .func (PySem.W.fnOf "is_parting" "is_parting" (defArgs sParting) (defBody sParting) (defScope sParting) .none kVIs dcIs pmIs anIs cvIs ctIs), slIs⟩) (xIs : PySem.W.codeIn K cvIs "is_parting" = true) (kIs : PySem.W.keepIn K (.ref fIs) = true)
    (aPouch : PySem.W.nsIn K mainGlobals "_law_pouch" = some (some (.ref fPouch))) (lPouch : K.lookup fPouch = some ⟨ocPouch, odPouch, .func (PySem.W.fnOf "_law_pouch" "_law_pouch" (defArgs sPouch) (defBody sPouch) (defScope sPouch) .none kVPouch dcPouch pmPouch anPouch cvPouch ctPouch), slPouch⟩) (xPouch : PySem.W.codeIn K cvPouch "_law_pouch" = true) (kPouch : PySem.W.keepIn K (.ref fPouch) = true)
    (aDip : PySem.W.nsIn K mainGlobals "_law_dip" = some (some (.ref fDip))) (lDip : K.lookup fDip = some ⟨ocDip, odDip, .func (PySem.W.fnOf "_law_dip" "_law_dip" (defArgs sDip) (defBody sDip) (defScope sDip) .none kVDip dcDip pmDip anDip cvDip ctDip), slDip⟩) (xDip : PySem.W.codeIn K cvDip "_law_dip" = true) (kDip : PySem.W.keepIn K (.ref fDip) = true)
    (aItems : PySem.W.nsIn K mainGlobals "_law_items" = some (some (.ref fItems))) (lItems : K.lookup fItems = some ⟨ocItems, odItems, .func (PySem.W.fnOf "_law_items" "_law_items" (defArgs sItems) (defBody sItems) (defScope sItems) .none kVItems dcItems pmItems anItems cvItems ctItems), slItems⟩) (xItems : PySem.W.codeIn K cvItems "_law_items" = true) (kItems : PySem.W.keepIn K (.ref fItems) = true)
    (aFolk : PySem.W.nsIn K mainGlobals "_law_folk" = some (some (.ref fFolk))) (lFolk : K.lookup fFolk = some ⟨ocFolk, odFolk, .func (PySem.W.fnOf "_law_folk" "_law_folk" (defArgs sFolk) (defBody sFolk) (defScope sFolk) .none kVFolk dcFolk pmFolk anFolk cvFolk ctFolk), slFolk⟩) (xFolk : PySem.W.codeIn K cvFolk "_law_folk" = true) (kFolk : PySem.W.keepIn K (.ref fFolk) = true)
    (aPut : PySem.W.nsIn K mainGlobals "_law_put" = some (some (.ref fPut))) (lPut : K.lookup fPut = some ⟨ocPut, odPut, .func (PySem.W.fnOf "_law_put" "_law_put" (defArgs sPut) (defBody sPut) (defScope sPut) .none kVPut dcPut pmPut anPut cvPut ctPut), slPut⟩) (xPut : PySem.W.codeIn K cvPut "_law_put" = true) (kPut : PySem.W.keepIn K (.ref fPut) = true)
    (aNest : PySem.W.nsIn K mainGlobals "_law_nest" = some (some (.ref fNest))) (lNest : K.lookup fNest = some ⟨ocNest, odNest, .func (PySem.W.fnOf "_law_nest" "_law_nest" (defArgs sNest) (defBody sNest) (defScope sNest) .none kVNest dcNest pmNest anNest cvNest ctNest), slNest⟩) (xNest : PySem.W.codeIn K cvNest "_law_nest" = true) (kNest : PySem.W.keepIn K (.ref fNest) = true)
    (aLots : PySem.W.nsIn K mainGlobals "_law_lots" = some (some (.ref fLots))) (lLots : K.lookup fLots = some ⟨ocLots, odLots, .func (PySem.W.fnOf "_law_lots" "_law_lots" (defArgs sLots) (defBody sLots) (defScope sLots) .none kVLots dcLots pmLots anLots cvLots ctLots), slLots⟩) (xLots : PySem.W.codeIn K cvLots "_law_lots" = true) (kLots : PySem.W.keepIn K (.ref fLots) = true)
    (aRows : PySem.W.nsIn K mainGlobals "_law_rows" = some (some (.ref fRows))) (lRows : K.lookup fRows = some ⟨ocRows, odRows, .func (PySem.W.fnOf "_law_rows" "_law_rows" (defArgs sRows) (defBody sRows) (defScope sRows) .none kVRows dcRows pmRows anRows cvRows ctRows), slRows⟩) (xRows : PySem.W.codeIn K cvRows "_law_rows" = true) (kRows : PySem.W.keepIn K (.ref fRows) = true)
    (aLot : PySem.W.nsIn K mainGlobals "_law_lot" = some (some (.ref fLot))) (lLot : K.lookup fLot = some ⟨ocLot, odLot, .func (PySem.W.fnOf "_law_lot" "_law_lot" (defArgs sLot) (defBody sLot) (defScope sLot) .none kVLot dcLot pmLot anLot cvLot ctLot), slLot⟩) (xLot : PySem.W.codeIn K cvLot "_law_lot" = true) (kLot : PySem.W.keepIn K (.ref fLot) = true)
    (aCrL : PySem.W.nsIn K mainGlobals "_law_cross" = some (some (.ref fCrL))) (lCrL : K.lookup fCrL = some ⟨ocCrL, odCrL, .func (PySem.W.fnOf "_law_cross" "_law_cross" (defArgs sCrL) (defBody sCrL) (defScope sCrL) .none kVCrL dcCrL pmCrL anCrL cvCrL ctCrL), slCrL⟩) (xCrL : PySem.W.codeIn K cvCrL "_law_cross" = true) (kCrL : PySem.W.keepIn K (.ref fCrL) = true)
    (aIsLot : PySem.W.nsIn K mainGlobals "_law_is_lot" = some (some (.ref fIsLot))) (lIsLot : K.lookup fIsLot = some ⟨ocIsLot, odIsLot, .func (PySem.W.fnOf "_law_is_lot" "_law_is_lot" (defArgs sIsLot) (defBody sIsLot) (defScope sIsLot) .none kVIsLot dcIsLot pmIsLot anIsLot cvIsLot ctIsLot), slIsLot⟩) (xIsLot : PySem.W.codeIn K cvIsLot "_law_is_lot" = true) (kIsLot : PySem.W.keepIn K (.ref fIsLot) = true)
    (aIsNest : PySem.W.nsIn K mainGlobals "_law_is_nest" = some (some (.ref fIsNest))) (lIsNest : K.lookup fIsNest = some ⟨ocIsNest, odIsNest, .func (PySem.W.fnOf "_law_is_nest" "_law_is_nest" (defArgs sIsNest) (defBody sIsNest) (defScope sIsNest) .none kVIsNest dcIsNest pmIsNest anIsNest cvIsNest ctIsNest), slIsNest⟩) (xIsNest : PySem.W.codeIn K cvIsNest "_law_is_nest" = true) (kIsNest : PySem.W.keepIn K (.ref fIsNest) = true)
    (aObj : PySem.W.nsIn K mainGlobals "_law_objects" = some (some (.ref fObj))) (lObj : K.lookup fObj = some ⟨ocObj, odObj, .func (PySem.W.fnOf "_law_objects" "_law_objects" (defArgs sObj) (defBody sObj) (defScope sObj) .none kVObj dcObj pmObj anObj cvObj ctObj), slObj⟩) (xObj : PySem.W.codeIn K cvObj "_law_objects" = true) (kObj : PySem.W.keepIn K (.ref fObj) = true)
    (aRight : PySem.W.nsIn K mainGlobals "_law_right" = some (some (.ref fRight))) (lRight : K.lookup fRight = some ⟨ocRight, odRight, .func (PySem.W.fnOf "_law_right" "_law_right" (defArgs sRight) (defBody sRight) (defScope sRight) .none kVRight dcRight pmRight anRight cvRight ctRight), slRight⟩) (xRight : PySem.W.codeIn K cvRight "_law_right" = true) (kRight : PySem.W.keepIn K (.ref fRight) = true)
    (aAllR : PySem.W.nsIn K mainGlobals "_law_all_right" = some (some (.ref fAllR))) (lAllR : K.lookup fAllR = some ⟨ocAllR, odAllR, .func (PySem.W.fnOf "_law_all_right" "_law_all_right" (defArgs sAllR) (defBody sAllR) (defScope sAllR) .none kVAllR dcAllR pmAllR anAllR cvAllR ctAllR), slAllR⟩) (xAllR : PySem.W.codeIn K cvAllR "_law_all_right" = true) (kAllR : PySem.W.keepIn K (.ref fAllR) = true)
    (aThr : PySem.W.nsIn K mainGlobals "_law_threes_right" = some (some (.ref fThr))) (lThr : K.lookup fThr = some ⟨ocThr, odThr, .func (PySem.W.fnOf "_law_threes_right" "_law_threes_right" (defArgs sThr) (defBody sThr) (defScope sThr) .none kVThr dcThr pmThr anThr cvThr ctThr), slThr⟩) (xThr : PySem.W.codeIn K cvThr "_law_threes_right" = true) (kThr : PySem.W.keepIn K (.ref fThr) = true)
    (aL : PySem.W.nsIn K mainGlobals "law" = some (some (.ref fL))) (lL : K.lookup fL = some ⟨ocL, odL, .func (PySem.W.fnOf "law" "law" (defArgs sLaw) (defBody sLaw) (defScope sLaw) .none kVL dcL pmL anL cvL ctL), slL⟩) (xL : PySem.W.codeIn K cvL "law" = true) (kL : PySem.W.keepIn K (.ref fL) = true)
    (y_isinstance : PySem.W.nsIn K mainGlobals "isinstance" = some none)
    (y_int : PySem.W.nsIn K mainGlobals "int" = some none)
    (y_bool : PySem.W.nsIn K mainGlobals "bool" = some none)
    (y_list : PySem.W.nsIn K mainGlobals "list" = some none)
    (y_len : PySem.W.nsIn K mainGlobals "len" = some none)
    (y_all : PySem.W.nsIn K mainGlobals "all" = some none)
    (y_any : PySem.W.nsIn K mainGlobals "any" = some none)
    (y_sum : PySem.W.nsIn K mainGlobals "sum" = some none)
    (y_zip : PySem.W.nsIn K mainGlobals "zip" = some none)
    (y_sorted : PySem.W.nsIn K mainGlobals "sorted" = some none)
    (y_tuple : PySem.W.nsIn K mainGlobals "tuple" = some none)
    (y_range : PySem.W.nsIn K mainGlobals "range" = some none)
    (y_enumerate : PySem.W.nsIn K mainGlobals "enumerate" = some none)
    (y_abs : PySem.W.nsIn K mainGlobals "abs" = some none)
    (y_max : PySem.W.nsIn K mainGlobals "max" = some none)
    (y_min : PySem.W.nsIn K mainGlobals "min" = some none)
    (y_repr : PySem.W.nsIn K mainGlobals "repr" = some none)
    (y_set : PySem.W.nsIn K mainGlobals "set" = some none)
    (zComb : PySem.W.nsIn K mainGlobals "combinations" = some (some (.type "itertools.combinations"))) (zMost : PySem.W.nsIn K mainGlobals "MOST_PERSONS" = some (some (.int 20 mtok))) :
    ∃ fd : FuncData, (∀ (s : Shared) (v : Value), BindsTo s fd ⟨[v], []⟩ [("script", v)]) ∧ ∀ base : Heap, K.In base → base.Ns mainGlobals mg → FnG l.prog w K mg base CX0 25 fa fd ["script"] (spLaw K) := by
  have e := hfa.symm.trans (PySem.W.mg_of X G aL)
  cases e
  have FNum := fun_mk (st := sNumber) lNum xNum kNum
  have bNum := FNum.binds (ps := ["thing"]) fun _ _ _ _ _ _ us hl => match us, hl with | [_], _ => rfl
  have FPer := fun_mk (st := sPerson) lPer xPer kPer
  have bPer := FPer.binds (ps := ["thing", "persons"]) fun _ _ _ _ _ _ us hl => match us, hl with | [_, _], _ => rfl
  have FAsc := fun_mk (st := sAsc) lAsc xAsc kAsc
  have bAsc := FAsc.binds (ps := ["items"]) fun _ _ _ _ _ _ us hl => match us, hl with | [_], _ => rfl
  have FPL := fun_mk (st := sPList) lPL xPL kPL
  have bPL := FPL.binds (ps := ["thing", "persons"]) fun _ _ _ _ _ _ us hl => match us, hl with | [_, _], _ => rfl
  have FGr := fun_mk (st := sGroup) lGr xGr kGr
  have bGr := FGr.binds (ps := ["thing", "persons"]) fun _ _ _ _ _ _ us hl => match us, hl with | [_, _], _ => rfl
  have FMask := fun_mk (st := sMask) lMask xMask kMask
  have bMask := FMask.binds (ps := ["group"]) fun _ _ _ _ _ _ us hl => match us, hl with | [_], _ => rfl
  have FCross := fun_mk (st := sCross) lCross xCross kCross
  have bCross := FCross.binds (ps := ["one", "other"]) fun _ _ _ _ _ _ us hl => match us, hl with | [_, _], _ => rfl
  have FAny := fun_mk (st := sAny) lAny xAny kAny
  have bAny := FAny.binds (ps := ["groups"]) fun _ _ _ _ _ _ us hl => match us, hl with | [_], _ => rfl
  have FIs := fun_mk (st := sParting) lIs xIs kIs
  have bIs := FIs.binds (ps := ["thing"]) fun _ _ _ _ _ _ us hl => match us, hl with | [_], _ => rfl
  have FPouch := fun_mk (st := sPouch) lPouch xPouch kPouch
  have bPouch := FPouch.binds (ps := ["script", "at"]) fun _ _ _ _ _ _ us hl => match us, hl with | [_, _], _ => rfl
  have FDip := fun_mk (st := sDip) lDip xDip kDip
  have bDip := FDip.binds (ps := ["pouch", "wide"]) fun _ _ _ _ _ _ us hl => match us, hl with | [_, _], _ => rfl
  have FItems := fun_mk (st := sItems) lItems xItems kItems
  have bItems := FItems.binds (ps := ["pouch", "many"]) fun _ _ _ _ _ _ us hl => match us, hl with | [_, _], _ => rfl
  have FFolk := fun_mk (st := sFolk) lFolk xFolk kFolk
  have bFolk := FFolk.binds (ps := ["nest"]) fun _ _ _ _ _ _ us hl => match us, hl with | [_], _ => rfl
  have FPut := fun_mk (st := sPut) lPut xPut kPut
  have bPut := FPut.binds (ps := ["nest", "item", "fresh"]) fun _ _ _ _ _ _ us hl => match us, hl with | [_, _, _], _ => rfl
  have FNest := fun_mk (st := sNest) lNest xNest kNest
  have bNest := FNest.binds (ps := ["items"]) fun _ _ _ _ _ _ us hl => match us, hl with | [_], _ => rfl
  have FLots := fun_mk (st := sLots) lLots xLots kLots
  have bLots := FLots.binds (ps := ["nest"]) fun _ _ _ _ _ _ us hl => match us, hl with | [_], _ => rfl
  have FRows := fun_mk (st := sRows) lRows xRows kRows
  have bRows := FRows.binds (ps := ["many"]) fun _ _ _ _ _ _ us hl => match us, hl with | [_], _ => rfl
  have FLot := fun_mk (st := sLot) lLot xLot kLot
  have bLot := FLot.binds (ps := ["pouch", "many"]) fun _ _ _ _ _ _ us hl => match us, hl with | [_, _], _ => rfl
  have FCrL := fun_mk (st := sCrL) lCrL xCrL kCrL
  have bCrL := FCrL.binds (ps := ["lot", "rest"]) fun _ _ _ _ _ _ us hl => match us, hl with | [_, _], _ => rfl
  have FIsLot := fun_mk (st := sIsLot) lIsLot xIsLot kIsLot
  have bIsLot := FIsLot.binds (ps := ["many", "item"]) fun _ _ _ _ _ _ us hl => match us, hl with | [_, _], _ => rfl
  have FIsNest := fun_mk (st := sIsNest) lIsNest xIsNest kIsNest
  have bIsNest := FIsNest.binds (ps := ["item"]) fun _ _ _ _ _ _ us hl => match us, hl with | [_], _ => rfl
  have FObj := fun_mk (st := sObj) lObj xObj kObj
  have bObj := FObj.binds (ps := ["pouch", "lots"]) fun _ _ _ _ _ _ us hl => match us, hl with | [_, _], _ => rfl
  have FRight := fun_mk (st := sRight) lRight xRight kRight
  have bRight := FRight.binds (ps := ["pouch"]) fun _ _ _ _ _ _ us hl => match us, hl with | [_], _ => rfl
  have FAllR := fun_mk (st := sAllR) lAllR xAllR kAllR
  have bAllR := FAllR.binds (ps := ["many"]) fun _ _ _ _ _ _ us hl => match us, hl with | [_], _ => rfl
  have FThr := fun_mk (st := sThr) lThr xThr kThr
  have bThr := FThr.binds (ps := []) fun _ _ _ _ _ _ us hl => match us, hl with | [], _ => rfl
  have FL := fun_mk (st := sLaw) lL xL kL
  have bL := FL.binds (ps := ["script"]) fun _ _ _ _ _ _ us hl => match us, hl with | [_], _ => rfl
  have Tp : TxtP mg := ⟨PySem.W.mg_none_of X G y_isinstance, PySem.W.mg_none_of X G y_int, PySem.W.mg_none_of X G y_bool, PySem.W.mg_none_of X G y_list, PySem.W.mg_none_of X G y_len, PySem.W.mg_none_of X G y_all, PySem.W.mg_none_of X G y_any, PySem.W.mg_none_of X G y_sum, PySem.W.mg_none_of X G y_zip, PySem.W.mg_none_of X G y_sorted, PySem.W.mg_none_of X G y_tuple, PySem.W.mg_none_of X G y_range, PySem.W.mg_none_of X G y_enumerate⟩
  have T : TxtW mg := { toTxtP := Tp, abs := PySem.W.mg_none_of X G y_abs, max := PySem.W.mg_none_of X G y_max, min := PySem.W.mg_none_of X G y_min, repr := PySem.W.mg_none_of X G y_repr, set := PySem.W.mg_none_of X G y_set }
  have W : LawF K mg := { Z := { fNum := fNum, dNum := _, FNum := FNum, gNum := PySem.W.mg_of X G aNum, bNum := bNum, fPer := fPer, dPer := _, FPer := FPer, gPer := PySem.W.mg_of X G aPer, bPer := bPer, fAsc := fAsc, dAsc := _, FAsc := FAsc, gAsc := PySem.W.mg_of X G aAsc, bAsc := bAsc, fPL := fPL, dPL := _, FPL := FPL, gPL := PySem.W.mg_of X G aPL, bPL := bPL, fGr := fGr, dGr := _, FGr := FGr, gGr := PySem.W.mg_of X G aGr, bGr := bGr, fMask := fMask, dMask := _, FMask := FMask, gMask := PySem.W.mg_of X G aMask, bMask := bMask, fCross := fCross, dCross := _, FCross := FCross, gCross := PySem.W.mg_of X G aCross, bCross := bCross, fAny := fAny, dAny := _, FAny := FAny, gAny := PySem.W.mg_of X G aAny, bAny := bAny, fIs := fIs, dIs := _, FIs := FIs, gIs := PySem.W.mg_of X G aIs, bIs := bIs, gComb := PySem.W.mg_of X G zComb, mostT := _, gMost := PySem.W.mg_of X G zMost }, T := T, fPouch := fPouch, dPouch := _, FPouch := FPouch, gPouch := PySem.W.mg_of X G aPouch, bPouch := bPouch, fDip := fDip, dDip := _, FDip := FDip, gDip := PySem.W.mg_of X G aDip, bDip := bDip, fItems := fItems, dItems := _, FItems := FItems, gItems := PySem.W.mg_of X G aItems, bItems := bItems, fFolk := fFolk, dFolk := _, FFolk := FFolk, gFolk := PySem.W.mg_of X G aFolk, bFolk := bFolk, fPut := fPut, dPut := _, FPut := FPut, gPut := PySem.W.mg_of X G aPut, bPut := bPut, fNest := fNest, dNest := _, FNest := FNest, gNest := PySem.W.mg_of X G aNest, bNest := bNest, fLots := fLots, dLots := _, FLots := FLots, gLots := PySem.W.mg_of X G aLots, bLots := bLots, fRows := fRows, dRows := _, FRows := FRows, gRows := PySem.W.mg_of X G aRows, bRows := bRows, fLot := fLot, dLot := _, FLot := FLot, gLot := PySem.W.mg_of X G aLot, bLot := bLot, fCrL := fCrL, dCrL := _, FCrL := FCrL, gCrL := PySem.W.mg_of X G aCrL, bCrL := bCrL, fIsLot := fIsLot, dIsLot := _, FIsLot := FIsLot, gIsLot := PySem.W.mg_of X G aIsLot, bIsLot := bIsLot, fIsNest := fIsNest, dIsNest := _, FIsNest := FIsNest, gIsNest := PySem.W.mg_of X G aIsNest, bIsNest := bIsNest, fObj := fObj, dObj := _, FObj := FObj, gObj := PySem.W.mg_of X G aObj, bObj := bObj, fRight := fRight, dRight := _, FRight := FRight, gRight := PySem.W.mg_of X G aRight, bRight := bRight, fAllR := fAllR, dAllR := _, FAllR := FAllR, gAllR := PySem.W.mg_of X G aAllR, bAllR := bAllR, fThr := fThr, dThr := _, FThr := FThr, gThr := PySem.W.mg_of X G aThr, bThr := bThr, kbIs := kb_one (fun s a => .of_eq rfl) (fun s a => .of_eq rfl) }
  refine ⟨PySem.W.fnOf "law" "law" (defArgs sLaw) (defBody sLaw) (defScope sLaw) .none kVL dcL pmL anL cvL ctL, fun s v => .of_eq rfl, fun base _ _ => ?_⟩
  exact ok_law FL W
theorem walk {l : PySem.W.OpenLaw} {q : Program} {loose : List Str} {XP : (Str → Option Value) → Heap → Prop} {YP : World → Heap → Prop} {d : DefRec} {K : Params → PySem.W.Frag} (hn : l.most = some 63) (hdf : d.params.defaults = [])
    (hY : ∀ (w : World) (h : Heap), YP w h → (K w.params).In h)
    (F : ∀ (w : World) (mg : Str → Option Value) (fa : Addr) (h : Heap), (K w.params).In h → h.Ns mainGlobals mg → mg d.name = some (.ref fa) →
      ∃ fd : FuncData, (∀ (s : Shared) (u : Value), BindsTo s fd ⟨[u], []⟩ [("script", u)]) ∧ ∀ base : Heap, (K w.params).In base → base.Ns mainGlobals mg → FnG l.prog w (K w.params) mg base CX0 25 fa fd ["script"] (spLaw (K w.params))) :
    PySem.W.WalkO q loose XP YP l.row.toRowW d [] (fun f vs => PySem.call f vs) :=
  walk_ofG (n := 63) (lv := 25) (x := "script") (cx := fun _ => CX0) (prom := fun w => spLaw (K w.params)) hn (by decide) hdf ⟨rfl, by decide, by decide⟩ hY F (fun _ _ a ns hl _ _ hS => ⟨a, ns, rfl, hS, hl, fun _ => rfl⟩) fun _ _ _ _ _ z => z
end K01


open PySem PySem.W PyProof.Rows in
set_option maxRecDepth 100000 in
set_option maxHeartbeats 0 in
theorem PySem.Challenge.cw_twopartings_k01_partings_judged_holds : PySem.Challenge.rw_twopartings_k01_partings_judged.Holds := by
  w_on; o_law; k_head; (case hw => w_witness2)
  k_fill
  refine K01.walk (l := PySem.Challenge.rw_twopartings_k01_partings_judged) rfl rfl (fun w h Y => PySem.W.kIn_of Y) ?F
  case F =>
    intro w mg fa h KX G hmg
    refine' K01.all_mk KX G hmg ?aNum ?lNum ?xNum ?kNum ?aPer ?lPer ?xPer ?kPer ?aAsc ?lAsc ?xAsc ?kAsc ?aPL ?lPL ?xPL ?kPL ?aGr ?lGr ?xGr ?kGr ?aMask ?lMask ?xMask ?kMask ?aCross ?lCross ?xCross ?kCross ?aAny ?lAny ?xAny ?kAny ?aIs ?lIs ?xIs ?kIs ?aPouch ?lPouch ?xPouch ?kPouch ?aDip ?lDip ?xDip ?kDip ?aItems ?lItems ?xItems ?kItems ?aFolk ?lFolk ?xFolk ?kFolk ?aPut ?lPut ?xPut ?kPut ?aNest ?lNest ?xNest ?kNest ?aLots ?lLots ?xLots ?kLots ?aRows ?lRows ?xRows ?kRows ?aLot ?lLot ?xLot ?kLot ?aCrL ?lCrL ?xCrL ?kCrL ?aIsLot ?lIsLot ?xIsLot ?kIsLot ?aIsNest ?lIsNest ?xIsNest ?kIsNest ?aObj ?lObj ?xObj ?kObj ?aRight ?lRight ?xRight ?kRight ?aAllR ?lAllR ?xAllR ?kAllR ?aThr ?lThr ?xThr ?kThr ?aL ?lL ?xL ?kL ?y_isinstance ?y_int ?y_bool ?y_list ?y_len ?y_all ?y_any ?y_sum ?y_zip ?y_sorted ?y_tuple ?y_range ?y_enumerate ?y_abs ?y_max ?y_min ?y_repr ?y_set ?zComb ?zMost
    (case aNum => k_is)
    (case lNum => k_is)
    (case xNum => k_is)
    (case kNum => k_is)
    (case aPer => k_is)
    (case lPer => k_is)
    (case xPer => k_is)
    (case kPer => k_is)
    (case aAsc => k_is)
    (case lAsc => k_is)
    (case xAsc => k_is)
    (case kAsc => k_is)
    (case aPL => k_is)
    (case lPL => k_is)
    (case xPL => k_is)
    (case kPL => k_is)
    (case aGr => k_is)
    (case lGr => k_is)
    (case xGr => k_is)
    (case kGr => k_is)
    (case aMask => k_is)
    (case lMask => k_is)
    (case xMask => k_is)
    (case kMask => k_is)
    (case aCross => k_is)
    (case lCross => k_is)
    (case xCross => k_is)
    (case kCross => k_is)
    (case aAny => k_is)
    (case lAny => k_is)
    (case xAny => k_is)
    (case kAny => k_is)
    (case aIs => k_is)
    (case lIs => k_is)
    (case xIs => k_is)
    (case kIs => k_is)
    (case aPouch => k_is)
    (case lPouch => k_is)
    (case xPouch => k_is)
    (case kPouch => k_is)
    (case aDip => k_is)
    (case lDip => k_is)
    (case xDip => k_is)
    (case kDip => k_is)
    (case aItems => k_is)
    (case lItems => k_is)
    (case xItems => k_is)
    (case kItems => k_is)
    (case aFolk => k_is)
    (case lFolk => k_is)
    (case xFolk => k_is)
    (case kFolk => k_is)
    (case aPut => k_is)
    (case lPut => k_is)
    (case xPut => k_is)
    (case kPut => k_is)
    (case aNest => k_is)
    (case lNest => k_is)
    (case xNest => k_is)
    (case kNest => k_is)
    (case aLots => k_is)
    (case lLots => k_is)
    (case xLots => k_is)
    (case kLots => k_is)
    (case aRows => k_is)
    (case lRows => k_is)
    (case xRows => k_is)
    (case kRows => k_is)
    (case aLot => k_is)
    (case lLot => k_is)
    (case xLot => k_is)
    (case kLot => k_is)
    (case aCrL => k_is)
    (case lCrL => k_is)
    (case xCrL => k_is)
    (case kCrL => k_is)
    (case aIsLot => k_is)
    (case lIsLot => k_is)
    (case xIsLot => k_is)
    (case kIsLot => k_is)
    (case aIsNest => k_is)
    (case lIsNest => k_is)
    (case xIsNest => k_is)
    (case kIsNest => k_is)
    (case aObj => k_is)
    (case lObj => k_is)
    (case xObj => k_is)
    (case kObj => k_is)
    (case aRight => k_is)
    (case lRight => k_is)
    (case xRight => k_is)
    (case kRight => k_is)
    (case aAllR => k_is)
    (case lAllR => k_is)
    (case xAllR => k_is)
    (case kAllR => k_is)
    (case aThr => k_is)
    (case lThr => k_is)
    (case xThr => k_is)
    (case kThr => k_is)
    (case aL => k_is)
    (case lL => k_is)
    (case xL => k_is)
    (case kL => k_is)
    (case y_isinstance => k_is)
    (case y_int => k_is)
    (case y_bool => k_is)
    (case y_list => k_is)
    (case y_len => k_is)
    (case y_all => k_is)
    (case y_any => k_is)
    (case y_sum => k_is)
    (case y_zip => k_is)
    (case y_sorted => k_is)
    (case y_tuple => k_is)
    (case y_range => k_is)
    (case y_enumerate => k_is)
    (case y_abs => k_is)
    (case y_max => k_is)
    (case y_min => k_is)
    (case y_repr => k_is)
    (case y_set => k_is)
    (case zComb => k_is)
    (case zMost => k_is)
