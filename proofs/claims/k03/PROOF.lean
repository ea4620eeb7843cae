import PyProof.Rows.All
import Wide.All
import OpenK.AllK
import Wide.FinOn
import PySem.Challenge.RW_twopartings_k03_partings_cut
import HandS.ForMost
import HandS.Wide
import HandS.WideBits
import PyProof.ReprRoads
import HandS.EndBits
import PyProof.ZipIter
import PyProof.CallType
import PyProof.Walk
import PyProof.WalkLemmas
import PyProof.RangeIter
import PyProof.RulesTry
import PyProof.TupleOfSeq
import KE.SortData
import KE.DataCmp
import HandS.DictComp
import HandS.Conv
import PyProof.Rows.BitMore
import PyProof.ReprLen
import HandS.IsInst
set_option Elab.async false
set_option linter.all false
set_option maxRecDepth 100000
set_option maxHeartbeats 4000000
namespace RepA
open PySem PySem.Spec PyProof.Rows L2

/-! ### data without a dict -/
mutual
theorem dp_nodict {K : PySem.W.Frag} {H : Hp} : ∀ (d : PyData) (v : V), Dp K H v d → d.hasDict = false
  | .none, _, _ => by simp only [PyData.hasDict]
  | .bool _, _, _ => by simp only [PyData.hasDict]
  | .int _, _, _ => by simp only [PyData.hasDict]
  | .str _, _, _ => by simp only [PyData.hasDict]
  | .list ds, _, h => by
    cases h with
    | lst hs ha =>
      simp only [PyData.hasDict]
      exact dpAll_nodict ds _ ha
  | .tuple ds, _, h => by
    cases h with
    | tup hs ha =>
      simp only [PyData.hasDict]
      exact dpAll_nodict ds _ ha
  | .dict _, _, h => by cases h
theorem dpAll_nodict {K : PySem.W.Frag} {H : Hp} : ∀ (ds : List PyData) (vs : List V), DpAll K H vs ds → PyData.hasDictAll ds = false
  | [], _, _ => by simp only [PyData.hasDictAll]
  | d :: ds, _, h => by
    cases h with
    | cons h1 h2 => simp only [PyData.hasDictAll, dp_nodict d _ h1, dpAll_nodict ds _ h2, Bool.or_self]
end

/-! ### an item: data, or an empty dict -/
def Dd (K : PySem.W.Frag) (H : Hp) (v : V) (d : PyData) : Prop := Dp K H v d ∨ ∃ a, v = .ref a ∧ H a = some (.dK []) ∧ d = .dict []
inductive DdAll (K : PySem.W.Frag) (H : Hp) : List V → List PyData → Prop
  | nil : DdAll K H [] []
  | cons {v : V} {vs : List V} {d : PyData} {ds : List PyData} : Dd K H v d → DdAll K H vs ds → DdAll K H (v :: vs) (d :: ds)
theorem DdAll.of_dp {K : PySem.W.Frag} {H : Hp} : ∀ {vs : List V} {ds : List PyData}, DpAll K H vs ds → DdAll K H vs ds
  | _, _, .nil => .nil
  | _, _, .cons h r => .cons (.inl h) (.of_dp r)

section
variable {X : Cx} {pins : List (Addr × Obj)} {σ : L2.St} {H : Hp} {s : Shared}
theorem dd_reads (I : Inv X pins σ H s) {v : V} {u : Value} {d : PyData} (h : Dd X.K H v d) (r : RelV v u) : ∃ as, Reads s.heap u d as ∧ (d.hasDict = true → sysModules ∉ as) := by
  rcases h with h | ⟨a, rfl, ha, rfl⟩
  · obtain ⟨as, q⟩ := Dp.reads I d v u h r
    exact ⟨as, q, fun e => by rw [dp_nodict d v h] at e; cases e⟩
  · obtain rfl : u = Value.ref a := r
    obtain ⟨_, hn, vs, rel, dd⟩ := dk_of I.hok ha
    obtain ⟨o, es, ep, e1, e2, e3, e4⟩ := dd
    cases rel
    have hes : es.toList = [] := by
      have q := e4.2.1
      generalize es.toList = l at q
      cases q
      rfl
    refine ⟨[a], ?_, fun _ hm => ?_⟩
    · refine Reads.dict (as := []) (bs := []) e1 e2.1 e3 ?_ ?_
      · rw [hes]
        exact ReadsAll.nil
      · rw [hes]
        exact ReadsAll.nil
    · rcases List.mem_cons.mp hm with q | q
      · rw [q] at hn
        rw [beq_self_eq_true] at hn
        cases hn
      · cases q

/-- all items, each by itself -/
theorem dd_all (I : Inv X pins σ H s) : ∀ {vs : List V} {ds : List PyData} {us : List Value}, DdAll X.K H vs ds → Vals vs us → PyData.showableAll ds = true → (∀ t ∈ PyData.shownAll ds, t.length ≤ sizeLine) →
    (∃ as, ReadsAll s.heap us ds as) ∧ ∃ bs, ReadAtMost s.heap (PyData.depthAll ds) bs ∧ ReprAllK X.prog X.w bs s.heap (PyData.depthAll ds) us (PyData.shownAll ds)
  | _, _, _, .nil, .nil, _, _ => ⟨⟨_, .nil⟩, [], (fun _ h => nomatch h), by simp only [PyData.shownAll]; exact .nil⟩
  | _, _, _, .cons (d := d) (ds := ds) h hr, .cons r rr, hs, hz => by
    obtain ⟨s1, s2⟩ : d.showable = true ∧ PyData.showableAll ds = true := by simpa [PyData.showableAll] using hs
    obtain ⟨a1, q1, n1⟩ := dd_reads I h r
    obtain ⟨b1, m1, k1⟩ := ReprK.of_reads (prog := X.prog) (w := X.w) q1 s1 n1 (hz _ (by simp only [PyData.shownAll]; exact List.mem_cons_self ..))
    obtain ⟨⟨a2, q2⟩, b2, m2, k2⟩ := dd_all I hr rr s2 fun t ht => hz t (by simp only [PyData.shownAll]; exact List.mem_cons_of_mem _ ht)
    have l1 : d.depth ≤ PyData.depthAll (d :: ds) := by simp only [PyData.depthAll]; omega
    have l2 : PyData.depthAll ds ≤ PyData.depthAll (d :: ds) := by simp only [PyData.depthAll]; omega
    refine ⟨⟨_, .cons q1 q2⟩, b1 ++ b2, fun b hb => ?_, ?_⟩
    · rcases List.mem_append.mp hb with hb | hb
      · obtain ⟨d', as', r', z⟩ := m1 b hb
        exact ⟨d', as', r', Nat.le_trans z l1⟩
      · obtain ⟨d', as', r', z⟩ := m2 b hb
        exact ⟨d', as', r', Nat.le_trans z l2⟩
    · simp only [PyData.shownAll]
      exact .cons ((k1.more fun b hb => List.mem_append.mpr (.inl hb)).level_le l1) (k2.more_le (fun b hb => List.mem_append.mpr (.inr hb)) l2)

/-- repr of a list of data and empty dicts, where no guard stands -/
theorem call_reprL (hg : X.A.guards = some []) (hu : X.A.units + 64 < cLine) : CallR X (.builtin "repr") (fun xs H Q => ∃ a ys ds, xs = [V.ref a] ∧ SqL X.K H a ys ∧ DdAll X.K H ys ds ∧ PyData.showableAll ds = true ∧ PyData.depthAll ds ≤ 40 ∧
    (listText (PyData.shownAll ds)).length ≤ sizeLine ∧ Q (.str (PyData.list ds).shown) H) := by
  intro pins s σ H xs us Q I r h
  obtain ⟨a, ys, ds, rfl, hs, hd, hw, hdp, hz, q⟩ := h
  obtain ⟨u, rfl, ru⟩ := vals1 r
  obtain rfl : u = Value.ref a := ru
  obtain ⟨its, rv, ⟨o, n, ho, hc, hne, hda⟩, hsz⟩ := I.list hs
  obtain ⟨⟨as, hR⟩, bs, hb, hk⟩ := dd_all I hd rv hw fun t ht => Nat.le_trans (listText_mem_le ht) hz
  have rd : Reads s.heap (.ref a) (.list ds) (a :: as) := .list ho hc hda hR
  have hna : a ∉ bs := not_mem_of_deeper rd (by simp only [PyData.depth]; omega) hb
  have fin : ∀ (t tk : Nat) (h' : Heap), (∀ b o, s.heap.get? b = some o → h'.get? b = some o) → EP X pins σ Q (.str (listText (PyData.shownAll ds)) t) { s with heap := h', toks := tk } := fun t tk h' k =>
    ⟨.str _, H, I.kept k, ⟨t, rfl⟩, by simpa only [PyData.shown] using q⟩
  refine call_repr_slot (by omega) ⟨o, ho, hc⟩ F.slot_list_repr.toG ?_
  obtain ⟨l⟩ : ∃ l, l = its := ⟨_, rfl⟩
  cases its with
  | nil =>
    cases hR
    exact call_list_repr_empty ⟨o, ho, hc⟩ ho hda ⟨_, _, rfl, by simpa only [PyData.shownAll, listText_nil] using fin s.toks (s.toks + 1) s.heap fun _ _ e => e⟩
  | cons x l =>
    refine call_list_reprK (h₀ := s.heap) ho hc hda hna (by simpa using hk.length_eq) (fun i y e => hk.item i y (by simpa using e)) hg (fun b _ => Clear.nil b) (by show X.A.units + 1 + (PyData.depthAll ds + 1) < cLine; omega) (fun _ _ e => e) (fun h' t tk k => ⟨_, _, rfl, fin t tk h' k⟩) hz
end
end RepA

namespace RepA
open PySem PySem.Spec PyProof.Rows L2

/-! ### the promise of a def that is called where no guard stands -/
structure FnG (Pg : Program) (wd : World) (Kf : PySem.W.Frag) (gl : Str → Option Value) (bs : Heap) (cx : CXT) (lv : Nat) (fa : Addr) (dat : FuncData) (names : List Str) (prom : Sp) : Prop where
  cnt : ∀ xs G Qv Ex, prom xs G Qv Ex → xs.length = names.length
  go : ∀ (Ar : Around) (fr : List Env) (sh : Shared) (G : Hp) (ar : Args) (us : List Value) (xs : List V) (Qv : VK) (Ex : XK), Room lv Ar → Ar.guards = some [] →
    Env0 Pg wd Kf gl bs Ar fr sh G → BindsTo sh dat ar (names.zip us) → Vals xs us → prom xs G Qv Ex →
    codeAny (model Pg wd) Ar (.call (.ref fa) ar) (CR cx fr Pg wd G sh Qv Ex) sh

theorem FnG.of {Pg : Program} {wd : World} {Kf : PySem.W.Frag} {gl : Str → Option Value} {bs : Heap} {cx : CXT} {lv : Nat} {fa : Addr} {dat : FuncData} {names : List Str} {prom : Sp}
    (f : FnOk Pg wd Kf gl bs cx lv fa dat names prom) : FnG Pg wd Kf gl bs cx lv fa dat names prom :=
  ⟨f.len, fun Ar fr sh G ar us xs Qv Ex r _ e b v p => f.run Ar fr sh G ar us xs Qv Ex r e b v p⟩

/-- a def of the text by its body, where no guard stands -/
theorem okG {Pg : Program} {wd : World} {Kf : PySem.W.Frag} {gl : Str → Option Value} {bs : Heap} {nm qn : Str} {st : Stmt} {fa : Addr} {dat : FuncData} {slots names : List Str} {lv : Nat} {prom : Sp}
    (F : Fun Kf nm qn st fa dat) (S : FnScope slots names (defScope st)) (cnt : ∀ xs G Qv Ex, prom xs G Qv Ex → xs.length = names.length)
    (body : ∀ (cd : Value) (Ar : Around) (fr : List Env) (sh : Shared) (G : Hp) (xs : List V) (Qv : VK) (Ex : XK), Room lv (Ar.deeper (envOfC qn (defScope st) sh.heap.objs.size fa cd)) → Ar.guards = some [] → prom xs G Qv Ex →
      ∃ t, PSs (cxOf CX0 Pg wd Kf gl bs slots qn (defScope st) fa cd Ar fr sh G Ex).nox (defBody st) t ∧ t { nx := fun _ G' => Qv .non G', rt := Qv } (start slots xs) G) :
    FnG Pg wd Kf gl bs CX0 (lv + 1) fa dat names prom := by
  obtain ⟨oc, od, kV, doc, pm, an, cd, ct, osl, rfl, look, code⟩ := F.ex
  refine ⟨cnt, fun Ar fr sh G ar us xs Qv Ex room noG env bind vals hp => ?_⟩
  have sz := cnt _ _ _ _ hp
  have inK : Kf.In sh.heap := env.mod.kin.keeps fun b o q => (env.bs b o q).1
  have noL : sh.heap.NoLimit := env.mod.nolimit.keeps fun b o q => (env.bs b o q).1
  have kinds : ∀ y ∈ names.zip us, (defScope st).names.lookup y.1 = some .local ∨ ((defScope st).names.lookup y.1 = some .cell ∧ ((cellsFrom (sh.heap.objs.size + 1) (defScope st).names []).lookup y.1).isSome = true) := by
    rintro ⟨n, v⟩ hy
    rcases S.par n (List.of_mem_zip hy).1 with z | z
    · exact .inl z
    · exact .inr ⟨z, PySem.W.cellsFrom_some _ _ _ (.inl z)⟩
  refine codeAny_call_function room.depth (inK _ _ look) rfl S.co S.gen rfl (PySem.W.codeRec_of inK code) (bind _ _ _ _ ?_)
  refine wpAny_newFunctionEnv_cells S.kind kinds fun en hen sh1 inC => ?_
  subst hen
  refine ⟨noL.keeps inC.toInCall.keep, codeAny_func ?_⟩
  obtain ⟨t, walk, read⟩ := body cd Ar fr sh G xs Qv Ex (room.deeper _) noG hp
  have I0 := inv_start (CX := CX0) (P := Pg) (w := wd) (K := Kf) (mg := gl) (base := bs) (E := Ex) S room.hd env sz vals inC
  refine wpAny_mono (walk.nox.run [] sh1 _ G _ I0 read) (fun fl sh2 out => ?_) fun _ _ x => x
  cases fl with
  | ret u =>
    obtain ⟨v, σ2, G2, J, rel, q⟩ := out
    exact ⟨v, G2, J.os, J.bare, J.base, J.hok, rel, q⟩
  | next =>
    obtain ⟨σ2, G2, J, q⟩ := out
    exact ⟨V.non, G2, J.os, J.bare, J.base, J.hok, (rfl : RelV V.non Value.none), q⟩
  | brk => exact out.elim fun _ z => z.elim fun _ z => z.2.elim
  | cont => exact out.elim fun _ z => z.elim fun _ z => z.2.elim

section
variable {X : Cx} {x : Str} {p pos : Pos} {e : Expr} {es : List Expr} {t : TA} {CX : CXT} {k : Nat} {f : Addr} {fd : FuncData} {ps : List Str} {sp : Sp} {ds : List Value} {dvs : List V} {E : XK}
/-- f(e, ..), f such a def -/
theorem pe_callG (F : FnG X.prog X.w X.K X.mg X.base CX k f fd ps sp) (room : Room k X.A) (noG : X.A.guards = some []) (hg : Gl X x) (hm : X.mg x = some (.ref f)) (kp : PySem.W.keepIn X.K (.ref f) = true) (bd : Binds X.K fd ps ds) (dv : Vals dvs ds) (ps' : Passes CX X E)
    (args : PA X (e :: es) t) (hdb : (x == ("__debug__" : Str)) = false := by decide) (h1 : starEach (e :: es) X.env = (false, eval e X.env) :: starEach es X.env := by rfl) (h2 : (backTo pos (starEach es X.env)).any (·.1) = false := by rfl) :
    PE X (.Call (.Name x p) (e :: es) [] pos) (tCall sp dvs E t) := by
  refine ⟨fun pins s σ H Q I rd => ?_⟩
  refine wpAny_Call_Name_kw (ld_glob I hg hm ?_ hdb)
  refine PySem.W.callWith_K (h₀ := X.base) I.ok.mod.kin kp (thn (args.run pos pins s σ H _ I rd) fun us s1 ⟨vs, H1, I1, rv, q⟩ => ⟨I1.kIn, ?_⟩) h1 h2
  have rv2 : Vals (vs ++ dvs) (us ++ ds) := rv.append dv
  have sz : (us ++ ds).length = ps.length := rv2.length.symm.trans (F.cnt _ _ _ _ q)
  refine wpAny_call (codeAny_mono (F.go X.A X.stack s1 H1 ⟨us, []⟩ _ _ Q E room noG I1.env0 (bd s1 us I1.kIn sz) rv2 q) fun r s2 out => ?_)
  match r, out with
  | .error er, out => exact ps' pins σ H1 s1 er s2 I1 out
  | .ok (.ret u), out => exact I1.after out
  | .ok .next, out => exact out.elim
  | .ok .brk, out => exact out.elim
  | .ok .cont, out => exact out.elim
end
end RepA

namespace RepA
open PySem PySem.Spec PyProof.Rows L2

/-- the law's call from the caller, over an abstract heap that holds at most the script -/
theorem from_caller {Pg : Program} {wd : World} {Kf : PySem.W.Frag} {gl mb : Str → Option Value} {cx : CXT} {lv : Nat} {fa a : Addr} {dat : FuncData} {x : Str} {prom : Sp} {sh : Shared} {ob : Obj} {n0 : Nat} {vals : Array Value}
    (inK : Kf.In sh.heap) (nG : sh.heap.Ns mainGlobals gl) (nB : sh.heap.Ns builtinsNs mb) (isB : ∀ y : Str, y ≠ "__name__" → mb y = bootBuiltins y) (noL : sh.heap.NoLimit) (noGen : sh.gens = #[]) (at_a : sh.heap.get? a = some ob) (list_a : ob.data = .seq vals n0)
    (room : Room lv callerA) (F : ∀ bs : Heap, Kf.In bs → bs.Ns mainGlobals gl → FnG Pg wd Kf gl bs cx lv fa dat [x] prom) (bd : ∀ (s : Shared) (u : Value), BindsTo s dat ⟨[u], []⟩ [(x, u)])
    (noX : ∀ G e s', cx [] G sh (fun _ _ _ => False) e s' → False) (G : Hp) (only : Only G) (keeps : HOk Pg wd G sh.heap) (justA : ∀ b, G b ≠ none → b = a) (notK : G a ≠ none → Kf.lookup a = none)
    (hp : prom [.ref a] G (fun v _ => v = .bl true) fun _ _ _ => False) :
    codeAny (model Pg wd) callerA (.call (.ref fa) ⟨[.ref a], []⟩) (fun r s' => r = .ok (.ret (.bool true)) ∧ OldK sh.heap s'.heap ∧ s'.os = sh.os ∧ AllBare s'.gens) sh := by
  have free : ∀ {b : Addr}, b ≠ a → G b = none := fun {b} ne => Classical.byContradiction fun z => ne (justA b z)
  have hides : ∀ {b : Addr} {o : Obj}, sh.heap.get? b = some o → G b = none → (hidT sh.heap G).get? b = some o := fun q z => hidT_get q z
  have ns : ∀ {b : Addr} {m : Str → Option Value}, sh.heap.Ns b m → (hidT sh.heap G).Ns b m := fun {b m} h => by
    obtain ⟨o, es, ep, q, dd, rest⟩ := h
    refine ⟨o, es, ep, hides q (free fun z => ?_), dd, rest⟩
    rw [z, at_a] at q
    cases q
    rw [list_a] at dd
    cases dd
  have inK' : Kf.In (hidT sh.heap G) := fun b o q => hides (inK b o q) (by
    rcases Option.eq_none_or_eq_some (G b) with z | ⟨u, z⟩
    · exact z
    · have ne : G b ≠ none := by rw [z]; exact fun c => nomatch c
      have ba := justA b ne
      rw [ba] at q ne
      rw [notK ne] at q
      cases q)
  have md : Mod Kf gl (hidT sh.heap G) := ⟨inK', ns nG, ⟨mb, ns nB, isB⟩, let ⟨mc, z1, z2⟩ := noL; ⟨mc, ns z1, z2⟩⟩
  have env : Env0 Pg wd Kf gl (hidT sh.heap G) callerA [] sh G := ⟨rfl, md, fun _ _ q => of_hidT q, Nat.le_of_eq (hidT_size _ _), trivial, (fun b hb => nomatch hb), keeps, .of_eq noGen⟩
  refine codeAny_mono ((F _ inK' (ns nG)).go callerA [] sh G ⟨[.ref a], []⟩ [.ref a] [.ref a] _ _ room rfl env (bd sh (.ref a)) (.cons rfl .nil) hp) fun r s' out => ?_
  match r, out with
  | .error er, out => exact (noX G er s' out).elim
  | .ok .next, out => exact out.elim
  | .ok .brk, out => exact out.elim
  | .ok .cont, out => exact out.elim
  | .ok (.ret u), out =>
    obtain ⟨v, G', hos, hbare, un, keeps', rel, ev⟩ := out
    have ev' : v = .bl true := ev
    subst ev'
    obtain rfl : u = Value.bool true := rel
    refine ⟨rfl, OldK.of_keep fun b o q => ?_, hos, hbare⟩
    rcases only b with z | ⟨o2, ys, z⟩
    · exact un.keep b o q z (fun c => nomatch c) (fun c => nomatch c)
    · obtain ⟨w1, _⟩ := keeps b _ z
      obtain ⟨w2, _⟩ := keeps' b _ (un.frzs b o2 _ z)
      rw [q] at w1
      cases w1
      exact w2

theorem law_callG {Pg : Program} {wd : World} {Kf : PySem.W.Frag} {gl mb : Str → Option Value} {cx : CXT} {lv : Nat} {fa a : Addr} {dat : FuncData} {x : Str} {prom : Sp} {sh : Shared} {vals : List Value} {ns : List Int}
    (inK : Kf.In sh.heap) (nG : sh.heap.Ns mainGlobals gl) (nB : sh.heap.Ns builtinsNs mb) (isB : ∀ y : Str, y ≠ "__name__" → mb y = bootBuiltins y) (noL : sh.heap.NoLimit) (noGen : sh.gens = #[])
    (at_a : sh.heap.get? a = some { cls := .type "list", data := .seq vals.toArray }) (inz : IntsAre vals ns) (short : ns.length ≤ sizeLine) (room : Room lv callerA)
    (F : ∀ bs : Heap, Kf.In bs → bs.Ns mainGlobals gl → FnG Pg wd Kf gl bs cx lv fa dat [x] prom) (bd : ∀ (s : Shared) (u : Value), BindsTo s dat ⟨[u], []⟩ [(x, u)])
    (hp : ∀ G : Hp, Only G → SqL Kf G a (ns.map V.int) → prom [.ref a] G (fun v _ => v = .bl true) fun _ _ _ => False) (noX : ∀ G e s', cx [] G sh (fun _ _ _ => False) e s' → False) :
    codeAny (model Pg wd) callerA (.call (.ref fa) ⟨[.ref a], []⟩) (fun r s' => r = .ok (.ret (.bool true)) ∧ OldK sh.heap s'.heap ∧ s'.os = sh.os ∧ AllBare s'.gens) sh := by
  have rv := vals_ints inz
  rcases Option.eq_none_or_eq_some (Kf.lookup a) with nk | ⟨o, isK⟩
  · let G : Hp := fun b => if b = a then some (.frz { cls := .type "list", data := .seq vals.toArray } (.lst (ns.map V.int))) else none
    have ga : G a = some (.frz { cls := .type "list", data := .seq vals.toArray } (.lst (ns.map V.int))) := if_pos rfl
    have gb : ∀ {b : Addr}, b ≠ a → G b = none := fun ne => if_neg ne
    have justA : ∀ b, G b ≠ none → b = a := fun b z => Classical.byContradiction fun ne => z (gb ne)
    have only : Only G := fun b => by
      by_cases ne : b = a
      · subst ne
        exact .inr ⟨_, _, ga⟩
      · exact .inl (gb ne)
    refine from_caller inK nG nB isB noL noGen at_a rfl room F bd noX G only (fun b u z => ?_) justA (fun _ => nk) (hp G only (.inl (.inr ⟨_, ga⟩)))
    have ba := justA b (by rw [z]; exact fun c => nomatch c)
    subst ba
    rw [ga] at z
    cases z
    exact ⟨at_a, by rw [List.length_map]; exact short, vals, _, rv, at_a⟩
  · have e := inK a o isK
    rw [at_a] at e
    cases e
    exact from_caller inK nG nB isB noL noGen at_a rfl room F bd noX (fun _ => none) (fun _ => .inl rfl) (fun b u z => nomatch z) (fun b z => absurd rfl z) (fun z => absurd rfl z)
      (hp _ (fun _ => .inl rfl) (.inr ⟨_, vals.toArray, _, isK, rfl, rfl, rfl, by rw [List.size_toArray, inz.length]; exact short, by simpa using rv⟩))

/-- the end of a law row, for a law that asks where no guard stands; the script's bits told -/
theorem walk_ofG {l : PySem.W.OpenLaw} {n lv : Nat} {q : Program} {loose : List Str} {XP : (Str → Option Value) → Heap → Prop} {YP : World → Heap → Prop} {d : DefRec} {K : Params → PySem.W.Frag} {cx : World → CXT} {prom : World → Sp} {x : Str}
    (most : l.most = some n) (short : n ≤ sizeLine) (noD : d.params.defaults = []) (room : Room lv callerA) (hY : ∀ (w : World) (h : Heap), YP w h → (K w.params).In h)
    (F : ∀ (w : World) (gl : Str → Option Value) (fa : Addr) (h : Heap), (K w.params).In h → h.Ns mainGlobals gl → gl d.name = some (.ref fa) →
      ∃ dat : FuncData, (∀ (s : Shared) (u : Value), BindsTo s dat ⟨[u], []⟩ [(x, u)]) ∧ ∀ bs : Heap, (K w.params).In bs → bs.Ns mainGlobals gl → FnG l.prog w (K w.params) gl bs (cx w) lv fa dat [x] (prom w))
    (hp : ∀ (w : World) (G : Hp) (a : Addr) (ns : List Int), ns.length ≤ n → (∀ z ∈ ns, Builtin.Int.intBits z ≤ 1048576) → Only G → SqL (K w.params) G a (ns.map V.int) → prom w [.ref a] G (fun v _ => v = .bl true) fun _ _ _ => False)
    (noX : ∀ (w : World) (G : Hp) (s : Shared) (e : Value) (s' : Shared), cx w [] G s (fun _ _ _ => False) e s' → False) :
    PySem.W.WalkO q loose XP YP l.row.toRowW d [] (fun f vs => PySem.call f vs) := by
  refine Att.attach_callB most noD fun w _ sh gl mb fa _ _ _ _ a vals ns gr y _ _ _ named at_a inz few bits noGen => ?_
  obtain ⟨dat, bd, FG⟩ := F w gl fa _ (hY w _ y) gr.T.g named
  exact law_callG (hY w _ y) gr.T.g gr.T.b gr.T.builtins gr.T.nolimit noGen at_a inz (Nat.le_trans few short) room FG bd (fun G o s => hp w G a ns few bits o s) fun G e s' => noX w G sh e s'
end RepA

/-! itertools.combinations(list, 2), made and drawn. -/
namespace Comb
open PySem PySem.Spec
open Sem (wp)
abbrev cName : String := "itertools.combinations"
theorem cMro : mroOf (.type "itertools.combinations") = pure [.type "itertools.combinations", .type "object"] := by rw [mroOf_type]; kernel_rfl
theorem cNew : typeLookup (.type "itertools.combinations") "__new__" = pure (some (.builtin "itertools.combinations.__new__")) := by rw [typeLookup_type, builtinLookup_eq_fast]; kernel_rfl
theorem cInit : Slot "itertools.combinations" "__init__" "object.__init__" :=
  .of (owner := "object") (n := "__init__") (by rw [typeLookup_type, builtinLookup_eq_fast]; kernel_rfl) (by decide +kernel) (by decide +kernel) (by decide +kernel) (by first | exact .inl (by decide +kernel) | exact .inr (by decide +kernel)) (by rw [isSubtype_type]; kernel_rfl)
theorem cSub : isSubtype (.type "itertools.combinations") (.type "itertools.combinations") = pure true := by rw [isSubtype_type]; kernel_rfl
theorem cCalled : TypeCalled "itertools.combinations" "itertools.combinations.__new__" "object.__init__" :=
  ⟨by decide +kernel, by decide +kernel, ⟨_, _, cMro⟩, madeBy_type cMro cNew (by decide +kernel), by decide +kernel, cSub, cInit⟩
theorem cType2 (a b : Value) : checkTypeCall "itertools.combinations" ⟨[a, b], []⟩ = pure () := by kernel_rfl
theorem cNew2 (a b : Value) : checkBuiltinCall "itertools.combinations.__new__" ⟨[.type "itertools.combinations", a, b], []⟩ = pure () := by kernel_rfl
theorem cEntryNew : entryFor table "itertools.combinations.__new__" = some Builtin.«itertools.combinations.__new__» := entryFor_of_tree (by kernel_rfl)
theorem cEntryNext : entryFor table "itertools.combinations.__next__" = some Builtin.«itertools.combinations.__next__» := entryFor_of_tree (by kernel_rfl)
theorem cEntryIter : entryFor table "itertools.combinations.__iter__" = some Builtin.«dict_keyiterator.__iter__» :=
  entryFor_alias (id' := "dict_keyiterator.__iter__") (by kernel_rfl) (by first | rfl | decide +kernel | (unfold String.splitOn; simp +decide [String.splitOnAux])) (by decide +kernel) (by kernel_rfl)
theorem cIter : Slot "itertools.combinations" "__iter__" "itertools.combinations.__iter__" :=
  .of (owner := "itertools.combinations") (n := "__iter__") (by rw [typeLookup_type, builtinLookup_eq_fast]; kernel_rfl) (by decide +kernel) (by decide +kernel) (by decide +kernel) (by first | exact .inl (by decide +kernel) | exact .inr (by decide +kernel)) cSub
theorem cNext : Slot "itertools.combinations" "__next__" "itertools.combinations.__next__" :=
  .of (owner := "itertools.combinations") (n := "__next__") (by rw [typeLookup_type, builtinLookup_eq_fast]; kernel_rfl) (by decide +kernel) (by decide +kernel) (by decide +kernel) (by first | exact .inl (by decide +kernel) | exact .inr (by decide +kernel)) cSub
theorem cOwner : Manifest.owners.lookup (String.ofList "snoitanibmoc.slootreti".toList.reverse) = some Manifest.sig_itertools_combinations := by kernel_rfl
theorem cArgsIter (a : Value) : argsOk "itertools.combinations.__iter__" ⟨[a], []⟩ := by
  unfold argsOk
  rw [signature?_of (id := "itertools.combinations.__iter__") (n := ['_', '_', 'r', 'e', 't', 'i', '_', '_']) (o := "snoitanibmoc.slootreti".toList) (by kernel_rfl) cOwner]
  kernel_rfl
theorem cArgsNext (a : Value) : argsOk "itertools.combinations.__next__" ⟨[a], []⟩ := by
  unfold argsOk
  rw [signature?_of (id := "itertools.combinations.__next__") (n := ['_', '_', 't', 'x', 'e', 'n', '_', '_']) (o := "snoitanibmoc.slootreti".toList) (by kernel_rfl) cOwner]
  kernel_rfl
theorem cNoDict : typeHasDict (.type "itertools.combinations") = false := by decide +kernel

/-- such an object: its pool, its state, what it handed out last, its places -/
def recC (pool : Addr) (st : Int) (last : Value) (i j : Int) : Obj := { cls := .type "itertools.combinations", dict := none, data := .fields #[.ref pool, rawInt st, last, rawInt i, rawInt j], slots := #[] }
abbrev IsC (h : Heap) (it pool : Addr) (st : Int) (last : Value) (i j : Int) : Prop := h.get? it = some (recC pool st last i j)
def tupO (xs : Array Value) : Obj := { cls := .type "tuple", data := .seq xs }

end Comb

namespace Comb
open PySem PySem.Spec
open Sem (wp)
theorem joinName : "itertools." ++ "combinations" = "itertools.combinations" := by decide
theorem new_meets (l : Addr) (o : Obj) (items : Array Value) (n : Nat) (t : Tok) (hc : o.cls = .type "list") (hd : o.data = .seq items n) (hsz : items.size ≤ sizeLine) :
    Meets (Builtin.«itertools.combinations.__new__» ⟨[.type "itertools.combinations", .ref l, .int 2 t], []⟩)
      (fun _ R s => s.heap.get? l = some o ∧ ∀ h' : Heap, (∀ b u, s.heap.get? b = some u → h'.get? b = some u) → R (.ok (.ret (.ref (h'.objs.size + 1)))) { s with heap := (h'.push (tupO items)).push (recC h'.objs.size (if 2 > items.size then 2 else 0) .none 0 1) }) :=
  .of_wp fun prog w A R s h => by
    obtain ⟨hp, g, dd, tk, os⟩ := s
    obtain ⟨at_l, h⟩ := h
    have hsub := cSub
    have hdic := cNoDict
    have hT : Shared.TypeIs ⟨hp, g, dd, tk, os⟩ (.ref l) "list" := ⟨o, at_l, hc⟩
    unfold Builtin.«itertools.combinations.__new__»
    repeat (first
      | (with_reducible refine wpAny_collect_seq (hsz := hsz) l (.inl rfl) at_l hc hd fun h' keep => ?_)
      | wp_step
      | (rw [joinName]))
    refine ⟨_, rfl, ?_⟩
    have e1 : items.toList.toArray = items := by simp
    have e2 : (h'.push (tupO items)).objs.size = h'.objs.size + 1 := Heap.size_push ..
    have e3 : items.toList.length = items.size := by simp
    rw [e1, e3]
    have q := h h' keep
    rw [← e2] at q
    exact q

end Comb

namespace Comb
open PySem PySem.Spec
open Sem (wp)
section
variable {prog : Program} {w : World} {A : Around} {E : Value → Shared → Prop} {s : Shared}
/-- combinations(l, 2): the heap grows by what is kept, then by the pool and the record -/
theorem call_comb {l : Addr} {o : Obj} {items : Array Value} {n : Nat} {t : Tok} {Q : Value → Shared → Prop} (at_l : s.heap.get? l = some o) (hc : o.cls = .type "list") (hd : o.data = .seq items n) (hsz : items.size ≤ sizeLine)
    (h : ∀ h1 : Heap, (∀ b u, s.heap.get? b = some u → h1.get? b = some u) → Q (.ref (h1.objs.size + 1)) { s with heap := (h1.push (tupO items)).push (recC h1.objs.size (if 2 > items.size then 2 else 0) .none 0 1) }) :
    wpAny (model prog w) A (call (.type "itertools.combinations") [.ref l, .int 2 t]) Q E s := by
  refine callType_new cCalled (by decide +kernel) (cType2 _ _) (cNew2 _ _) (fun obj => F.args_object_init_3 obj _ _) cEntryNew (new_meets l o items n t hc hd hsz) ?_
  refine ⟨at_l, fun h1 keep => ⟨⟨recC h1.objs.size (if 2 > items.size then 2 else 0) .none 0 1, ?_, rfl⟩, h h1 keep⟩⟩
  have sz : (h1.push (tupO items)).objs.size = h1.objs.size + 1 := Heap.size_push ..
  show Heap.get? _ (h1.objs.size + 1) = some (recC h1.objs.size (if 2 > items.size then 2 else 0) .none 0 1)
  rw [← sz]
  exact Heap.get?_push_size _ rfl
theorem iter_comb {it pool : Addr} {st i j : Int} {last : Value} {Q : Value → Shared → Prop} (hit : IsC s.heap it pool st last i j) (h : Q (.ref it) s) : wpAny (model prog w) A (pyIter (.ref it)) Q E s := by
  have hT : s.TypeIs (.ref it) "itertools.combinations" := ⟨_, hit, rfl⟩
  refine wpAny_pyIter_slot hT cIter (wpAny_call_entry cIter hT cEntryIter ?_ (cArgsIter _))
  show wpAny _ _ (ret (.ref it)) _ _ s
  exact wpAny_pure ⟨_, rfl, "itertools.combinations", _, hT, cNext.lookup, h⟩

theorem apart {h : Heap} {it pool : Addr} {st i j : Int} {last : Value} {items : Array Value} (hit : IsC h it pool st last i j) (hp : h.get? pool = some (tupO items)) : it ≠ pool := fun e => by
  rw [e] at hit
  have z : Value.type "tuple" = Value.type "itertools.combinations" := congrArg Obj.cls (Option.some.inj (hp.symm.trans hit))
  exact absurd (Value.type.inj z) (by decide)
/-- what is handed out is laid, then held by the record -/
theorem handed {h U : Heap} {it pool : Addr} {last : Value} {i j : Int} {xs : Array Value} (hU : IsC U it pool 1 last i j) (keep : ∀ b, b ≠ it → U.get? b = h.get? b) (sz : U.objs.size = h.objs.size) :
    (∀ b, b ≠ it → ∀ u, h.get? b = some u → ((U.push (tupO xs)).update it (Obj.mapFields fun x => x.setIfInBounds 2 (.ref U.objs.size))).get? b = some u) ∧
    ((U.push (tupO xs)).update it (Obj.mapFields fun x => x.setIfInBounds 2 (.ref U.objs.size))).get? h.objs.size = some (tupO xs) ∧
    IsC ((U.push (tupO xs)).update it (Obj.mapFields fun x => x.setIfInBounds 2 (.ref U.objs.size))) it pool 1 (.ref h.objs.size) i j := by
  have lt : it < U.objs.size := Heap.lt_size hU
  refine ⟨fun b ne u q => ?_, ?_, ?_⟩
  · exact (Heap.get?_update_other _ _ ne.symm).trans (Heap.get?_push_of_some _ ((keep b ne).trans q))
  · rw [← sz]
    exact (Heap.get?_update_other _ _ (Nat.ne_of_lt lt)).trans (Heap.get?_push_size _ rfl)
  · rw [← sz]
    exact Heap.get?_update_self _ (Heap.get?_push_of_some _ hU) rfl
theorem next_first {it pool : Addr} {last : Value} {items : Array Value} {n : Nat} {Q : Option Value → Shared → Prop} (hit : IsC s.heap it pool 0 last 0 1) (hp : s.heap.get? pool = some (tupO items)) (h2 : 2 ≤ items.size)
    (hQ : ∀ h', (∀ b, b ≠ it → ∀ u, s.heap.get? b = some u → h'.get? b = some u) → h'.get? s.heap.objs.size = some (tupO #[items.getD 0 .none, items.getD 1 .none]) → IsC h' it pool 1 (.ref s.heap.objs.size) 0 1 → Q (some (.ref s.heap.objs.size)) { s with heap := h' }) :
    wpAny (model prog w) A (pyNext (.ref it)) Q E s := by
  have hT : s.TypeIs (.ref it) "itertools.combinations" := ⟨_, hit, rfl⟩
  unfold pyNext
  refine wpAny_bind (wpAny_attempt (wpAny_callSpecial?_slot (name := Str.ofString "__next__") hT cNext (wpAny_call_entry cNext hT cEntryNext ?_ (cArgsNext _))))
  unfold Builtin.«itertools.combinations.__next__»
  have nip := apart hit hp
  have hp1 : (s.heap.update it (Obj.mapFields fun x => x.setIfInBounds 1 (rawInt 1))).get? pool = some (tupO items) := (Heap.get?_update_other _ _ nip).trans hp
  have hit1 : IsC (s.heap.update it (Obj.mapFields fun x => x.setIfInBounds 1 (rawInt 1))) it pool 1 last 0 1 := Heap.get?_update_self _ hit rfl
  repeat wp_step
  obtain ⟨q1, q2, q3⟩ := handed (xs := #[items.getD 0 .none, items.getD 1 .none]) hit1 (h := s.heap) (fun b ne => Heap.get?_update_other _ _ ne.symm) (Heap.size_update ..)
  refine ⟨_, rfl, wpAny_pure ?_⟩
  have z := hQ _ q1 q2 q3
  rw [show (s.heap.update it (Obj.mapFields fun x => x.setIfInBounds 1 (rawInt 1))).objs.size = s.heap.objs.size from Heap.size_update ..] at z ⊢
  exact z
end
end Comb

namespace Comb
open PySem PySem.Spec
open Sem (wp)
section
variable {prog : Program} {w : World} {A : Around} {E : Value → Shared → Prop} {s : Shared}
theorem next_more {it pool : Addr} {last : Value} {items : Array Value} {i j i' j' : Nat} {Q : Option Value → Shared → Prop} (hit : IsC s.heap it pool 1 last i j) (hp : s.heap.get? pool = some (tupO items))
    (hn : (match (List.range 2).reverse.find? fun k => [i, j].getD k 0 != k + items.size - 2 with | none => none | some k => some ([i, j].take k ++ (List.range (2 - k)).map ([i, j].getD k 0 + 1 + ·))) = some [i', j'])
    (hQ : ∀ h', (∀ b, b ≠ it → ∀ u, s.heap.get? b = some u → h'.get? b = some u) → h'.get? s.heap.objs.size = some (tupO #[items.getD i' .none, items.getD j' .none]) → IsC h' it pool 1 (.ref s.heap.objs.size) i' j' → Q (some (.ref s.heap.objs.size)) { s with heap := h' }) :
    wpAny (model prog w) A (pyNext (.ref it)) Q E s := by
  have hT : s.TypeIs (.ref it) "itertools.combinations" := ⟨_, hit, rfl⟩
  unfold pyNext
  refine wpAny_bind (wpAny_attempt (wpAny_callSpecial?_slot (name := Str.ofString "__next__") hT cNext (wpAny_call_entry cNext hT cEntryNext ?_ (cArgsNext _))))
  unfold Builtin.«itertools.combinations.__next__»
  repeat wp_step
  split
  · rename_i next hnx
    obtain rfl : next = [i', j'] := Option.some.inj (hnx.symm.trans hn)
    have nip := apart hit hp
    have hp1 : (s.heap.update it (Obj.mapFields fun x => x.extract 0 3 ++ (List.map (fun (n : Nat) => rawInt n) [i', j']).toArray)).get? pool = some (tupO items) := (Heap.get?_update_other _ _ nip).trans hp
    have hit1 : IsC (s.heap.update it (Obj.mapFields fun x => x.extract 0 3 ++ (List.map (fun (n : Nat) => rawInt n) [i', j']).toArray)) it pool 1 last i' j' := Heap.get?_update_self _ hit rfl
    repeat wp_step
    obtain ⟨q1, q2, q3⟩ := handed (xs := #[items.getD i' .none, items.getD j' .none]) hit1 (h := s.heap) (fun b ne => Heap.get?_update_other _ _ ne.symm) (Heap.size_update ..)
    refine ⟨_, rfl, wpAny_pure ?_⟩
    have z := hQ _ q1 q2 q3
    rw [show (s.heap.update it (Obj.mapFields fun x => x.extract 0 3 ++ (List.map (fun (n : Nat) => rawInt n) [i', j']).toArray)).objs.size = s.heap.objs.size from Heap.size_update ..] at z ⊢
    exact z
  · rename_i hnx
    cases hnx.symm.trans hn
theorem next_end {it pool : Addr} {last : Value} {items : Array Value} {i j : Nat} {Q : Option Value → Shared → Prop} (hh : A.handled = none) (hit : IsC s.heap it pool 1 last i j) (hp : s.heap.get? pool = some (tupO items))
    (hn : (match (List.range 2).reverse.find? fun k => [i, j].getD k 0 != k + items.size - 2 with | none => none | some k => some ([i, j].take k ++ (List.range (2 - k)).map ([i, j].getD k 0 + 1 + ·))) = none)
    (hQ : ∀ h', Heap.ExtBut it s.heap h' → Q none { s with heap := h' }) : wpAny (model prog w) A (pyNext (.ref it)) Q E s := by
  have hT : s.TypeIs (.ref it) "itertools.combinations" := ⟨_, hit, rfl⟩
  unfold pyNext
  refine wpAny_bind (wpAny_attempt (wpAny_callSpecial?_slot (name := Str.ofString "__next__") hT cNext (wpAny_call_entry cNext hT cEntryNext ?_ (cArgsNext _))))
  unfold Builtin.«itertools.combinations.__next__»
  repeat wp_step
  split
  · rename_i next hnx
    cases hn.symm.trans hnx
  · repeat wp_step
    simp only [raiseNew]; refine wpAny_bind (wpAny_handled ?_); rw [show A.in1.handled = none from hh]
    refine wpAny_bind (wpAny_pure (wpAny_throw ?_)); refine wpAny_bind (wpAny_isInstance (T := "StopIteration") (b := true) ⟨_, Heap.get?_push_size _ rfl, rfl⟩ isSubtype_stop ?_)
    exact wpAny_pure (hQ _ (fun b u ne q => Heap.get?_push_of_some _ (Heap.get?_push_of_some _ ((Heap.get?_update_other _ _ (Ne.symm ne)).trans q))))
theorem next_none {it pool : Addr} {last : Value} {items : Array Value} {i j : Nat} {Q : Option Value → Shared → Prop} (hh : A.handled = none) (hit : IsC s.heap it pool 2 last i j) (hp : s.heap.get? pool = some (tupO items))
    (hQ : ∀ h', Heap.ExtBut it s.heap h' → Q none { s with heap := h' }) : wpAny (model prog w) A (pyNext (.ref it)) Q E s := by
  have hT : s.TypeIs (.ref it) "itertools.combinations" := ⟨_, hit, rfl⟩
  unfold pyNext
  refine wpAny_bind (wpAny_attempt (wpAny_callSpecial?_slot (name := Str.ofString "__next__") hT cNext (wpAny_call_entry cNext hT cEntryNext ?_ (cArgsNext _))))
  unfold Builtin.«itertools.combinations.__next__»
  repeat wp_step
  simp only [raiseNew]; refine wpAny_bind (wpAny_handled ?_); rw [show A.in1.handled = none from hh]
  refine wpAny_bind (wpAny_pure (wpAny_throw ?_)); refine wpAny_bind (wpAny_isInstance (T := "StopIteration") (b := true) ⟨_, Heap.get?_push_size _ rfl, rfl⟩ isSubtype_stop ?_)
  exact wpAny_pure (hQ _ (((Heap.ExtBut.refl it s.heap).push _).push _))
end
end Comb

namespace Comb
open PySem PySem.Spec PyProof.Rows L2
/-! ### the pairs of places, in their sequence -/
def rows : Nat → Nat → List (Nat × Nat)
  | 0, _ => []
  | k + 1, i => (List.range (k + 1)).map (fun d => (i, i + 1 + d)) ++ rows k (i + 1)
def prs (n : Nat) : List (Nat × Nat) := rows (n - 1) 0
def nx (n i j : Nat) : Option (Nat × Nat) := if j + 1 < n then some (i, j + 1) else if i + 2 < n then some (i + 1, i + 2) else none
theorem rows_zero (k i : Nat) : (rows (k + 1) i)[0]? = some (i, i + 1) := by
  unfold rows
  rw [List.getElem?_append_left (by rw [List.length_map, List.length_range]; omega), List.getElem?_map, List.getElem?_range (Nat.succ_pos k)]
  rfl
theorem rows_step : ∀ (k i t a b : Nat), (rows k i)[t]? = some (a, b) → a < b ∧ b < i + 1 + k ∧ (rows k i)[t + 1]? = nx (i + 1 + k) a b
  | 0, _, _, _, _, h => by
    unfold rows at h
    rw [List.getElem?_nil] at h
    cases h
  | k + 1, i, t, a, b, h => by
    unfold rows at h ⊢
    have len : ((List.range (k + 1)).map (fun d => (i, i + 1 + d))).length = k + 1 := by rw [List.length_map, List.length_range]
    rcases Nat.lt_or_ge t (k + 1) with lt | ge
    · rw [List.getElem?_append_left (by omega), List.getElem?_map, List.getElem?_range lt] at h
      have h' : (i, i + 1 + t) = (a, b) := Option.some.inj h
      obtain ⟨rfl, rfl⟩ := Prod.mk.inj h'
      refine ⟨by omega, by omega, ?_⟩
      rcases Nat.lt_or_ge (t + 1) (k + 1) with l2 | g2
      · rw [List.getElem?_append_left (by omega), List.getElem?_map, List.getElem?_range l2]
        unfold nx
        rw [if_pos (by omega)]
        rfl
      · have et : t = k := by omega
        subst et
        rw [List.getElem?_append_right (by omega), len, Nat.sub_self]
        unfold nx
        rw [if_neg (by omega)]
        cases t with
        | zero =>
          rw [if_neg (by omega)]
          rfl
        | succ m =>
          rw [if_pos (by omega)]
          exact rows_zero m (i + 1)
    · rw [List.getElem?_append_right (by omega), len] at h
      obtain ⟨h1, h2, h3⟩ := rows_step k (i + 1) (t - (k + 1)) a b h
      refine ⟨h1, by omega, ?_⟩
      rw [List.getElem?_append_right (by omega), len, show t + 1 - (k + 1) = t - (k + 1) + 1 by omega, h3]
      congr 1
      omega
theorem prs_step {n t a b : Nat} (h : (prs n)[t]? = some (a, b)) : a < b ∧ b < n ∧ (prs n)[t + 1]? = nx n a b := by
  obtain ⟨h1, h2, h3⟩ := rows_step (n - 1) 0 t a b h
  have hn : 0 + 1 + (n - 1) = n := by omega
  rw [hn] at h2 h3
  exact ⟨h1, h2, h3⟩
theorem rows_mem : ∀ (k i a b : Nat), (a, b) ∈ rows k i ↔ i ≤ a ∧ a < b ∧ b < i + 1 + k
  | 0, i, a, b => by
    unfold rows
    constructor
    · intro h
      cases h
    · rintro ⟨h1, h2, h3⟩
      omega
  | k + 1, i, a, b => by
    unfold rows
    rw [List.mem_append, rows_mem k (i + 1) a b, List.mem_map]
    constructor
    · rintro (⟨d, hd, e⟩ | h)
      · have := List.mem_range.mp hd
        obtain ⟨rfl, rfl⟩ := Prod.mk.inj e
        omega
      · omega
    · rintro ⟨h1, h2, h3⟩
      rcases Nat.eq_or_lt_of_le h1 with e | l
      · exact .inl ⟨b - (i + 1), List.mem_range.mpr (by omega), by rw [← e]; congr 1; omega⟩
      · exact .inr ⟨l, h2, by omega⟩
theorem prs_mem {n a b : Nat} : (a, b) ∈ prs n ↔ a < b ∧ b < n := by
  unfold prs
  rw [rows_mem]
  omega
theorem rows_len : ∀ k i, (rows k i).length ≤ k * k
  | 0, i => Nat.zero_le _
  | k + 1, i => by
    unfold rows
    rw [List.length_append, List.length_map, List.length_range]
    have := rows_len k (i + 1)
    have e : (k + 1) * (k + 1) = k * k + k + (k + 1) := by rw [Nat.succ_mul, Nat.mul_succ]
    omega
theorem prs_none {n : Nat} (h : n < 2) : prs n = [] := by
  unfold prs
  rw [show n - 1 = 0 by omega]
  rfl
theorem prs_zero {n : Nat} (h : 2 ≤ n) : (prs n)[0]? = some (0, 1) := by
  unfold prs
  obtain ⟨m, rfl⟩ : ∃ m, n = m + 2 := ⟨n - 2, by omega⟩
  exact rows_zero m 0
/-- the model's own step is this one -/
theorem nx_some {n i j a b : Nat} (hi : i < j) (hj : j < n) (h : nx n i j = some (a, b)) :
    (match (List.range 2).reverse.find? fun k => [i, j].getD k 0 != k + n - 2 with | none => none | some k => some ([i, j].take k ++ (List.range (2 - k)).map ([i, j].getD k 0 + 1 + ·))) = some [a, b] := by
  have e : (List.range 2).reverse = [1, 0] := rfl
  rw [e]
  unfold nx at h
  by_cases h1 : j + 1 < n
  · rw [if_pos h1] at h
    cases h
    have z : ([i, j].getD 1 0 != 1 + n - 2) = true := by
      show (j != 1 + n - 2) = true
      rw [bne_iff_ne]
      omega
    rw [List.find?_cons_of_pos (p := fun k => [i, j].getD k 0 != k + n - 2) (a := 1) z]
    rfl
  · rw [if_neg h1] at h
    have z : ¬ ([i, j].getD 1 0 != 1 + n - 2) = true := by
      show ¬ (j != 1 + n - 2) = true
      rw [bne_iff_ne]
      omega
    by_cases h2 : i + 2 < n
    · rw [if_pos h2] at h
      cases h
      have z2 : ([i, j].getD 0 0 != 0 + n - 2) = true := by
        show (i != 0 + n - 2) = true
        rw [bne_iff_ne]
        omega
      rw [List.find?_cons_of_neg (p := fun k => [i, j].getD k 0 != k + n - 2) (a := 1) z, List.find?_cons_of_pos (p := fun k => [i, j].getD k 0 != k + n - 2) (a := 0) z2]
      rfl
    · rw [if_neg h2] at h
      cases h
theorem nx_none {n i j : Nat} (hi : i < j) (hj : j < n) (h : nx n i j = none) :
    (match (List.range 2).reverse.find? fun k => [i, j].getD k 0 != k + n - 2 with | none => none | some k => some ([i, j].take k ++ (List.range (2 - k)).map ([i, j].getD k 0 + 1 + ·))) = none := by
  have e : (List.range 2).reverse = [1, 0] := rfl
  rw [e]
  unfold nx at h
  by_cases h1 : j + 1 < n
  · rw [if_pos h1] at h
    cases h
  · rw [if_neg h1] at h
    by_cases h2 : i + 2 < n
    · rw [if_pos h2] at h
      cases h
    · have z : ¬ ([i, j].getD 1 0 != 1 + n - 2) = true := by
        show ¬ (j != 1 + n - 2) = true
        rw [bne_iff_ne]
        omega
      have z2 : ¬ ([i, j].getD 0 0 != 0 + n - 2) = true := by
        show ¬ (i != 0 + n - 2) = true
        rw [bne_iff_ne]
        omega
      rw [List.find?_cons_of_neg (p := fun k => [i, j].getD k 0 != k + n - 2) (a := 1) z, List.find?_cons_of_neg (p := fun k => [i, j].getD k 0 != k + n - 2) (a := 0) z2]
      rfl
end Comb

namespace Comb
open PySem PySem.Spec PyProof.Rows L2
/-- the pairs of these values, as new tuples -/
def Itcb (xs : List V) : It :=
  ⟨fun t _ => t < (prs xs.length).length,
    fun t H v H' => ∃ T i j x y, v = .ref T ∧ H T = none ∧ H' = upd H T (.tup [x, y]) ∧ (prs xs.length)[t]? = some (i, j) ∧ xs[i]? = some x ∧ xs[j]? = some y,
    fun t _ => (prs xs.length).length ≤ t⟩
def Stt (it pool : Addr) (items : Array Value) (t : Nat) (h : Heap) : Prop :=
  h.get? pool = some (tupO items) ∧ ((t = 0 ∧ IsC h it pool (if 2 > items.size then 2 else 0) .none 0 1) ∨ ∃ (u i j : Nat) (last : Value), t = u + 1 ∧ (prs items.size)[u]? = some (i, j) ∧ IsC h it pool 1 last i j)
theorem turn_comb {P : Program} {w : World} {K : PySem.W.Frag} {tg : Expr} {xs : List V} {its : List Value} (rv : Vals xs its) (it pool : Addr) (lt : pool < it) : Turn P w K tg (Itcb xs) [it, pool] it (Stt it pool its.toArray) where
  mem := by simp
  obj := fun t h st b hb => by
    obtain ⟨hp, st⟩ := st
    have e : b = it ∨ b = pool := by simpa using hb
    rcases e with e | e
    · rw [e]
      rcases st with ⟨_, c⟩ | ⟨_, _, _, _, _, _, c⟩ <;> exact ⟨_, c, fun v q => nomatch q⟩
    · rw [e]
      exact ⟨_, hp, fun v q => nomatch q⟩
  keep := fun t h h' st k => by
    obtain ⟨hp, st⟩ := st
    refine ⟨k pool (by simp) _ hp, ?_⟩
    rcases st with ⟨e, c⟩ | ⟨u, i, j, last, e, hu, c⟩
    · exact .inl ⟨e, k it (by simp) _ c⟩
    · exact .inr ⟨u, i, j, last, e, hu, k it (by simp) _ c⟩
  item := by
    intro X hP hw hK hc t pins s σ H E I hf st hg
    subst hP hw hK
    obtain ⟨hp, st⟩ := st
    have len := rv.length
    have sz : its.toArray.size = xs.length := by rw [List.size_toArray, len]
    -- what comes of the pair (i, j)
    have out : ∀ (i j : Nat) (h' : Heap), (prs xs.length)[t]? = some (i, j) → (∀ b, b ≠ it → ∀ u, s.heap.get? b = some u → h'.get? b = some u) → h'.get? s.heap.objs.size = some (tupO #[its.toArray.getD i .none, its.toArray.getD j .none]) →
        IsC h' it pool 1 (.ref s.heap.objs.size) i j → ∃ u, some (Value.ref s.heap.objs.size) = some u ∧
        wpAny (model X.prog X.w) X.A (letOwnedTupleGo tg (.ref it) u) (fun _ s2 => ∃ x H', Inv X pins σ H' s2 ∧ RelV x u ∧ (Itcb xs).yld t H x H' ∧ Stt it pool its.toArray (t + 1) s2.heap ∧ ∀ b ∈ [it, pool], H' b = none) E { s with heap := h' } := by
      intro i j h' ht keep new rec
      obtain ⟨l1, l2, _⟩ := prs_step ht
      have hx : xs[i]? = some xs[i] := List.getElem?_eq_getElem (by omega)
      have hy : xs[j]? = some xs[j] := List.getElem?_eq_getElem (by omega)
      obtain ⟨u1, hu1, r1⟩ := rv.get hx
      obtain ⟨u2, hu2, r2⟩ := rv.get hy
      have g1 : its.toArray.getD i .none = u1 := by
        rw [Array.getD_eq_getD_getElem?, List.getElem?_toArray, hu1]
        rfl
      have g2 : its.toArray.getD j .none = u2 := by
        rw [Array.getD_eq_getD_getElem?, List.getElem?_toArray, hu2]
        rfl
      rw [g1, g2] at new
      have obj : ObjOk X.prog X.w (upd H s.heap.objs.size (.tup [xs[i], xs[j]])) h' s.heap.objs.size (.tup [xs[i], xs[j]]) :=
        ⟨by show 2 ≤ sizeLine; decide, [u1, u2], .cons r1 (.cons r2 .nil), ⟨_, new, rfl, _, rfl⟩⟩
      have I1 : Inv X pins σ (upd H s.heap.objs.size (.tup [xs[i], xs[j]])) { s with heap := h' } :=
        I.turnedNew (t' := s.toks) (ch := [it, pool]) (fun c o hb q => keep c (fun z => hb (by simp [z])) o q) hf (Nat.le_refl _) obj
      refine ⟨_, rfl, go_of (s := { s with heap := h' }) rec rfl rfl (by decide) ⟨.ref s.heap.objs.size, _, I1, rfl, ⟨_, i, j, _, _, rfl, I.hok.fresh (Nat.le_refl _), rfl, ht, hx, hy⟩, ⟨keep pool (Nat.ne_of_lt lt) _ hp, .inr ⟨t, i, j, _, rfl, by rw [sz]; exact ht, rec⟩⟩, fun c hcm => ?_⟩⟩
      have small : c < s.heap.objs.size := by
        have e : c = it ∨ c = pool := by simpa using hcm
        have hit : it < s.heap.objs.size := by
          rcases st with ⟨_, c⟩ | ⟨_, _, _, _, _, _, c⟩ <;> exact Heap.lt_size c
        rcases e with e | e
        · rw [e]; exact hit
        · rw [e]; exact Nat.lt_trans lt hit
      rw [upd_ne (Nat.ne_of_lt small)]
      exact (hf c hcm).1
    have hg' : t < (prs xs.length).length := hg
    obtain ⟨⟨i, j⟩, hij⟩ : ∃ q, (prs xs.length)[t]? = some q := ⟨_, List.getElem?_eq_getElem hg'⟩
    rcases st with ⟨e, c⟩ | ⟨u, i0, j0, last, e, hu, c⟩
    · subst e
      have h2 : 2 ≤ xs.length := by
        rcases Nat.lt_or_ge xs.length 2 with z | z
        · rw [prs_none z] at hg'
          cases hg'
        · exact z
      rw [prs_zero h2] at hij
      cases hij
      rw [sz, if_neg (by omega)] at c
      exact next_first (n := 0) c hp (by rw [sz]; exact h2) fun h' k new rec => out 0 1 h' (prs_zero h2) k new rec
    · subst e
      rw [sz] at hu
      obtain ⟨l1, l2, l3⟩ := prs_step hu
      refine next_more c hp (nx_some l1 (by rw [sz]; exact l2) (by rw [sz, ← l3]; exact hij)) fun h' k new rec => out i j h' hij k new rec
  done := by
    intro X hP hw hK hc t pins s σ H E I hf st hg
    subst hP hw hK
    obtain ⟨hp, st⟩ := st
    have len := rv.length
    have sz : its.toArray.size = xs.length := by rw [List.size_toArray, len]
    have hg' : (prs xs.length).length ≤ t := hg
    obtain ⟨f0, f1, f2, f3, f4, f5⟩ := hf it (by simp)
    have fin : ∀ h', Heap.ExtBut it s.heap h' → (none : Option Value) = none ∧ Inv X pins σ H { s with heap := h' } := fun h' eb => ⟨rfl, I.turned (t' := s.toks) (fun b o hb e => eb b o hb e) f0 f1 f3 f4 f5⟩
    rcases st with ⟨e, c⟩ | ⟨u, i0, j0, last, e, hu, c⟩
    · subst e
      have h2 : xs.length < 2 := by
        rcases Nat.lt_or_ge xs.length 2 with z | z
        · exact z
        · have := prs_zero z
          rw [List.getElem?_eq_none hg'] at this
          cases this
      rw [sz, if_pos (by omega)] at c
      exact next_none (i := 0) (j := 1) (I.ok.hd hc) c hp fin
    · subst e
      rw [sz] at hu
      obtain ⟨l1, l2, l3⟩ := prs_step hu
      rw [List.getElem?_eq_none hg'] at l3
      exact next_end (I.ok.hd hc) c hp (nx_none l1 (by rw [sz]; exact l2) (by rw [sz]; exact l3.symm)) fin
  self := fun A t s Q E st h => by
    obtain ⟨hp, st⟩ := st
    rcases st with ⟨_, c⟩ | ⟨_, _, _, _, _, _, c⟩ <;> exact iter_comb c h

section
variable {X : Cx} {tg : Expr}
def iComb (K : PySem.W.Frag) (ta : TA) : TI := fun σ H R => ta σ H fun vs H1 => ∃ a xs, vs = [.ref a, .int 2] ∧ SqL K H1 a xs ∧ R (Itcb xs) H1
theorem pi_comb {x : Str} {e e2 : Expr} {ta : TA} {p pos : Pos} (hg : Gl X x) (hm : X.mg x = some (.type "itertools.combinations")) (ha : PA X [e, e2] ta) (hdb : (x == ("__debug__" : Str)) = false := by decide)
    (hs : starEach [e, e2] X.env = (false, eval e X.env) :: starEach [e2] X.env := by rfl) (hpl : (backTo pos (starEach [e2] X.env)).any (·.1) = false := by rfl) :
    PI X tg (.Call (.Name x p) [e, e2] [] pos) (iComb X.K ta) := by
  refine ⟨fun pins s σ H R I h => ?_⟩
  refine wpAny_Call_Name_kw (ld_glob I hg hm ?_ hdb)
  refine PyProof.Rows.callWith_type1 (thn (ha.run pos pins s σ H _ I h) fun us s1 ⟨vs, H1, I1, r1, q1⟩ => ?_) hs hpl
  obtain ⟨a, xs, rfl, hq, q⟩ := q1
  obtain ⟨u1, u2, rfl, e1, ⟨t, rfl⟩⟩ := vals2 r1
  obtain rfl : u1 = Value.ref a := e1
  obtain ⟨its, rv, ⟨o, n, ho, hcl, hne, hda⟩, hz⟩ := I1.list hq
  have len := rv.length
  refine call_comb ho hcl hda (by rw [List.size_toArray, ← len]; exact hz) fun h1 keep => ?_
  have J0 : Inv X pins σ H1 { s1 with heap := h1 } := I1.kept (t' := s1.toks) keep
  have sz1 : (h1.push (tupO its.toArray)).objs.size = h1.objs.size + 1 := Heap.size_push ..
  have g1 : ((h1.push (tupO its.toArray)).push (recC h1.objs.size (if 2 > its.toArray.size then 2 else 0) .none 0 1)).get? h1.objs.size = some (tupO its.toArray) := Heap.get?_push_of_some _ (Heap.get?_push_size _ rfl)
  have g2 : ((h1.push (tupO its.toArray)).push (recC h1.objs.size (if 2 > its.toArray.size then 2 else 0) .none 0 1)).get? (h1.objs.size + 1) = some (recC h1.objs.size (if 2 > its.toArray.size then 2 else 0) .none 0 1) := by
    rw [← sz1]
    exact Heap.get?_push_size _ rfl
  refine iter_comb (s := { s1 with heap := _ }) g2 ?_
  have J1 : Inv X pins σ H1 { s1 with heap := (h1.push (tupO its.toArray)).push (recC h1.objs.size (if 2 > its.toArray.size then 2 else 0) .none 0 1) } :=
    I1.kept (t' := s1.toks) fun b o z => Heap.get?_push_of_some _ (Heap.get?_push_of_some _ (keep b o z))
  refine ⟨h1.objs.size + 1, [h1.objs.size + 1, h1.objs.size], _, _, H1, rfl, J1, turn_comb rv (h1.objs.size + 1) h1.objs.size (Nat.lt_succ_self _), ⟨g1, .inl ⟨rfl, g2⟩⟩, fun b hb => ?_, q⟩
  have low : h1.objs.size ≤ b := by
    have e : b = h1.objs.size + 1 ∨ b = h1.objs.size := by simpa using hb
    rcases e with e | e
    · rw [e]; exact Nat.le_succ _
    · rw [e]; exact Nat.le_refl _
  exact J0.fpOk low (J0.hok.fresh low)

/-- a comprehension over the pairs -/
theorem lc_comb {xs : List V} {g : TG} {tt : TT} {te : TE} {vs : List Nat} {σ : L2.St} {H1 : Hp} {D : Addr} {Qd : Hp → Prop} (Pv : Nat → Hp → Prop) (h0 : Pv 0 (upd H1 D (.lst [])))
    (hs : ∀ (t i j : Nat) (x y : V) (T : Addr) (H : Hp), (prs xs.length)[t]? = some (i, j) → xs[i]? = some x → xs[j]? = some y → Pv t H → H T = none → g (.ref T) (wipe σ vs) (upd H T (.tup [x, y])) fun σ2 H2 => wipe σ2 vs = wipe σ vs ∧ tt σ2 H2 fun b H3 =>
      if b = true then te σ2 H3 fun y H4 => ∃ acc, H4 D = some (.lst acc) ∧ acc.length < sizeLine ∧ Pv (t + 1) (upd H4 D (.lst (acc ++ [y]))) else Pv (t + 1) H3) (hd : ∀ H, Pv (prs xs.length).length H → Qd H) :
    ∃ W : Nat → Nat → Hp → Prop, (∃ m, W 0 m (upd H1 D (.lst []))) ∧ ∀ t m H, W t m H →
      ((Itcb xs).stop t H ∧ Qd H) ∨ ((Itcb xs).go t H ∧ ∃ Nx : Hp → Prop, (∀ H', Nx H' → ∃ m', m' < m ∧ W (t + 1) m' H') ∧ ∀ x H', (Itcb xs).yld t H x H' → g x (wipe σ vs) H' fun σ2 H2 => wipe σ2 vs = wipe σ vs ∧ tt σ2 H2 fun b H3 =>
        if b = true then te σ2 H3 fun y H4 => ∃ acc, H4 D = some (.lst acc) ∧ acc.length < sizeLine ∧ Nx (upd H4 D (.lst (acc ++ [y]))) else Nx H3) := by
  refine ⟨fun t m H => m = (prs xs.length).length - t ∧ t ≤ (prs xs.length).length ∧ Pv t H, ⟨_, rfl, Nat.zero_le _, h0⟩, ?_⟩
  rintro t m H ⟨rfl, ht, pv⟩
  rcases Nat.lt_or_ge t (prs xs.length).length with lt | ge
  · refine .inr ⟨lt, Pv (t + 1), fun H' p' => ⟨(prs xs.length).length - (t + 1), by omega, rfl, lt, p'⟩, fun v H' y => ?_⟩
    obtain ⟨T, i, j, a, b, rfl, hT, rfl, h1, h2, h3⟩ := y
    exact hs t i j a b T H h1 h2 h3 pv hT
  · have e : t = (prs xs.length).length := by omega
    subst e
    exact .inl ⟨Nat.le_refl _, hd H pv⟩
end
end Comb

namespace SortR
open PySem PySem.Spec PyProof.Rows L2 PySem.W
/-- lists of ints by their sequence -/
def rowLe (p q : Addr × List Int) : Bool := decide (p.2 ≤ q.2)
theorem enc_alike (p q : Addr × List Int) : alike (PyData.list (p.2.map .int)) (PyData.list (q.2.map .int)) = true := by
  simp only [alike]
  exact alike_ints p.2 q.2
theorem rows_dp {K : PySem.W.Frag} {H : Hp} : ∀ ns : List Int, DpAll K H (ns.map V.int) (ns.map PyData.int)
  | [] => .nil
  | n :: ns => .cons (.int n) (rows_dp ns)
theorem vals_each {h : Heap} {K : PySem.W.Frag} {H : Hp} {P : Addr × List Int → Prop} : ∀ {bs : List (Addr × List Int)} {us : List Value}, Vals (bs.map fun b => V.ref b.1) us → (∀ b ∈ bs, P b) → EachIs (fun v b => v = Value.ref b.1 ∧ P b) us bs
  | [], us, r, _ => by
    cases r
    exact .nil
  | b :: bs, us, r, hp => by
    cases r with
    | cons r1 r2 =>
      have e : _ = Value.ref b.1 := r1
      exact .cons ⟨e, hp b List.mem_cons_self⟩ (vals_each (h := h) (K := K) (H := H) r2 fun c hc => hp c (List.mem_cons_of_mem _ hc))
theorem each_back {P : Addr × List Int → Prop} : ∀ {us : List Value} {bs : List (Addr × List Int)}, EachIs (fun v b => v = Value.ref b.1 ∧ P b) us bs → Vals (bs.map fun b => V.ref b.1) us
  | _, _, .nil => .nil
  | _, _, .cons h t => .cons h.1 (each_back t)
theorem each_mono {α β : Type} {R S : α → β → Prop} : ∀ {as : List α} {bs : List β}, EachIs R as bs → (∀ a b, R a b → S a b) → EachIs S as bs
  | _, _, .nil, _ => .nil
  | _, _, .cons h t, f => .cons (f _ _ h) (each_mono t f)
section
variable {X : Cx}
/-- sorted(xs), xs a list of lists of ints, of any length -/
theorem call_sortedR (hu : X.A.units + 64 < cLine) : CallR X (.builtin "sorted") (fun xs H Q => ∃ (a : Addr) (bs : List (Addr × List Int)), xs = [V.ref a] ∧ SqL X.K H a (bs.map fun b => V.ref b.1) ∧ (∀ b ∈ bs, SqL X.K H b.1 (b.2.map V.int)) ∧
    ∀ p, H p = none → Q (.ref p) (upd H p (.lst ((bs.mergeSort rowLe).map fun b => V.ref b.1)))) := by
  intro pins s σ H xs us Q I r h
  obtain ⟨a, bs, rfl, hs, hb, q⟩ := h
  obtain ⟨u, rfl, ru⟩ := vals1 r
  obtain rfl : u = Value.ref a := ru
  obtain ⟨its, rv, hl, hz⟩ := I.list hs
  have each : EachIs (fun v b => v = Value.ref b.1 ∧ SqL X.K H b.1 (b.2.map V.int)) its bs := vals_each (h := s.heap) (K := X.K) (H := H) rv hb
  have len : its.length = bs.length := by rw [← rv.length, List.length_map]
  have each2 : EachIs (fun v (b : Addr × List Int) => ∃ as, Reads s.heap v (PyData.list (b.2.map .int)) as) its bs := each_mono each fun v b ⟨e, hq⟩ => by
    rw [e]
    exact Dp.reads I (PyData.list (b.2.map .int)) (.ref b.1) (.ref b.1) (.lst hq (rows_dp b.2)) rfl
  have le : dataLe false (fun b : Addr × List Int => PyData.list (b.2.map .int)) = rowLe := dataLe_rows (fun b : Addr × List Int => b.2)
  refine sorted_data (enc := fun b : Addr × List Int => PyData.list (b.2.map .int)) hl.isList each each2 (AllAlike.of enc_alike) (Sortable.others fun b => ⟨(fun z => nomatch z), fun xs z => nomatch z⟩) (by rw [← len]; rw [List.length_map] at hz; rw [len]; exact hz) (fun b _ => by
    have d : (PyData.list (b.2.map .int)).depth = 1 := by
      simp only [PyData.depth, depth_ints]
    rw [d]
    omega) fun out ho each3 => ?_
  rw [le] at each3
  have back := each_back each3
  obtain ⟨n, hn⟩ := sortedAll_at s.heap its out.toArray
  refine ⟨.ref (s.heap.objs.size + 1), upd H (s.heap.objs.size + 1) (.lst ((bs.mergeSort rowLe).map fun b => V.ref b.1)), I.laid (t' := s.toks) (fun b o e => sortedAll_old e) (Nat.le_succ _) ⟨?_, out, n, back, hn⟩, rfl, q _ (I.hok.fresh (Nat.le_succ _))⟩
  rw [List.length_map, List.length_mergeSort]
  rw [List.length_map] at hz
  exact hz
end
end SortR

namespace SortR
open PySem PySem.Spec PyProof.Rows L2 PySem.W
section
variable {X : Cx}
def rLtR (K : PySem.W.Frag) : R2 := fun x y H Q => ∃ (a b : Addr) (ns ms : List Int), x = .ref a ∧ y = .ref b ∧ SqL K H a (ns.map V.int) ∧ SqL K H b (ms.map V.int) ∧ Q (.bl (decide (ns < ms))) H
/-- xs < ys, two lists of ints -/
theorem op_ltR (hu : X.A.units + 64 < cLine) : OpR X (compareOp .Lt) (rLtR X.K) := by
  intro pins s σ H x y v u Q I rx ry h
  obtain ⟨a, b, ns, ms, rfl, rfl, hs, hm, q⟩ := h
  obtain ⟨as, r1⟩ := Dp.reads I (PyData.list (ns.map .int)) (.ref a) v (.lst hs (rows_dp ns)) rx
  obtain ⟨bs, r2⟩ := Dp.reads I (PyData.list (ms.map .int)) (.ref b) u (.lst hm (rows_dp ms)) ry
  have dep : (PyData.list (ns.map .int)).depth = 1 := by simp only [PyData.depth, depth_ints]
  have lt := rcLt_alike (PyData.list (ns.map .int)) (PyData.list (ms.map .int)) X.A s v u as bs r1 r2 (enc_alike (a, ns) (b, ms)) (fun z => nomatch z) (by rw [dep]; omega)
  have e : dataLt (PyData.list (ns.map .int)) (PyData.list (ms.map .int)) = decide (ns < ms) := by
    rw [dataLt_list]
    exact dataLt_ints ns ms
  rw [e] at lt
  exact lt _ _ _ _ ⟨.bl _, H, I, rfl, q⟩
/-- a comprehension over zip of two lists that stand still -/
theorem lc_zipL {K : PySem.W.Frag} {a b : Addr} {xs ys : List V} {g : TG} {tt : TT} {te : TE} {vs : List Nat} {σ : L2.St} {H1 : Hp} {D : Addr} {Qd : Hp → Prop} (Pv : Nat → Hp → Prop) (h0 : Pv 0 (upd H1 D (.lst []))) (hl : ∀ i H, Pv i H → SqL K H a xs ∧ SqL K H b ys)
    (hs : ∀ (i : Nat) (x y : V) (T : Addr) (H : Hp), xs[i]? = some x → ys[i]? = some y → Pv i H → H T = none → g (.ref T) (wipe σ vs) (upd H T (.tup [x, y])) fun σ2 H2 => wipe σ2 vs = wipe σ vs ∧ tt σ2 H2 fun b H3 =>
      if b = true then te σ2 H3 fun y H4 => ∃ acc, H4 D = some (.lst acc) ∧ acc.length < sizeLine ∧ Pv (i + 1) (upd H4 D (.lst (acc ++ [y]))) else Pv (i + 1) H3) (hd : ∀ H, Pv (min xs.length ys.length) H → Qd H) :
    ∃ W : Nat → Nat → Hp → Prop, (∃ m, W 0 m (upd H1 D (.lst []))) ∧ ∀ i m H, W i m H →
      ((Itz K a b).stop i H ∧ Qd H) ∨ ((Itz K a b).go i H ∧ ∃ Nx : Hp → Prop, (∀ H', Nx H' → ∃ m', m' < m ∧ W (i + 1) m' H') ∧ ∀ x H', (Itz K a b).yld i H x H' → g x (wipe σ vs) H' fun σ2 H2 => wipe σ2 vs = wipe σ vs ∧ tt σ2 H2 fun b H3 =>
        if b = true then te σ2 H3 fun y H4 => ∃ acc, H4 D = some (.lst acc) ∧ acc.length < sizeLine ∧ Nx (upd H4 D (.lst (acc ++ [y]))) else Nx H3) := by
  refine ⟨fun i m H => m = min xs.length ys.length - i ∧ i ≤ min xs.length ys.length ∧ Pv i H, ⟨_, rfl, Nat.zero_le _, h0⟩, ?_⟩
  rintro i m H ⟨rfl, hi, pv⟩
  obtain ⟨qx, qy⟩ := hl i H pv
  rcases Nat.lt_or_ge i (min xs.length ys.length) with lt | ge
  · have ex : xs[i]? = some xs[i] := List.getElem?_eq_getElem (by omega)
    have ey : ys[i]? = some ys[i] := List.getElem?_eq_getElem (by omega)
    refine .inr ⟨⟨xs, ys, _, _, qx, qy, ex, ey⟩, Pv (i + 1), fun H' p' => ⟨min xs.length ys.length - (i + 1), by omega, rfl, lt, p'⟩, fun v H' y => ?_⟩
    obtain ⟨T, x', y', rfl, hT, rfl, f1, f2⟩ := y
    exact hs i x' y' T H (f1 xs qx) (f2 ys qy) pv hT
  · have e : i = min xs.length ys.length := by omega
    subst e
    exact .inl ⟨⟨xs, ys, qx, qy, by omega⟩, hd H pv⟩
/-- a comprehension over enumerate of a list that stands still -/
theorem lc_enumL {K : PySem.W.Frag} {a : Addr} {xs : List V} {g : TG} {tt : TT} {te : TE} {vs : List Nat} {σ : L2.St} {H1 : Hp} {D : Addr} {Qd : Hp → Prop} (Pv : Nat → Hp → Prop) (h0 : Pv 0 (upd H1 D (.lst []))) (hl : ∀ i H, Pv i H → SqL K H a xs)
    (hs : ∀ (i : Nat) (x : V) (T : Addr) (H : Hp), xs[i]? = some x → Pv i H → H T = none → g (.ref T) (wipe σ vs) (upd H T (.tup [.int (i : Nat), x])) fun σ2 H2 => wipe σ2 vs = wipe σ vs ∧ tt σ2 H2 fun b H3 =>
      if b = true then te σ2 H3 fun y H4 => ∃ acc, H4 D = some (.lst acc) ∧ acc.length < sizeLine ∧ Pv (i + 1) (upd H4 D (.lst (acc ++ [y]))) else Pv (i + 1) H3) (hd : ∀ H, Pv xs.length H → Qd H) :
    ∃ W : Nat → Nat → Hp → Prop, (∃ m, W 0 m (upd H1 D (.lst []))) ∧ ∀ i m H, W i m H →
      ((Ite K a).stop i H ∧ Qd H) ∨ ((Ite K a).go i H ∧ ∃ Nx : Hp → Prop, (∀ H', Nx H' → ∃ m', m' < m ∧ W (i + 1) m' H') ∧ ∀ x H', (Ite K a).yld i H x H' → g x (wipe σ vs) H' fun σ2 H2 => wipe σ2 vs = wipe σ vs ∧ tt σ2 H2 fun b H3 =>
        if b = true then te σ2 H3 fun y H4 => ∃ acc, H4 D = some (.lst acc) ∧ acc.length < sizeLine ∧ Nx (upd H4 D (.lst (acc ++ [y]))) else Nx H3) := by
  refine ⟨fun i m H => m = xs.length - i ∧ i ≤ xs.length ∧ Pv i H, ⟨_, rfl, Nat.zero_le _, h0⟩, ?_⟩
  rintro i m H ⟨rfl, hi, pv⟩
  have qx := hl i H pv
  rcases Nat.lt_or_ge i xs.length with lt | ge
  · have ex : xs[i]? = some xs[i] := List.getElem?_eq_getElem lt
    refine .inr ⟨⟨xs, _, qx, ex⟩, Pv (i + 1), fun H' p' => ⟨xs.length - (i + 1), by omega, rfl, lt, p'⟩, fun v H' y => ?_⟩
    obtain ⟨T, x', rfl, hT, rfl, f1⟩ := y
    exact hs i x' T H (f1 xs qx) pv hT
  · have e : i = xs.length := by omega
    subst e
    exact .inl ⟨⟨xs, qx, Nat.le_refl _⟩, hd H pv⟩
end
end SortR

/-! Comprehensions without a test, by the value of each turn: what stood stands. -/
namespace LcM
open PySem PySem.Spec PyProof.Rows L2
/-- all that stood stands -/
def Grows (H H' : Hp) : Prop := ∀ b o, H b = some o → H' b = some o
theorem Grows.refl {H : Hp} : Grows H H := fun _ _ e => e
theorem Grows.trans {H H1 H2 : Hp} (x : Grows H H1) (y : Grows H1 H2) : Grows H H2 := fun b o e => y b o (x b o e)
theorem Grows.new {a : Addr} {H : Hp} {o : HO} (h : H a = none) : Grows H (upd H a o) := fun b u e => by
  rw [upd_ne (ne_of_none e h)]
  exact e
theorem Grows.seq {K : PySem.W.Frag} {H H' : Hp} {a : Addr} {xs : List V} (s : Grows H H') (h : SqL K H a xs) : SqL K H' a xs := by
  rcases h with (h | ⟨o, h⟩) | h
  · exact .inl (.inl (s _ _ h))
  · exact .inl (.inr ⟨o, s _ _ h⟩)
  · exact .inr h
theorem Grows.tup {K : PySem.W.Frag} {H H' : Hp} {a : Addr} {xs : List V} (s : Grows H H') (h : SqT K H a xs) : SqT K H' a xs := by
  rcases h with (h | ⟨o, h⟩) | h
  · exact .inl (.inl (s _ _ h))
  · exact .inl (.inr ⟨o, s _ _ h⟩)
  · exact .inr h
/-- the list that is made -/
def Ma (H0 : Hp) (D : Addr) (F : Nat → V) (i : Nat) (H : Hp) : Prop := Grows H0 H ∧ H D = some (.lst ((List.range i).map F))
theorem Ma.start {H0 : Hp} {D : Addr} {F : Nat → V} (hD : H0 D = none) : Ma H0 D F 0 (upd H0 D (.lst [])) := ⟨Grows.new hD, upd_same⟩
theorem yes_eq {te : TE} {A : L2.St → Prop} {R : V → Hp → Prop} {Y : Hp → Prop} :
    (fun (σ2 : L2.St) (H2 : Hp) => A σ2 ∧ tYes σ2 H2 fun b H3 => if b = true then te σ2 H3 R else Y H3) = fun σ2 H2 => A σ2 ∧ te σ2 H2 R := by
  funext σ2 H2
  unfold tYes
  dsimp only
  rw [if_pos rfl]
/-- one more -/
theorem Ma.more {H0 H H4 : Hp} {D : Addr} {F : Nat → V} {i : Nat} (hD : H0 D = none) (m : Ma H0 D F i H) (s : Grows H H4) (small : i < 1000000) :
    ∃ acc, H4 D = some (.lst acc) ∧ acc.length < sizeLine ∧ Ma H0 D F (i + 1) (upd H4 D (.lst (acc ++ [F i]))) := by
  refine ⟨_, s _ _ m.2, ?_, fun b o e => ?_, ?_⟩
  · rw [List.length_map, List.length_range]
    exact Nat.lt_trans small (by decide)
  · rw [upd_ne (ne_of_none e hD)]
    exact s _ _ (m.1 _ _ e)
  · rw [upd_same, List.range_succ, List.map_append]
    rfl
section
variable {K : PySem.W.Frag} {a b : Addr} {xs ys : List V} {g : TG} {te : TE} {vs : List Nat} {σ : L2.St} {H0 : Hp} {D : Addr} {Qd : Hp → Prop}
theorem lc_listM (F : Nat → V) (hD : H0 D = none) (hx : SqL K H0 a xs) (small : xs.length ≤ 1000000)
    (turn : ∀ (i : Nat) (x : V) (H : Hp) (R : V → Hp → Prop), xs[i]? = some x → Grows H0 H → (∀ H4, Grows H H4 → R (F i) H4) → g x (wipe σ vs) H fun σ2 H2 => wipe σ2 vs = wipe σ vs ∧ te σ2 H2 R)
    (done : ∀ H, Grows H0 H → H D = some (.lst ((List.range xs.length).map F)) → Qd H) :
    ∃ W : Nat → Nat → Hp → Prop, (∃ m, W 0 m (upd H0 D (.lst []))) ∧ ∀ i m H, W i m H →
      ((Itl K a).stop i H ∧ Qd H) ∨ ((Itl K a).go i H ∧ ∃ Nx : Hp → Prop, (∀ H', Nx H' → ∃ m', m' < m ∧ W (i + 1) m' H') ∧ ∀ x H', (Itl K a).yld i H x H' → g x (wipe σ vs) H' fun σ2 H2 => wipe σ2 vs = wipe σ vs ∧ tYes σ2 H2 fun b H3 =>
        if b = true then te σ2 H3 fun y H4 => ∃ acc, H4 D = some (.lst acc) ∧ acc.length < sizeLine ∧ Nx (upd H4 D (.lst (acc ++ [y]))) else Nx H3) := by
  refine lc_list (Ma H0 D F) (Ma.start hD) (fun i H _ m => m.1.seq hx) (fun i x H ex m => ?_) fun H m => done H m.1 m.2
  rw [yes_eq (A := fun σ2 => wipe σ2 vs = wipe σ vs)]
  exact turn i x H _ ex m.1 fun H4 s => m.more hD s (Nat.lt_of_lt_of_le (List.getElem?_eq_some_iff.mp ex).1 small)
theorem lc_zipM (F : Nat → V) (hD : H0 D = none) (hx : SqL K H0 a xs) (hy : SqL K H0 b ys) (small : xs.length ≤ 1000000)
    (turn : ∀ (i : Nat) (x y : V) (T : Addr) (H : Hp) (R : V → Hp → Prop), xs[i]? = some x → ys[i]? = some y → Grows H0 H → H T = none → (∀ H4, Grows (upd H T (.tup [x, y])) H4 → R (F i) H4) → g (.ref T) (wipe σ vs) (upd H T (.tup [x, y])) fun σ2 H2 => wipe σ2 vs = wipe σ vs ∧ te σ2 H2 R)
    (done : ∀ H, Grows H0 H → H D = some (.lst ((List.range (min xs.length ys.length)).map F)) → Qd H) :
    ∃ W : Nat → Nat → Hp → Prop, (∃ m, W 0 m (upd H0 D (.lst []))) ∧ ∀ i m H, W i m H →
      ((Itz K a b).stop i H ∧ Qd H) ∨ ((Itz K a b).go i H ∧ ∃ Nx : Hp → Prop, (∀ H', Nx H' → ∃ m', m' < m ∧ W (i + 1) m' H') ∧ ∀ x H', (Itz K a b).yld i H x H' → g x (wipe σ vs) H' fun σ2 H2 => wipe σ2 vs = wipe σ vs ∧ tYes σ2 H2 fun b H3 =>
        if b = true then te σ2 H3 fun y H4 => ∃ acc, H4 D = some (.lst acc) ∧ acc.length < sizeLine ∧ Nx (upd H4 D (.lst (acc ++ [y]))) else Nx H3) := by
  refine SortR.lc_zipL (Ma H0 D F) (Ma.start hD) (fun i H m => ⟨m.1.seq hx, m.1.seq hy⟩) (fun i x y T H ex ey m hT => ?_) fun H m => done H m.1 m.2
  rw [yes_eq (A := fun σ2 => wipe σ2 vs = wipe σ vs)]
  exact turn i x y T H _ ex ey m.1 hT fun H4 s => m.more hD ((Grows.new hT).trans s) (Nat.lt_of_lt_of_le (List.getElem?_eq_some_iff.mp ex).1 small)
theorem lc_enumM (F : Nat → V) (hD : H0 D = none) (hx : SqL K H0 a xs) (small : xs.length ≤ 1000000)
    (turn : ∀ (i : Nat) (x : V) (T : Addr) (H : Hp) (R : V → Hp → Prop), xs[i]? = some x → Grows H0 H → H T = none → (∀ H4, Grows (upd H T (.tup [.int (i : Nat), x])) H4 → R (F i) H4) → g (.ref T) (wipe σ vs) (upd H T (.tup [.int (i : Nat), x])) fun σ2 H2 => wipe σ2 vs = wipe σ vs ∧ te σ2 H2 R)
    (done : ∀ H, Grows H0 H → H D = some (.lst ((List.range xs.length).map F)) → Qd H) :
    ∃ W : Nat → Nat → Hp → Prop, (∃ m, W 0 m (upd H0 D (.lst []))) ∧ ∀ i m H, W i m H →
      ((Ite K a).stop i H ∧ Qd H) ∨ ((Ite K a).go i H ∧ ∃ Nx : Hp → Prop, (∀ H', Nx H' → ∃ m', m' < m ∧ W (i + 1) m' H') ∧ ∀ x H', (Ite K a).yld i H x H' → g x (wipe σ vs) H' fun σ2 H2 => wipe σ2 vs = wipe σ vs ∧ tYes σ2 H2 fun b H3 =>
        if b = true then te σ2 H3 fun y H4 => ∃ acc, H4 D = some (.lst acc) ∧ acc.length < sizeLine ∧ Nx (upd H4 D (.lst (acc ++ [y]))) else Nx H3) := by
  refine SortR.lc_enumL (Ma H0 D F) (Ma.start hD) (fun i H m => m.1.seq hx) (fun i x T H ex m hT => ?_) fun H m => done H m.1 m.2
  rw [yes_eq (A := fun σ2 => wipe σ2 vs = wipe σ vs)]
  exact turn i x T H _ ex m.1 hT fun H4 s => m.more hD ((Grows.new hT).trans s) (Nat.lt_of_lt_of_le (List.getElem?_eq_some_iff.mp ex).1 small)
theorem lc_combM (F : Nat → V) (hD : H0 D = none) (small : xs.length ≤ 1000)
    (turn : ∀ (t i j : Nat) (x y : V) (T : Addr) (H : Hp) (R : V → Hp → Prop), (Comb.prs xs.length)[t]? = some (i, j) → xs[i]? = some x → xs[j]? = some y → Grows H0 H → H T = none → (∀ H4, Grows (upd H T (.tup [x, y])) H4 → R (F t) H4) → g (.ref T) (wipe σ vs) (upd H T (.tup [x, y])) fun σ2 H2 => wipe σ2 vs = wipe σ vs ∧ te σ2 H2 R)
    (done : ∀ H, Grows H0 H → H D = some (.lst ((List.range (Comb.prs xs.length).length).map F)) → Qd H) :
    ∃ W : Nat → Nat → Hp → Prop, (∃ m, W 0 m (upd H0 D (.lst []))) ∧ ∀ t m H, W t m H →
      ((Comb.Itcb xs).stop t H ∧ Qd H) ∨ ((Comb.Itcb xs).go t H ∧ ∃ Nx : Hp → Prop, (∀ H', Nx H' → ∃ m', m' < m ∧ W (t + 1) m' H') ∧ ∀ x H', (Comb.Itcb xs).yld t H x H' → g x (wipe σ vs) H' fun σ2 H2 => wipe σ2 vs = wipe σ vs ∧ tYes σ2 H2 fun b H3 =>
        if b = true then te σ2 H3 fun y H4 => ∃ acc, H4 D = some (.lst acc) ∧ acc.length < sizeLine ∧ Nx (upd H4 D (.lst (acc ++ [y]))) else Nx H3) := by
  refine Comb.lc_comb (Ma H0 D F) (Ma.start hD) (fun t i j x y T H et ex ey m hT => ?_) fun H m => done H m.1 m.2
  rw [yes_eq (A := fun σ2 => wipe σ2 vs = wipe σ vs)]
  refine turn t i j x y T H _ et ex ey m.1 hT fun H4 s => m.more hD ((Grows.new hT).trans s) ?_
  have l1 := (List.getElem?_eq_some_iff.mp et).1
  have l2 := Comb.rows_len (xs.length - 1) 0
  have l3 : (xs.length - 1) * (xs.length - 1) ≤ 999 * 999 := Nat.mul_le_mul (by omega) (by omega)
  unfold Comb.prs at l1
  omega
end
/-- xs[1:] -/
theorem cut_tail (xs : List V) : cutV xs (some 1) none = xs.tail := by
  unfold cutV
  rw [HT.sIx_none, show (some (1 : Int)) = some ((1 : Nat) : Int) from rfl, HT.sIx_nat]
  cases xs with
  | nil => rfl
  | cons x l =>
    have e : min 1 (x :: l).length = 1 := by rw [List.length_cons]; omega
    rw [e, List.drop_one, List.tail_cons, List.length_cons, Nat.add_sub_cancel, List.take_length]
end LcM

/-! {key: value for target in iterable if test}, the keys tuples. -/
namespace DcT
open PySem PySem.Spec PyProof.Rows L2
section
variable {X : Cx} {pins : List (Addr × Obj)} {σ : L2.St} {H : Hp} {s : Shared}
/-- one entry is laid by the comprehension -/
theorem set_tup {Er : Value → Shared → Prop} {d b : Addr} {kvs : List (List L2.Key × V)} {k : List L2.Key} {v : V} {u r : Value} {Qu : Unit → Shared → Prop} (room : X.A.units + 1 < cLine) (I : Inv X pins σ H s) (at_d : H d = some (.dT kvs)) (few : kvs.length < sizeLine)
    (at_b : H b = some (.tup (k.map kV))) (ru : RelV (.ref b) u) (rr : RelV v r) (go : ∀ s', Inv X pins σ (upd H d (.dT (putK kvs k v))) s' → Qu () s') : wpAny (model X.prog X.w) X.A (dictSet d u r) Qu Er s := by
  obtain rfl : u = Value.ref b := ru
  obtain ⟨fits, notSys, xs, rel, raw⟩ := dt_of I.hok at_d
  have n1 : xs.length ≤ sizeLine := Paired.length rel ▸ fits
  have n2 : (putK kvs k v).length ≤ sizeLine := Nat.le_trans (length_putK kvs k v) few
  refine wpAny_dictSet_heap (hsz := n1) (show X.A.units < cLine from Nat.lt_of_succ_lt room) (key_of I.hok at_b) raw fun hp raw' same => go _ ?_
  obtain ⟨o, es, ep, g1, g2, g3, g4, _, g5⟩ := raw'
  refine d_write I (by rw [at_d]; exact True.intro) same ⟨o, g1⟩ ⟨n2, notSys, _, (rel.put k at_b rr).keeps fun c ys ec => ?_, o, es, ep, g1, g2, g3, g4, g5⟩
  rw [upd_ne (ne_of ec at_d fun z => nomatch z)]
  exact ec
end
section
variable {X : Cx}
def tDcT (wi : TI) (g : TG) (tt : TT) (tk tv : TE) (vs : List Nat) : TE := fun σ H Q => wi σ H fun J H1 => ∀ D, H1 D = none → ∃ W : Nat → Nat → Hp → Prop, (∃ m, W 0 m (upd H1 D (.dT []))) ∧ ∀ i m H, W i m H →
  (J.stop i H ∧ Q (.ref D) H) ∨ (J.go i H ∧ ∃ Nx : Hp → Prop, (∀ H', Nx H' → ∃ m', m' < m ∧ W (i + 1) m' H') ∧ ∀ x H', J.yld i H x H' → g x (wipe σ vs) H' fun σ2 H2 => wipe σ2 vs = wipe σ vs ∧ tt σ2 H2 fun t H3 =>
    if t = true then tk σ2 H3 fun y H4 => tv σ2 H4 fun z H5 => ∃ b kvs k, y = .ref b ∧ H5 b = some (.tup (k.map kV)) ∧ H5 D = some (.dT kvs) ∧ kvs.length < sizeLine ∧ Nx (upd H5 D (.dT (putK kvs k z))) else Nx H3)
theorem dcT_core {pins : List (Addr × Obj)} {s0 : Shared} {σ : L2.St} {H0 : Hp} {Q : VK} {kx vx tg iter : Expr} {ifs : List Expr} {scope : Scope} {own : List (Str × Nat)} {pos pos' : Pos} {wi : TI} {g : TG} {tt : TT} {tk tv : TE} {use : Option (Value → Sem Unit)} {Qf : Value → Shared → Prop}
    (room : X.A.units + 64 < cLine) (calm : X.calm = true) (nd : X.N.Nodup) (I0 : Inv X pins σ H0 s0) (pi : PI X tg iter wi) (ok : BlkOk X.N X.env.scope scope own)
    (pgs : ∀ (s : Shared) (H : Hp) (C : Addr) (cl : List (Str × Addr)) (fp : List Addr), PG (X.blk s H scope (compEnvC scope cl C X.env) fp) tg g) (pts : ∀ (s : Shared) (H : Hp) (C : Addr) (cl : List (Str × Addr)) (fp : List Addr), PTs (X.blk s H scope (compEnvC scope cl C X.env) fp) ifs tt)
    (pks : ∀ (s : Shared) (H : Hp) (C : Addr) (cl : List (Str × Addr)) (fp : List Addr), PE (X.blk s H scope (compEnvC scope cl C X.env) fp) kx tk) (pvs : ∀ (s : Shared) (H : Hp) (C : Addr) (cl : List (Str × Addr)) (fp : List Addr), PE (X.blk s H scope (compEnvC scope cl C X.env) fp) vx tv)
    (fold : ∀ x, foldedSetIterable iter X.env x = pure x) (rd : tDcT wi g tt tk tv (own.map (·.2)) σ H0 Q)
    (post : ∀ D C t ns G, Inv X pins σ G t → Q (.ref D) G → t.heap.Ns C ns → FpOk X pins G C → compPost (model X.prog X.w) X.A X.xe use Qf (.ref D) C (.ok .next) t) :
    wpAny (model X.prog X.w) X.A (comprehension (.DictComp kx vx [⟨tg, iter, ifs, 0⟩] scope pos) scope X.env pos' newDict false (eval iter X.env) use) Qf X.xe s0 := by
  have isFree : ∀ y ∈ scope.names, y.2 = .free → ∃ c, X.env.cells.lookup y.1 = some c := fun y hy ey => (ok.free y hy ey).elim (fun z => I0.ok.has _ (.inl z)) fun z => I0.ok.has _ (.inr z)
  refine wpAny_comprehension_free (use := use) rfl fold (closure_ok isFree) ok.kind (fun y hy ey => (ok.uniq y hy).trans (congrArg some ey)) (thn (pi.run pins s0 σ H0 _ I0 rd) fun _ sa ha => thn ha fun _ sb hb => ?_)
  obtain ⟨it, fp, tn, J, Hb, rfl, Ib, Tn, tn0, fb, q⟩ := hb
  refine wpAny_newObj_type (newEnv_comp ?_)
  have free0 : Hb sb.heap.objs.size = none := Ib.hok.fresh (Nat.le_refl _)
  obtain ⟨W, ⟨m0, w0⟩, turn⟩ := q _ free0
  -- with the dict, empty
  obtain ⟨sc, esc⟩ : ∃ z : Shared, z = { sb with heap := sb.heap.push { cls := .type "dict", data := .dict #[] } } := ⟨_, rfl⟩
  obtain ⟨Hc, eHc⟩ : ∃ z : Hp, z = upd Hb sb.heap.objs.size (.dT []) := ⟨_, rfl⟩
  have Ic : Inv X pins σ Hc sc := by
    rw [esc, eHc]
    exact Ib.laid (t' := sb.toks) (fun b o z => Heap.get?_push_of_some _ z) (Nat.le_refl _) (dt_empty sb.heap Ib.big)
  have up : ∀ b o, sb.heap.get? b = some o → sc.heap.get? b = some o := fun b o z => by
    rw [esc]
    exact Heap.get?_push_of_some _ z
  have below : ∀ b ∈ fp, b < sb.heap.objs.size := fun b hb => let ⟨_, z, _⟩ := Tn.obj _ _ tn0 b hb; Heap.lt_size z
  have fc : ∀ b ∈ fp, FpOk X pins Hc b ∧ b < sc.heap.objs.size := fun b hb => by
    obtain ⟨o, z, _⟩ := Tn.obj _ _ tn0 b hb
    refine ⟨⟨?_, (fb b hb).2⟩, Heap.lt_size (up b o z)⟩
    rw [eHc, upd_ne (Nat.ne_of_lt (below b hb))]
    exact (fb b hb).1
  have tnc : tn 0 sc.heap := Tn.keep _ _ _ tn0 fun b _ o z => up b o z
  have Ie := block_start Ic ok nd fc
  obtain ⟨cells, ecl⟩ : ∃ z, z = cellsFrom (sc.heap.objs.size + 1) scope.names (cloFrom X.env.cells scope.names []) := ⟨_, rfl⟩
  have pg := pgs sc Hc sc.heap.objs.size cells fp
  have pt := pts sc Hc sc.heap.objs.size cells fp
  have pk := pks sc Hc sc.heap.objs.size cells fp
  have pv := pvs sc Hc sc.heap.objs.size cells fp
  rw [← ecl] at Ie
  rw [← esc]
  show codeAny _ _ (.compStart _ 0 (.ref it) (.ref sb.heap.objs.size) (compEnvC scope (cellsFrom (sc.heap.objs.size + 1) scope.names (cloFrom X.env.cells scope.names [])) sc.heap.objs.size X.env)) (compPost _ _ X.xe use Qf (.ref sb.heap.objs.size) sc.heap.objs.size) _
  rw [← ecl]
  have loc : (compEnvC scope cells sc.heap.objs.size X.env).locals = sc.heap.objs.size := rfl
  rw [← eHc] at w0
  have empty : ∀ b ∈ fp, Hc b = none := fun b hb => (fc b hb).1.1
  obtain ⟨sd, esd⟩ : ∃ z : Shared, z = { sc with heap := pushCells (sc.heap.push { cls := .type "dict", data := .dict #[] }) scope.names } := ⟨_, rfl⟩
  have tnd : tn 0 sd.heap := Tn.keep _ _ _ tnc fun b _ o z => by
    rw [esd]
    exact pushCells_keeps _ _ _ _ (Heap.get?_push_of_some _ z)
  rw [← esd] at Ie ⊢
  generalize compEnvC scope cells sc.heap.objs.size X.env = ce at Ie pg pt pk pv loc ⊢
  -- the iterator's own objects in the block
  have own_ok : ∀ {ρ : L2.St} {G : Hp} {t : Shared}, Inv (X.blk sc Hc scope ce fp) [] ρ G t → (∀ b ∈ fp, G b = none) → ∀ b ∈ fp, FpOk (X.blk sc Hc scope ce fp) [] G b := fun {ρ G t} J hn b hb =>
    ⟨hn b hb, (J.ok.exf b hb).1, J.ok.exfs b hb, .inl hb, fun y c z => (J.ok.exf b hb).2 y c z, fun p hp => (nomatch hp)⟩
  have run : codeAny (model X.prog X.w) X.A (.compLoop (.DictComp kx vx [⟨tg, iter, ifs, 0⟩] scope pos) 0 (.ref it) (.ref sb.heap.objs.size) ce) (compPost (model X.prog X.w) X.A X.xe use Qf (.ref sb.heap.objs.size) sc.heap.objs.size) sd := by
    refine compLoop_anyD (fun m t => ∃ i G, Inv (X.blk sc Hc scope ce fp) [] (wipe σ (own.map (·.2))) G t ∧ tn i t.heap ∧ (∀ b ∈ fp, G b = none) ∧ W i m G) ?_ m0 ⟨0, Hc, Ie, tnd, empty, w0⟩
    rintro m t ⟨i, G, J, tni, none_, wi_⟩
    rcases turn i m G wi_ with ⟨stop, fin⟩ | ⟨go, Nx, less, step⟩
    · refine thnF (Tn.done (X.blk sc Hc scope ce fp) rfl rfl rfl calm i [] t _ G (fun _ _ => False) J (own_ok J none_) tni stop) fun r t2 ⟨er, J2⟩ => ?_
      subst er
      have back : Inv X pins σ G t2 := Ic.call' (ch := fp) J2.os J2.base J2.hok J2.bare fun b hb => ⟨(fc b hb).1.2.2.2.1, (fc b hb).1.2.1, (fc b hb).1.2.2.2.2.1, (fc b hb).1.2.2.2.2.2⟩
      have noC : G sc.heap.objs.size = none := by
        have z : G ce.locals = none := J2.free
        rwa [loc] at z
      obtain ⟨ns, isNs, _⟩ := J2.loc
      have isNs' : t2.heap.Ns ce.locals ns := isNs
      rw [loc] at isNs'
      exact post _ _ t2 ns G back fin isNs' (Ic.fpOk (Nat.le_refl _) noC)
    · refine thnF (Tn.item (X.blk sc Hc scope ce fp) rfl rfl rfl calm i [] t _ G (fun _ _ => False) J (own_ok J none_) tni go) fun r t2 ⟨u, er, h2⟩ => ?_
      subst er
      refine thnF h2 fun _ t3 ⟨x, G3, J3, r3, y3, tn3, none3⟩ => ?_
      have K3 := J3.pinned (own_ok J3 none3) (Tn.obj _ _ tn3)
      refine thnF (pg.run _ t3 _ G3 x u _ K3 r3 (step x G3 y3)) fun _ t4 ⟨ρ4, G4, J4, same4, q4⟩ => ?_
      refine thnF (pt.run _ t4 ρ4 G4 _ J4 q4) fun yes t5 ⟨G5, J5, q5⟩ => ?_
      have next : ∀ {t' : Shared} {G' : Hp}, Inv (X.blk sc Hc scope ce fp) ([] ++ pinsAt fp t3.heap) ρ4 G' t' → Nx G' → ∃ m', m' < m ∧ ∃ i G, Inv (X.blk sc Hc scope ce fp) [] (wipe σ (own.map (·.2))) G t' ∧ tn i t'.heap ∧ (∀ b ∈ fp, G b = none) ∧ W i m' G := fun {t' G'} J' nx => by
        obtain ⟨m', lt, w'⟩ := less G' nx
        have held : ∀ b ∈ fp, ∀ o, t3.heap.get? b = some o → t'.heap.get? b = some o ∧ G' b = none := fun b hb o z =>
          have p := J'.pin (b, o) (List.mem_append_right _ (List.mem_append_right _ (mem_pinsAt hb z)))
          ⟨p.1, p.2.1⟩
        have len : (wipe σ (own.map (·.2))).length = ρ4.length := by rw [← same4, wipe_length]
        refine ⟨m', lt, i + 1, G', (J'.unpinned (pins := [])).weak len (fun j v z => ?_), Tn.keep _ _ _ tn3 fun b hb o z => (held b hb o z).1, fun b hb => ?_, w'⟩
        · rw [← same4] at z
          exact (wipe_some z).1
        · obtain ⟨o, z, _⟩ := Tn.obj _ _ tn3 b hb
          exact (held b hb o z).2
      cases yes with
      | false =>
        simp only [Bool.false_eq_true, if_false] at q5 ⊢
        exact next J5 q5
      | true =>
        simp only [if_true] at q5 ⊢
        refine thnF (pk.run _ t5 ρ4 G5 _ J5 q5) fun ku t6 ⟨yk, G6, J6, r6, q6⟩ => thnF (pv.run _ t6 ρ4 G6 _ J6 q6) fun vu t7 ⟨yv, G7, J7, r7, b, kvs, k, ek, at_b, at_d, few, nx⟩ => ?_
        subst ek
        exact set_tup (X := X.blk sc Hc scope ce fp) (show X.A.units + 1 < cLine by omega) J7 at_d few at_b r6 r7 fun t8 J8 => next J8 nx
  exact codeAny_compStart_dict run (Tn.self X.A 0 _ _ _ tnd run)
/-- as a value -/
theorem pe_dcT {kx vx tg iter : Expr} {ifs : List Expr} {scope : Scope} {own : List (Str × Nat)} {pos : Pos} {wi : TI} {g : TG} {tt : TT} {tk tv : TE} (room : X.A.units + 64 < cLine) (calm : X.calm = true) (nd : X.N.Nodup) (pi : PI X tg iter wi) (ok : BlkOk X.N X.env.scope scope own)
    (pgs : ∀ (s : Shared) (H : Hp) (C : Addr) (cl : List (Str × Addr)) (fp : List Addr), PG (X.blk s H scope (compEnvC scope cl C X.env) fp) tg g) (pts : ∀ (s : Shared) (H : Hp) (C : Addr) (cl : List (Str × Addr)) (fp : List Addr), PTs (X.blk s H scope (compEnvC scope cl C X.env) fp) ifs tt)
    (pks : ∀ (s : Shared) (H : Hp) (C : Addr) (cl : List (Str × Addr)) (fp : List Addr), PE (X.blk s H scope (compEnvC scope cl C X.env) fp) kx tk) (pvs : ∀ (s : Shared) (H : Hp) (C : Addr) (cl : List (Str × Addr)) (fp : List Addr), PE (X.blk s H scope (compEnvC scope cl C X.env) fp) vx tv)
    (fold : ∀ x, foldedSetIterable iter X.env x = pure x := by intro _; rfl) : PE X (.DictComp kx vx [⟨tg, iter, ifs, 0⟩] scope pos) (tDcT wi g tt tk tv (own.map (·.2))) := by
  refine ⟨fun pins s0 σ H0 Q I0 rd => ?_⟩
  rw [arm_eval_DictComp]
  refine dcT_core room calm nd I0 pi ok pgs pts pks pvs fold rd fun D C t ns G J fin isNs ⟨f0, f1, f2, f3, f4, f5⟩ => ⟨ns, isNs, fun h2 sb2 => ⟨.ref D, G, J.turned (t' := t.toks) (fun b o ne z => (sb2.2 b ne).trans z) f0 f1 f3 f4 f5, rfl, fin⟩⟩
/-- name = {..} on one line, the name a local -/
theorem ps_setDcT {i : Nat} {y : Str} {py : Pos} {kx vx tg iter : Expr} {ifs : List Expr} {scope : Scope} {own : List (Str × Nat)} {pos spos : Pos} {wi : TI} {g : TG} {tt : TT} {tk tv : TE} (room : X.A.units + 64 < cLine) (calm : X.calm = true) (nd : X.N.Nodup) (at_y : X.N[i]? = some y) (loc : X.env.scope.names.lookup y = some .local)
    (sw : swapsWith (.DictComp kx vx [⟨tg, iter, ifs, 0⟩] scope pos) (some (.Name y py)) spos.line X.env = pure true) (pi : PI X tg iter wi) (ok : BlkOk X.N X.env.scope scope own)
    (pgs : ∀ (s : Shared) (H : Hp) (C : Addr) (cl : List (Str × Addr)) (fp : List Addr), PG (X.blk s H scope (compEnvC scope cl C X.env) fp) tg g) (pts : ∀ (s : Shared) (H : Hp) (C : Addr) (cl : List (Str × Addr)) (fp : List Addr), PTs (X.blk s H scope (compEnvC scope cl C X.env) fp) ifs tt)
    (pks : ∀ (s : Shared) (H : Hp) (C : Addr) (cl : List (Str × Addr)) (fp : List Addr), PE (X.blk s H scope (compEnvC scope cl C X.env) fp) kx tk) (pvs : ∀ (s : Shared) (H : Hp) (C : Addr) (cl : List (Str × Addr)) (fp : List Addr), PE (X.blk s H scope (compEnvC scope cl C X.env) fp) vx tv)
    (fold : ∀ x, foldedSetIterable iter X.env x = pure x := by intro _; rfl) : PS X (.Assign [.Name y py] (.DictComp kx vx [⟨tg, iter, ifs, 0⟩] scope pos) spos) (tAsg (tDcT wi g tt tk tv (own.map (·.2))) (gName i)) := by
  refine ⟨fun pins s0 σ H0 D I0 rd => ?_⟩
  rw [exec_Assign_Name_used _ _ _ _ sw]
  refine wpAny_bind (wpAny_standAt (wpAny_bind ?_))
  show wpAny _ X.A (do let _ ← comprehension (.DictComp kx vx [⟨tg, iter, ifs, 0⟩] scope pos) scope X.env (firstIterPos [⟨tg, iter, ifs, 0⟩] pos) newDict false (eval iter X.env) (some (assign (.Name y py) X.env))) _ _ s0
  have rd' : tDcT wi g tt tk tv (own.map (·.2)) σ H0 (fun x G => gName i x σ G D.nx) := rd
  refine wpAny_bind (thn (dcT_core (Qf := fun _ t => SP X pins D .next t) room calm nd I0 pi ok pgs pts pks pvs fold rd' fun L C t ns G J fin isNs fo => ?_) fun _ _ z => wpAny_pure (wpAny_pure z))
  obtain ⟨f0, f1, f2, f3, f4, f5⟩ := fo
  show wpAny _ _ (assign (.Name y py) X.env (.ref L)) _ _ _
  refine wpAny_assign_Name (store_ok2 (v := V.ref L) J nd at_y (.inl loc) rfl (fun t2 J2 ⟨c, sb, hc⟩ => ?_) (.inr loc))
  have ne : C ≠ c := hc.elim (fun z => z ▸ f1) fun z e => f4 y c z e.symm
  exact ⟨ns, isNs.sameBut sb ne, fun h3 sb3 => ⟨_, G, J2.turned (t' := t2.toks) (fun b o hb e => (sb3.2 b hb).trans e) f0 f1 f3 f4 f5, fin⟩⟩
theorem sw_dict {kx vx : Expr} {gs : List Comprehension} {scope : Scope} {pos py : Pos} {y : Str} {l : Nat} {env : Env} (fn : env.scope.kind = .function) (loc : env.scope.names.lookup y = some .local) (row : (py.line == pos.line) = true)
    (other : (scope.names.any fun (n, k) => n == y && (k == .local || k == .cell)) = false) : swapsWith (.DictComp kx vx gs scope pos) (some (.Name y py)) l env = pure true := by
  have k1 : env.kindOf y = some .local := loc
  have k2 : env.blockKind = .function := by
    unfold Env.blockKind
    rw [fn]
    rfl
  unfold swapsWith
  simp only [k1, k2, other, Expr.pos, row]
  rfl
end
end DcT

/-! sorted(d), the keys of d tuples of ints, of any number. -/
namespace SortR
open PySem PySem.Spec PyProof.Rows L2 PySem.W
theorem enc_alikeT (p q : Addr × List Int) : alike (PyData.tuple (p.2.map .int)) (PyData.tuple (q.2.map .int)) = true := by
  simp only [alike]
  exact alike_ints p.2 q.2
theorem le_tuples : dataLe false (fun b : Addr × List Int => PyData.tuple (b.2.map .int)) = rowLe := by
  have e : dataLe false (fun b : Addr × List Int => PyData.tuple (b.2.map .int)) = dataLe false (fun b : Addr × List Int => PyData.list (b.2.map .int)) := by
    funext p q
    simp only [dataLe_eq, dataLt_tuple, dataLt_list]
  rw [e]
  exact dataLe_rows (fun b : Addr × List Int => b.2)
/-- the keys' tuples, in the dict's sequence -/
theorem key_rows {H : Hp} : ∀ {kvs : List (List L2.Key × V)} {ks : List (List L2.Key × Addr × Value)} {bs : List (List Int)},
    Paired (fun (p : List L2.Key × V) (q : List L2.Key × Addr × Value) => p.1 = q.1 ∧ H q.2.1 = some (.tup (p.1.map kV)) ∧ RelV p.2 q.2.2) kvs ks → kvs.map (·.1) = bs.map (fun ns => ns.map Sum.inl) →
    ∃ as : List (Addr × List Int), as.map (·.1) = ks.map (·.2.1) ∧ as.map (·.2) = bs ∧ ∀ b ∈ as, H b.1 = some (.tup (b.2.map V.int))
  | _, _, [], .nil, _ => ⟨[], rfl, rfl, fun _ m => nomatch m⟩
  | _, _, n :: bs, .cons (a := p) (b := q) h t, e => by
    rw [List.map_cons, List.map_cons] at e
    obtain ⟨e1, e2⟩ := List.cons.inj e
    obtain ⟨as, f1, f2, f3⟩ := key_rows t e2
    refine ⟨(q.2.1, n) :: as, by rw [List.map_cons, List.map_cons, f1], by rw [List.map_cons, f2], fun b m => ?_⟩
    rcases List.mem_cons.mp m with z | z
    · rw [z]
      have g := h.2.1
      rw [e1, List.map_map] at g
      exact g
    · exact f3 b z
  | _, _, [], .cons _ _, e => by cases e
  | _, _, _ :: _, .nil, e => by cases e
section
variable {X : Cx}
theorem call_sortedDT (hu : X.A.units + 64 < cLine) (calm : X.calm = true) : CallR X (.builtin "sorted") (fun xs H Q => ∃ (d : Addr) (kvs : List (List L2.Key × V)) (bs : List (List Int)), xs = [V.ref d] ∧ H d = some (.dT kvs) ∧ kvs.map (·.1) = bs.map (fun ns => ns.map Sum.inl) ∧ (∀ k ∈ bs, k ≠ []) ∧
    ∀ as : List (Addr × List Int), as.map (·.2) = bs → (∀ b ∈ as, H b.1 = some (.tup (b.2.map V.int))) → ∀ p, H p = none → Q (.ref p) (upd H p (.lst ((as.mergeSort rowLe).map fun b => V.ref b.1)))) := by
  intro pins s σ H xs us Q I r h
  obtain ⟨d, kvs, bs, rfl, hd, hk, hne, q⟩ := h
  obtain ⟨u, rfl, ru⟩ := vals1 r
  obtain rfl : u = Value.ref d := ru
  obtain ⟨z, hs, ks, pr, o, es, ep, ho, hx, hdt, he, hn⟩ := (show ObjOk X.prog X.w H s.heap d (.dT kvs) from I.hok d _ hd)
  obtain ⟨as, a1, a2, a3⟩ := key_rows pr hk
  have l0 : es.size = ks.length := size_of_entries he
  have l1 : kvs.length = ks.length := Paired.length pr
  have l2 : as.length = ks.length := by rw [← List.length_map (f := (·.1)), a1, List.length_map]
  have fits : ks.length ≤ sizeLine := l1 ▸ z
  refine Calls.call_function_entry PyProof.Rows.kind_sorted PyProof.Rows.plain_sorted PyProof.Rows.entry_sorted (PyProof.Rows.args_sorted1 _) ?_
  unfold Builtin.«sorted»
  refine wpAny_bind (m := checkCount "sorted" 1 1 _) (wpAny_pure (wpAny_bind (kdu_collect (A := X.A.in1) (kdl_raw hs hx hdt) (I.ok.hd calm) ho (l0 ▸ fits) fun h1 tk acc keep it => ?_)))
  have ea : acc.toList = as.map fun b => Value.ref b.1 := by
    have e1 : acc.toList = ks.map fun x => Value.ref x.2.1 := by
      have len : acc.toList.length = ks.length := by rw [Array.length_toList, it.1, l0]
      refine List.ext_getElem (by rw [List.length_map, len]) fun j j1 j2 => ?_
      obtain ⟨en, hen, hv⟩ := it.2 j acc.toList[j] (by rw [← Array.getElem?_toList, List.getElem?_eq_getElem j1])
      have at_j := entry_at he j
      rw [hen, List.getElem?_eq_getElem (len ▸ j1)] at at_j
      have e2 : en = entryOfKey (tupleKind (mixKind X.prog X.w)) (ks[j]'(len ▸ j1)) := Option.some.inj at_j
      rw [hv, e2, List.getElem_map]
      rfl
    rw [e1]
    have e3 := congrArg (List.map Value.ref) a1
    rw [List.map_map, List.map_map] at e3
    exact e3.symm
  have len : acc.toList.length = as.length := by rw [ea, List.length_map]
  have I1 : Inv X pins σ H { s with heap := h1, toks := tk } := I.kept keep
  refine wpAny_bind (wpAny_newList ?_ (by rw [len, l2]; exact fits))
  have at_p : (h1.push (seqObj "list" acc.toList.toArray 0)).get? h1.objs.size = some (seqObj "list" acc.toList.toArray 0) := Heap.get?_push_size _ rfl
  have old : ∀ b u, h1.get? b = some u → b ≠ h1.objs.size ∧ (h1.push (seqObj "list" acc.toList.toArray 0)).get? b = some u := fun b u e => ⟨Nat.ne_of_lt (Heap.lt_size e), Heap.get?_push_of_some _ e⟩
  have each : EachIs (fun v (b : Addr × List Int) => v = Value.ref b.1 ∧ True) acc.toList as := by
    have vr : Vals (as.map fun b => V.ref b.1) acc.toList := by
      rw [ea]
      clear ea a1 a2 a3 l2 len q it
      induction as with
      | nil => exact .nil
      | cons b as ih => exact .cons rfl ih
    exact vals_each (h := s.heap) (K := X.K) (H := H) (P := fun _ => True) vr fun _ _ => trivial
  obtain ⟨hS, ehS⟩ : ∃ z, z = sortingHeap (h1.push (seqObj "list" acc.toList.toArray 0)) h1.objs.size acc.toList := ⟨_, rfl⟩
  have reads : EachIs (fun v (b : Addr × List Int) => ∃ rs, Reads hS v (PyData.tuple (b.2.map .int)) rs) acc.toList as := by
    have each2 : EachIs (fun v (b : Addr × List Int) => v = Value.ref b.1 ∧ H b.1 = some (.tup (b.2.map V.int))) acc.toList as := by
      have vr : Vals (as.map fun b => V.ref b.1) acc.toList := each_back each
      exact vals_each (h := s.heap) (K := X.K) (H := H) vr a3
    refine each_mono each2 fun v b ⟨ev, hb⟩ => ?_
    rw [ev]
    obtain ⟨rs, rr⟩ := Dp.reads I1 (PyData.tuple (b.2.map .int)) (.ref b.1) (.ref b.1) (.tup (SqT.of hb) (rows_dp b.2)) rfl
    refine ⟨rs, PyProof.Rows.Reads.keeps (fun c u e => ?_) rr⟩
    rw [ehS]
    obtain ⟨n1, n2⟩ := old c u e
    exact sortingHeap_old n1 n2
  have alikeAll_ : AllAlike (as.map fun b => PyData.tuple (b.2.map .int)) := AllAlike.of enc_alikeT
  have sortable : Sortable (as.map fun b => PyData.tuple (b.2.map .int)) := .inl fun dd hm => by
    obtain ⟨b, hb, rfl⟩ := List.mem_map.mp hm
    have mem : b.2 ∈ bs := a2 ▸ List.mem_map.mpr ⟨b, hb, rfl⟩
    cases e : b.2 with
    | nil => exact absurd e (hne _ mem)
    | cons x l => exact ⟨_, _, rfl⟩
  have shallow : ∀ dd ∈ as.map (fun b => PyData.tuple (b.2.map .int)), dd.depth = 1 := fun dd hm => by
    obtain ⟨b, _, rfl⟩ := List.mem_map.mp hm
    simp only [PyData.depth, depth_ints]
  show wpAny _ _ _ _ _ { s with heap := h1.push (seqObj "list" acc.toList.toArray 0), toks := tk }
  have sorts : ∀ Ar : Around, Ar.units ≤ X.A.units + 8 → SortsAt X.prog X.w Ar { s with heap := hS, toks := tk } (dataKind hS (as.map fun b => PyData.tuple (b.2.map .int))) acc.toList := fun Ar hA =>
    SortsAt.data (s := { s with heap := hS, toks := tk }) (each_map (R := fun v dd => ∃ rs, Reads hS v dd rs) (fun b : Addr × List Int => PyData.tuple (b.2.map .int)) reads) alikeAll_ sortable fun dd hm => by rw [shallow dd hm]; omega
  rw [ehS] at sorts reads
  have each3 := sortVals_data (R := fun v (b : Addr × List Int) => v = Value.ref b.1 ∧ True) (enc := fun b : Addr × List Int => PyData.tuple (b.2.map .int)) false each reads alikeAll_
  rw [le_tuples] at each3
  have back := each_back each3
  have short : ((as.mergeSort rowLe).map fun b => V.ref b.1).length ≤ sizeLine := by
    rw [List.length_map, List.length_mergeSort, l2]
    exact fits
  refine wpAny_bind (wpAny_holding (wpAny_call_entry PyProof.Rows.slot_list_sort ⟨_, at_p, rfl⟩ PyProof.Rows.entry_list_sort
    (list_sort_vals (s := { s with heap := h1.push (seqObj "list" acc.toList.toArray 0), toks := tk }) at_p (sorts _ (by show X.A.units + 1 + 1 ≤ X.A.units + 8; omega)) (by rw [len, l2]; exact fits) ⟨_, rfl, ?_⟩) (PyProof.Rows.args_list_sort _)))
  obtain ⟨n2, at2⟩ := PyProof.Rows.sortedHeap_at (vs := acc.toList) (out := (sortVals (dataKind (sortingHeap (h1.push (seqObj "list" acc.toList.toArray 0)) h1.objs.size acc.toList) (as.map fun b => PyData.tuple (b.2.map .int))) false acc.toList acc.toList).toArray) at_p
  refine wpAny_pure ⟨_, rfl, .ref h1.objs.size, upd H h1.objs.size (.lst ((as.mergeSort rowLe).map fun b => V.ref b.1)), I1.laid (t' := tk) (fun b u e => ?_) (Nat.le_refl _) ⟨short, _, n2, back, at2⟩, rfl, q as a2 a3 _ (I1.hok.fresh (Nat.le_refl _))⟩
  obtain ⟨n1, g⟩ := old b u e
  rw [PyProof.Rows.sortedHeap_old n1 (Heap.lt_size g)]
  exact g
end
end SortR

/-! Comprehensions with a test, and dict comprehensions, by the value of each turn. -/
namespace LcM
open PySem PySem.Spec PyProof.Rows L2
/-- what is kept -/
def kept (p : Nat → Bool) (F : Nat → V) (n : Nat) : List V := ((List.range n).filter p).map F
theorem kept_yes {p : Nat → Bool} {F : Nat → V} {n : Nat} (h : p n = true) : kept p F (n + 1) = kept p F n ++ [F n] := by
  unfold kept
  rw [List.range_succ, List.filter_append, List.map_append, List.filter_cons_of_pos h]
  rfl
theorem kept_no {p : Nat → Bool} {F : Nat → V} {n : Nat} (h : p n = false) : kept p F (n + 1) = kept p F n := by
  unfold kept
  rw [List.range_succ, List.filter_append, List.map_append, List.filter_cons_of_neg (by rw [h]; exact Bool.false_ne_true)]
  exact List.append_nil _
theorem kept_le (p : Nat → Bool) (F : Nat → V) (n : Nat) : (kept p F n).length ≤ n := by
  unfold kept
  rw [List.length_map]
  exact Nat.le_trans (List.length_filter_le _ _) (Nat.le_of_eq List.length_range)
section
variable {K : PySem.W.Frag} {a : Addr} {xs : List V} {g : TG} {tt : TT} {te tk tv : TE} {vs : List Nat} {σ : L2.St} {H0 : Hp} {D : Addr} {Qd : Hp → Prop}
theorem lc_listT (p : Nat → Bool) (F : Nat → V) (hD : H0 D = none) (hx : SqL K H0 a xs) (small : xs.length ≤ 1000000)
    (turn : ∀ (i : Nat) (x : V) (H : Hp) (Ry : V → Hp → Prop) (Rn : Hp → Prop), xs[i]? = some x → Grows H0 H → (p i = true → ∀ H4, Grows H H4 → Ry (F i) H4) → (p i = false → ∀ H4, Grows H H4 → Rn H4) →
      g x (wipe σ vs) H fun σ2 H2 => wipe σ2 vs = wipe σ vs ∧ tt σ2 H2 fun t H3 => if t = true then te σ2 H3 Ry else Rn H3)
    (done : ∀ H, Grows H0 H → H D = some (.lst (kept p F xs.length)) → Qd H) :
    ∃ W : Nat → Nat → Hp → Prop, (∃ m, W 0 m (upd H0 D (.lst []))) ∧ ∀ i m H, W i m H →
      ((Itl K a).stop i H ∧ Qd H) ∨ ((Itl K a).go i H ∧ ∃ Nx : Hp → Prop, (∀ H', Nx H' → ∃ m', m' < m ∧ W (i + 1) m' H') ∧ ∀ x H', (Itl K a).yld i H x H' → g x (wipe σ vs) H' fun σ2 H2 => wipe σ2 vs = wipe σ vs ∧ tt σ2 H2 fun b H3 =>
        if b = true then te σ2 H3 fun y H4 => ∃ acc, H4 D = some (.lst acc) ∧ acc.length < sizeLine ∧ Nx (upd H4 D (.lst (acc ++ [y]))) else Nx H3) := by
  refine lc_list (fun i H => Grows H0 H ∧ H D = some (.lst (kept p F i))) ⟨Grows.new hD, upd_same⟩ (fun i H _ m => m.1.seq hx) (fun i x H ex m => ?_) fun H m => done H m.1 m.2
  have il := Nat.lt_of_lt_of_le (List.getElem?_eq_some_iff.mp ex).1 small
  refine turn i x H _ _ ex m.1 (fun hp H4 s => ⟨_, s _ _ m.2, ?_, fun b o e => ?_, ?_⟩) fun hp H4 s => ⟨m.1.trans s, ?_⟩
  · exact Nat.lt_of_le_of_lt (kept_le p F i) (Nat.lt_trans il (by decide))
  · rw [upd_ne (ne_of_none e hD)]
    exact s _ _ (m.1 _ _ e)
  · rw [upd_same, kept_yes hp]
  · rw [kept_no hp]
    exact s _ _ m.2
/-- a dict's entries, laid one after another -/
def laid {κ : Type} [DecidableEq κ] (p : Nat → Bool) (G : Nat → κ) (F : Nat → V) : Nat → List (κ × V)
  | 0 => []
  | n + 1 => if p n = true then putK (laid p G F n) (G n) (F n) else laid p G F n
theorem laid_le {κ : Type} [DecidableEq κ] (p : Nat → Bool) (G : Nat → κ) (F : Nat → V) : ∀ n, (laid p G F n).length ≤ n
  | 0 => Nat.le_refl _
  | n + 1 => by
    have ih := laid_le p G F n
    unfold laid
    by_cases h : p n = true
    · rw [if_pos h]
      exact Nat.le_trans (length_putK _ _ _) (Nat.succ_le_succ ih)
    · rw [if_neg h]
      exact Nat.le_succ_of_le ih
/-- over enumerate, keys ints or texts, no test -/
theorem dc_enumM (G : Nat → L2.Key) (F : Nat → V) (hD : H0 D = none) (hx : SqL K H0 a xs) (small : xs.length ≤ 1000000)
    (turn : ∀ (i : Nat) (x : V) (T : Addr) (H : Hp) (R : V → Hp → V → Hp → Prop), xs[i]? = some x → Grows H0 H → H T = none → (∀ H4 H5, Grows (upd H T (.tup [.int (i : Nat), x])) H4 → Grows H4 H5 → R (kV (G i)) H4 (F i) H5) →
      g (.ref T) (wipe σ vs) (upd H T (.tup [.int (i : Nat), x])) fun σ2 H2 => wipe σ2 vs = wipe σ vs ∧ tk σ2 H2 fun y H4 => tv σ2 H4 fun z H5 => R y H4 z H5)
    (done : ∀ H, Grows H0 H → H D = some (.dK (laid (fun _ => true) G F xs.length)) → Qd H) :
    ∃ W : Nat → Nat → Hp → Prop, (∃ m, W 0 m (upd H0 D (.dK []))) ∧ ∀ i m H, W i m H →
      ((Ite K a).stop i H ∧ Qd H) ∨ ((Ite K a).go i H ∧ ∃ Nx : Hp → Prop, (∀ H', Nx H' → ∃ m', m' < m ∧ W (i + 1) m' H') ∧ ∀ x H', (Ite K a).yld i H x H' → g x (wipe σ vs) H' fun σ2 H2 => wipe σ2 vs = wipe σ vs ∧ tYes σ2 H2 fun b H3 =>
        if b = true then tk σ2 H3 fun y H4 => tv σ2 H4 fun z H5 => ∃ kvs k, y = kV k ∧ H5 D = some (.dK kvs) ∧ kvs.length < sizeLine ∧ Nx (upd H5 D (.dK (putK kvs k z))) else Nx H3) := by
  let inv : Nat → Hp → Prop := fun i H => Grows H0 H ∧ H D = some (.dK (laid (fun _ => true) G F i))
  refine ⟨fun i m H => m = xs.length - i ∧ i ≤ xs.length ∧ inv i H, ⟨_, rfl, Nat.zero_le _, Grows.new hD, upd_same⟩, ?_⟩
  rintro i m H ⟨rfl, hi, pv⟩
  rcases Nat.lt_or_ge i xs.length with lt | ge
  · have ex : xs[i]? = some xs[i] := List.getElem?_eq_getElem lt
    refine .inr ⟨⟨xs, _, pv.1.seq hx, ex⟩, inv (i + 1), fun H' p' => ⟨xs.length - (i + 1), by omega, rfl, lt, p'⟩, fun v H' y => ?_⟩
    obtain ⟨T, x, rfl, hT, rfl, f1⟩ := y
    have e0 : (fun (σ2 : L2.St) (H2 : Hp) => wipe σ2 vs = wipe σ vs ∧ tYes σ2 H2 fun b H3 => if b = true then tk σ2 H3 fun y H4 => tv σ2 H4 fun z H5 => ∃ kvs k, y = kV k ∧ H5 D = some (.dK kvs) ∧ kvs.length < sizeLine ∧ inv (i + 1) (upd H5 D (.dK (putK kvs k z))) else inv (i + 1) H3) =
        fun σ2 H2 => wipe σ2 vs = wipe σ vs ∧ tk σ2 H2 fun y H4 => tv σ2 H4 fun z H5 => ∃ kvs k, y = kV k ∧ H5 D = some (.dK kvs) ∧ kvs.length < sizeLine ∧ inv (i + 1) (upd H5 D (.dK (putK kvs k z))) := by
      funext σ2 H2
      unfold tYes
      dsimp only
      rw [if_pos rfl]
    rw [e0]
    refine turn i x T H (fun y _ z H5 => ∃ kvs k, y = kV k ∧ H5 D = some (.dK kvs) ∧ kvs.length < sizeLine ∧ inv (i + 1) (upd H5 D (.dK (putK kvs k z)))) (f1 xs (pv.1.seq hx)) pv.1 hT fun H4 H5 s4 s5 => ⟨_, G i, rfl, s5 _ _ (s4 _ _ (Grows.new hT _ _ pv.2)), ?_, fun b o e => ?_, ?_⟩
    · exact Nat.lt_of_le_of_lt (laid_le _ G F i) (Nat.lt_of_lt_of_le lt (Nat.le_trans small (by decide)))
    · rw [upd_ne (ne_of_none e hD)]
      exact s5 _ _ (s4 _ _ (Grows.new hT _ _ (pv.1 _ _ e)))
    · rw [upd_same]
      rfl
  · have e : i = xs.length := by omega
    subst e
    exact .inl ⟨⟨xs, pv.1.seq hx, Nat.le_refl _⟩, done H pv.1 pv.2⟩
/-- over a list, the keys tuples, with a test -/
theorem dc_listTT (p : Nat → Bool) (G : Nat → List L2.Key) (F : Nat → V) (hD : H0 D = none) (hx : SqL K H0 a xs) (small : xs.length ≤ 1000000)
    (turn : ∀ (i : Nat) (x : V) (H : Hp) (R : V → V → Hp → Prop) (Rn : Hp → Prop), xs[i]? = some x → Grows H0 H → (p i = true → ∀ b H5, Grows H H5 → H5 b = some (.tup ((G i).map kV)) → R (.ref b) (F i) H5) → (p i = false → ∀ H4, Grows H H4 → Rn H4) →
      g x (wipe σ vs) H fun σ2 H2 => wipe σ2 vs = wipe σ vs ∧ tt σ2 H2 fun t H3 => if t = true then tk σ2 H3 fun y H4 => tv σ2 H4 fun z H5 => R y z H5 else Rn H3)
    (done : ∀ H, Grows H0 H → H D = some (.dT (laid p G F xs.length)) → Qd H) :
    ∃ W : Nat → Nat → Hp → Prop, (∃ m, W 0 m (upd H0 D (.dT []))) ∧ ∀ i m H, W i m H →
      ((Itl K a).stop i H ∧ Qd H) ∨ ((Itl K a).go i H ∧ ∃ Nx : Hp → Prop, (∀ H', Nx H' → ∃ m', m' < m ∧ W (i + 1) m' H') ∧ ∀ x H', (Itl K a).yld i H x H' → g x (wipe σ vs) H' fun σ2 H2 => wipe σ2 vs = wipe σ vs ∧ tt σ2 H2 fun t H3 =>
        if t = true then tk σ2 H3 fun y H4 => tv σ2 H4 fun z H5 => ∃ b kvs k, y = .ref b ∧ H5 b = some (.tup (k.map kV)) ∧ H5 D = some (.dT kvs) ∧ kvs.length < sizeLine ∧ Nx (upd H5 D (.dT (putK kvs k z))) else Nx H3) := by
  let inv : Nat → Hp → Prop := fun i H => Grows H0 H ∧ H D = some (.dT (laid p G F i))
  refine ⟨fun i m H => m = xs.length - i ∧ i ≤ xs.length ∧ inv i H, ⟨_, rfl, Nat.zero_le _, Grows.new hD, upd_same⟩, ?_⟩
  rintro i m H ⟨rfl, hi, pv⟩
  rcases Nat.lt_or_ge i xs.length with lt | ge
  · have ex : xs[i]? = some xs[i] := List.getElem?_eq_getElem lt
    refine .inr ⟨⟨xs, _, pv.1.seq hx, ex⟩, inv (i + 1), fun H' p' => ⟨xs.length - (i + 1), by omega, rfl, lt, p'⟩, fun v H' y => ?_⟩
    obtain ⟨rfl, y⟩ := y
    refine turn i v _ (fun y z H5 => ∃ b kvs k, y = .ref b ∧ H5 b = some (.tup (k.map kV)) ∧ H5 D = some (.dT kvs) ∧ kvs.length < sizeLine ∧ inv (i + 1) (upd H5 D (.dT (putK kvs k z)))) (inv (i + 1)) (y xs (pv.1.seq hx)) pv.1 (fun hp b H5 s5 hb => ⟨b, _, G i, rfl, hb, s5 _ _ pv.2, ?_, fun c o e => ?_, ?_⟩) fun hp H4 s4 => ⟨pv.1.trans s4, ?_⟩
    · exact Nat.lt_of_le_of_lt (laid_le _ G F i) (Nat.lt_of_lt_of_le lt (Nat.le_trans small (by decide)))
    · rw [upd_ne (ne_of_none e hD)]
      exact s5 _ _ (pv.1 _ _ e)
    · rw [upd_same]
      show _ = some (HO.dT (if p i = true then _ else _))
      rw [if_pos hp]
    · rw [s4 _ _ pv.2]
      show _ = some (HO.dT (if p i = true then _ else _))
      rw [if_neg (by rw [hp]; exact Bool.false_ne_true)]
  · have e : i = xs.length := by omega
    subst e
    exact .inl ⟨⟨xs, pv.1.seq hx, Nat.le_refl _⟩, done H pv.1 pv.2⟩
end
end LcM

/-! A comprehension that makes new lists of ints. -/
namespace LcM
open PySem PySem.Spec PyProof.Rows L2
/-- new lists of ints -/
structure Nw (H0 H : Hp) (cs : List (Addr × List Int)) : Prop where
  lists : ∀ c ∈ cs, H c.1 = some (.lst (c.2.map V.int))
  new : ∀ c ∈ cs, H0 c.1 = none
  nodup : (cs.map (·.1)).Nodup
theorem Nw.keep {H0 H H' : Hp} {cs : List (Addr × List Int)} (n : Nw H0 H cs) (s : Grows H H') : Nw H0 H' cs := ⟨fun c m => s _ _ (n.lists c m), n.new, n.nodup⟩
section
variable {K : PySem.W.Frag} {a : Addr} {xs : List V} {g : TG} {te : TE} {vs : List Nat} {σ : L2.St} {H0 : Hp} {D : Addr} {Qd : Hp → Prop}
theorem lc_listR (R : Nat → List Int) (hD : H0 D = none) (hx : SqL K H0 a xs) (small : xs.length ≤ 1000000)
    (turn : ∀ (i : Nat) (x : V) (H : Hp) (Rk : V → Hp → Prop), xs[i]? = some x → Grows H0 H → (∀ q H4, Grows H H4 → H q = none → H4 q = some (.lst ((R i).map V.int)) → Rk (.ref q) H4) → g x (wipe σ vs) H fun σ2 H2 => wipe σ2 vs = wipe σ vs ∧ te σ2 H2 Rk)
    (done : ∀ H cs, Grows H0 H → cs.map (·.2) = (List.range xs.length).map R → Nw H0 H cs → (∀ c ∈ cs, c.1 ≠ D) → H D = some (.lst (cs.map fun c => V.ref c.1)) → Qd H) :
    ∃ W : Nat → Nat → Hp → Prop, (∃ m, W 0 m (upd H0 D (.lst []))) ∧ ∀ i m H, W i m H →
      ((Itl K a).stop i H ∧ Qd H) ∨ ((Itl K a).go i H ∧ ∃ Nx : Hp → Prop, (∀ H', Nx H' → ∃ m', m' < m ∧ W (i + 1) m' H') ∧ ∀ x H', (Itl K a).yld i H x H' → g x (wipe σ vs) H' fun σ2 H2 => wipe σ2 vs = wipe σ vs ∧ tYes σ2 H2 fun b H3 =>
        if b = true then te σ2 H3 fun y H4 => ∃ acc, H4 D = some (.lst acc) ∧ acc.length < sizeLine ∧ Nx (upd H4 D (.lst (acc ++ [y]))) else Nx H3) := by
  refine lc_list (fun i H => ∃ cs : List (Addr × List Int), Grows H0 H ∧ cs.map (·.2) = (List.range i).map R ∧ Nw H0 H cs ∧ (∀ c ∈ cs, c.1 ≠ D) ∧ H D = some (.lst (cs.map fun c => V.ref c.1)))
    ⟨[], Grows.new hD, rfl, ⟨(fun _ m => nomatch m), (fun _ m => nomatch m), List.Pairwise.nil⟩, (fun _ m => nomatch m), upd_same⟩ (fun i H _ ⟨_, s, _⟩ => s.seq hx) (fun i x H ex ⟨cs, s, e, n, apart, top⟩ => ?_) fun H ⟨cs, s, e, n, apart, top⟩ => done H cs s e n apart top
  rw [yes_eq (A := fun σ2 => wipe σ2 vs = wipe σ vs)]
  refine turn i x H _ ex s fun q H4 s4 hq at_q => ?_
  have il := Nat.lt_of_lt_of_le (List.getElem?_eq_some_iff.mp ex).1 small
  have len : cs.length = i := by
    have := congrArg List.length e
    rw [List.length_map, List.length_map, List.length_range] at this
    exact this
  have qD : q ≠ D := fun z => by
    rw [z, top] at hq
    cases hq
  have all : Grows H0 (upd H4 D (.lst (cs.map (fun c => V.ref c.1) ++ [.ref q]))) := fun b o eb => by
    rw [upd_ne (ne_of_none eb hD)]
    exact s4 _ _ (s _ _ eb)
  have q0 : H0 q = none := by
    rcases Option.eq_none_or_eq_some (H0 q) with z | ⟨o, z⟩
    · exact z
    · have := s _ _ z
      rw [hq] at this
      cases this
  refine ⟨_, s4 _ _ top, ?_, cs ++ [(q, R i)], all, ?_, ⟨?_, ?_, ?_⟩, ?_, ?_⟩
  · rw [List.length_map, len]
    exact Nat.lt_trans il (by decide)
  · rw [List.map_append, e, List.range_succ, List.map_append]
    rfl
  · intro c m
    rcases List.mem_append.mp m with m | m
    · rw [upd_ne (apart c m)]
      exact s4 _ _ (n.lists c m)
    · rw [List.mem_singleton.mp m, upd_ne qD]
      exact at_q
  · intro c m
    rcases List.mem_append.mp m with m | m
    · exact n.new c m
    · rw [List.mem_singleton.mp m]
      exact q0
  · rw [List.map_append, List.nodup_append]
    refine ⟨n.nodup, List.nodup_cons.mpr ⟨(fun z => nomatch z), List.Pairwise.nil⟩, fun b mb d md => ?_⟩
    obtain ⟨c, mc, rfl⟩ := List.mem_map.mp mb
    have ed : d = q := by simpa using md
    rw [ed]
    intro z
    have := n.lists c mc
    rw [z, hq] at this
    cases this
  · intro c m
    rcases List.mem_append.mp m with m | m
    · exact apart c m
    · rw [List.mem_singleton.mp m]
      exact qD
  · rw [upd_same, List.map_append]
    rfl
end
end LcM

/-! Rules with their readings named by K, for use within comprehensions. -/
namespace LcM
open PySem PySem.Spec PyProof.Rows L2
def rLenS (K : PySem.W.Frag) : List V → Hp → VK → Prop := fun xs H Q => ∃ p ys, xs = [.ref p] ∧ (SqL K H p ys ∨ SqT K H p ys) ∧ Q (.int ys.length) H
def rLst (K : PySem.W.Frag) : List V → Hp → VK → Prop := fun xs H Q => ∃ p ys, xs = [.ref p] ∧ (SqL K H p ys ∨ SqT K H p ys) ∧ ∀ l, H l = none → Q (.ref l) (upd H l (.lst ys))
def rTup (K : PySem.W.Frag) : List V → Hp → VK → Prop := fun xs H Q => ∃ p ys, xs = [.ref p] ∧ SqL K H p ys ∧ ∀ t, H t = none → Q (.ref t) (upd H t (.tup ys))
section
variable {X : Cx}
theorem call_lenK : CallR X (.builtin "len") (rLenS X.K) := fun pins s σ H xs us Q I r ⟨p, ys, e, h, q⟩ => call_len_seq pins s σ H xs us Q I r ⟨p, ys, e, h, q⟩
theorem call_lstK : CallR X (.type "list") (rLst X.K) := fun pins s σ H xs us Q I r ⟨p, ys, e, h, q⟩ => call_list_of pins s σ H xs us Q I r ⟨p, ys, e, h, q⟩
theorem call_tupK : CallR X (.type "tuple") (rTup X.K) := fun pins s σ H xs us Q I r ⟨p, ys, e, h, q⟩ => call_tuple_of pins s σ H xs us Q I r ⟨p, ys, e, .inl ⟨h, q⟩⟩
end
end LcM

/-! What cut gives, on lists of lists of ints. -/
namespace LcM
open PySem PySem.Spec PyProof.Rows L2 SortR
/-- the last place of x among the first n -/
def plcN (ns : List Int) (x : Int) : Nat → Option Nat
  | 0 => none
  | n + 1 => if ns.getD n 0 = x then some n else plcN ns x n
def plc (ns : List Int) (x : Int) : Option Nat := plcN ns x ns.length
theorem valV_laid (ns : List Int) (x : Int) : ∀ n, valV (laid (fun _ => true) (fun i => (Sum.inl (ns.getD i 0) : L2.Key)) (fun i => V.int (i : Nat)) n) (Sum.inl x) = (plcN ns x n).map fun j => V.int (j : Nat)
  | 0 => rfl
  | n + 1 => by
    have ih := valV_laid ns x n
    unfold laid plcN
    rw [if_pos rfl, valV_put]
    by_cases e : ns.getD n 0 = x
    · rw [if_pos e, if_pos (by rw [e])]
      rfl
    · rw [if_neg e, if_neg (fun z => e (Sum.inl.inj z).symm)]
      exact ih
/-- a group's persons who stay, by their places -/
def meet (ns r : List Int) : List Int := ((List.range r.length).filter fun i => (plc ns (r.getD i 0)).isSome).map fun i => (((plc ns (r.getD i 0)).getD 0 : Nat) : Int)
def two (m : List Int) : Bool := decide (2 ≤ (m.length : Int))
/-- unlike rows, in the sequence in which they come first -/
def firsts (p : Nat → Bool) (M : Nat → List Int) : Nat → List (List Int)
  | 0 => []
  | n + 1 => if p n = true then (if M n ∈ firsts p M n then firsts p M n else firsts p M n ++ [M n]) else firsts p M n
theorem put_keys {κ : Type} [DecidableEq κ] (kvs : List (κ × V)) (k : κ) (v : V) : (putK kvs k v).map (·.1) = if k ∈ kvs.map (·.1) then kvs.map (·.1) else kvs.map (·.1) ++ [k] := by
  unfold putK
  by_cases h : (kvs.any fun kv => decide (kv.1 = k)) = true
  · rw [if_pos h]
    obtain ⟨kv, hm, e⟩ := List.any_eq_true.mp h
    rw [if_pos (List.mem_map.mpr ⟨kv, hm, of_decide_eq_true e⟩), List.map_map]
    refine List.map_congr_left fun q _ => ?_
    show (if q.1 = k then (q.1, v) else q).1 = q.1
    split <;> rfl
  · rw [if_neg h, if_neg fun z => ?_, List.map_append]
    · rfl
    · obtain ⟨kv, hm, e⟩ := List.mem_map.mp z
      exact h (List.any_eq_true.mpr ⟨kv, hm, decide_eq_true e⟩)
theorem inl_inj {m n : List Int} (h : (m.map Sum.inl : List L2.Key) = n.map Sum.inl) : m = n := by
  induction m generalizing n with
  | nil =>
    cases n with
    | nil => rfl
    | cons _ _ => cases h
  | cons x m ih =>
    cases n with
    | nil => cases h
    | cons y n =>
      rw [List.map_cons, List.map_cons] at h
      obtain ⟨h1, h2⟩ := List.cons.inj h
      rw [Sum.inl.inj h1, ih h2]
theorem keys_laid (p : Nat → Bool) (M : Nat → List Int) (F : Nat → V) : ∀ n, (laid p (fun i => ((M i).map Sum.inl : List L2.Key)) F n).map (·.1) = (firsts p M n).map fun m => m.map Sum.inl
  | 0 => rfl
  | n + 1 => by
    have ih := keys_laid p M F n
    unfold laid firsts
    by_cases h : p n = true
    · rw [if_pos h, if_pos h, put_keys, ih]
      by_cases m : M n ∈ firsts p M n
      · rw [if_pos m, if_pos (List.mem_map.mpr ⟨_, m, rfl⟩)]
      · rw [if_neg m, if_neg fun z => ?_, List.map_append]
        · rfl
        · obtain ⟨r, hr, e⟩ := List.mem_map.mp z
          rw [inl_inj e] at hr
          exact m hr
    · rw [if_neg h, if_neg h]
      exact ih
theorem firsts_of (p : Nat → Bool) (M : Nat → List Int) : ∀ n, ∀ r ∈ firsts p M n, ∃ i, i < n ∧ p i = true ∧ r = M i
  | 0, _, h => nomatch h
  | n + 1, r, h => by
    have ih := firsts_of p M n r
    unfold firsts at h
    have old : r ∈ firsts p M n → ∃ i, i < n + 1 ∧ p i = true ∧ r = M i := fun z => let ⟨i, a, b, c⟩ := ih z; ⟨i, Nat.lt_succ_of_lt a, b, c⟩
    by_cases hp : p n = true
    · rw [if_pos hp] at h
      split at h
      · exact old h
      · rcases List.mem_append.mp h with z | z
        · exact old z
        · exact ⟨n, Nat.lt_succ_self n, hp, List.mem_singleton.mp z⟩
    · rw [if_neg hp] at h
      exact old h
theorem firsts_le (p : Nat → Bool) (M : Nat → List Int) : ∀ n, (firsts p M n).length ≤ n
  | 0 => Nat.le_refl _
  | n + 1 => by
    have ih := firsts_le p M n
    unfold firsts
    split
    · split
      · omega
      · rw [List.length_append, List.length_singleton]
        omega
    · omega
def cutR (rs : List (List Int)) (ns : List Int) : List (List Int) := (firsts (fun i => two (meet ns (rs.getD i []))) (fun i => meet ns (rs.getD i [])) rs.length).mergeSort fun p q => decide (p ≤ q)
theorem sort_rows (as : List (Addr × List Int)) : (as.mergeSort rowLe).map (·.2) = (as.map (·.2)).mergeSort fun p q => decide (p ≤ q) := List.map_mergeSort fun _ _ _ _ => rfl
end LcM

/-! Lists of ints and lists of such, as data. -/
namespace LcM
open PySem PySem.Spec PyProof.Rows L2 SortR
theorem eqvAll_ints : ∀ ns ms : List Int, PyData.eqvAll (ns.map .int) (ms.map .int) = decide (ns = ms)
  | [], [] => by
    simp only [List.map_nil, PyData.eqvAll]
    exact (decide_eq_true (rfl : ([] : List Int) = [])).symm
  | x :: ns, y :: ms => by
    rw [List.map_cons, List.map_cons, PyData.eqvAll, eqvAll_ints ns ms, PyData.eqv]
    by_cases e : x = y
    · rw [e, beq_self_eq_true, Bool.true_and]
      by_cases e2 : ns = ms
      · rw [decide_eq_true e2, decide_eq_true (by rw [e2])]
      · rw [decide_eq_false e2, decide_eq_false fun z => e2 (List.cons.inj z).2]
    · rw [beq_eq_false_iff_ne.mpr e, Bool.false_and, decide_eq_false fun z => e (List.cons.inj z).1]
  | [], _ :: _ => by
    rw [List.map_nil, List.map_cons, PyData.eqvAll]
    exact (decide_eq_false fun z => nomatch z).symm
  | _ :: _, [] => by
    rw [List.map_nil, List.map_cons, PyData.eqvAll]
    exact (decide_eq_false fun z => nomatch z).symm
theorem eqv_ints (ns ms : List Int) : PyData.eqv (PyData.list (ns.map .int)) (PyData.list (ms.map .int)) = decide (ns = ms) := by
  rw [PyData.eqv]
  exact eqvAll_ints ns ms
theorem eqvAll_rows : ∀ rs qs : List (List Int), PyData.eqvAll (rs.map fun r => .list (r.map .int)) (qs.map fun r => .list (r.map .int)) = decide (rs = qs)
  | [], [] => by
    simp only [List.map_nil, PyData.eqvAll]
    exact (decide_eq_true (rfl : ([] : List (List Int)) = [])).symm
  | x :: ns, y :: ms => by
    rw [List.map_cons, List.map_cons, PyData.eqvAll, eqvAll_rows ns ms, eqv_ints]
    by_cases e : x = y
    · rw [decide_eq_true e, Bool.true_and]
      by_cases e2 : ns = ms
      · rw [decide_eq_true e2, decide_eq_true (by rw [e, e2])]
      · rw [decide_eq_false e2, decide_eq_false fun z => e2 (List.cons.inj z).2]
    · rw [decide_eq_false e, Bool.false_and, decide_eq_false fun z => e (List.cons.inj z).1]
  | [], _ :: _ => by
    rw [List.map_nil, List.map_cons, PyData.eqvAll]
    exact (decide_eq_false fun z => nomatch z).symm
  | _ :: _, [] => by
    rw [List.map_nil, List.map_cons, PyData.eqvAll]
    exact (decide_eq_false fun z => nomatch z).symm
theorem eqv_rows (rs qs : List (List Int)) : PyData.eqv (PyData.list (rs.map fun r => .list (r.map .int))) (PyData.list (qs.map fun r => .list (r.map .int))) = decide (rs = qs) := by
  rw [PyData.eqv]
  exact eqvAll_rows rs qs
theorem lay_ints : ∀ ns : List Int, PyData.canLayAll0 (ns.map .int) = true
  | [] => by simp only [List.map_nil, PyData.canLayAll0]
  | n :: ns => by simp only [List.map_cons, PyData.canLayAll0, PyData.canLay0, lay_ints ns, Bool.and_self]
theorem lay_rows : ∀ rs : List (List Int), PyData.canLayAll0 (rs.map fun r => .list (r.map .int)) = true
  | [] => by simp only [List.map_nil, PyData.canLayAll0]
  | r :: rs => by simp only [List.map_cons, PyData.canLayAll0, PyData.canLay0, lay_ints r, lay_rows rs, Bool.and_self]
theorem depth_rows : ∀ rs : List (List Int), PyData.depthAll (rs.map fun r => .list (r.map .int)) ≤ 1
  | [] => by simp only [List.map_nil, PyData.depthAll]; omega
  | r :: rs => by
    have := depth_rows rs
    simp only [List.map_cons, PyData.depthAll, PyData.depth, PySem.W.depth_ints]
    omega
theorem shaped_ints (ns : List Int) : SeqAt.shaped (PyData.list (ns.map .int)) = true := by
  unfold SeqAt.shaped
  simp only [PyData.canLay0, lay_ints, PyData.depth, PySem.W.depth_ints]
  decide
theorem shaped_rows (rs : List (List Int)) : SeqAt.shaped (PyData.list (rs.map fun r => .list (r.map .int))) = true := by
  have d := depth_rows rs
  have e : (PyData.list (rs.map fun r => .list (r.map .int))).depth ≤ 64 := by
    simp only [PyData.depth]
    omega
  unfold SeqAt.shaped
  rw [decide_eq_true e, Bool.and_true]
  simp only [PyData.canLay0, lay_rows]
/-- lists of lists as data -/
theorem rows_data {K : PySem.W.Frag} {H : Hp} : ∀ {bs : List (Addr × List Int)}, (∀ b ∈ bs, SqL K H b.1 (b.2.map V.int)) → DpAll K H (bs.map fun b => V.ref b.1) ((bs.map (·.2)).map fun r => .list (r.map .int))
  | [], _ => .nil
  | b :: bs, h => .cons (.lst (h b List.mem_cons_self) (rows_dp b.2)) (rows_data fun c m => h c (List.mem_cons_of_mem _ m))
end LcM

/-! sorted(xs), xs ints, THE sorted list. -/
namespace SortR
open PySem PySem.Spec PyProof.Rows L2 PySem.W
def intLe (p q : Int) : Bool := decide (p ≤ q)
theorem ints_each {h : Heap} : ∀ {ns : List Int} {us : List Value}, Vals (ns.map V.int) us → EachIs (fun v (n : Int) => ∃ t, v = Value.int n t) us ns
  | [], _, .nil => .nil
  | _ :: _, _, .cons h1 h2 => .cons h1 (ints_each (h := h) h2)
theorem each_ints : ∀ {us : List Value} {ns : List Int}, EachIs (fun v (n : Int) => ∃ t, v = Value.int n t) us ns → Vals (ns.map V.int) us
  | _, _, .nil => .nil
  | _, _, .cons h t => .cons h (each_ints t)
section
variable {X : Cx}
theorem call_sortedInts (hu : X.A.units + 64 < cLine) : CallR X (.builtin "sorted") (fun xs H Q => ∃ (a : Addr) (ns : List Int), xs = [V.ref a] ∧ SqL X.K H a (ns.map V.int) ∧ ∀ p, H p = none → Q (.ref p) (upd H p (.lst ((ns.mergeSort intLe).map V.int)))) := by
  intro pins s σ H xs us Q I r h
  obtain ⟨a, ns, rfl, hs, q⟩ := h
  obtain ⟨u, rfl, ru⟩ := vals1 r
  obtain rfl : u = Value.ref a := ru
  obtain ⟨its, rv, hl, hz⟩ := I.list hs
  have each := ints_each (h := s.heap) rv
  have len : its.length = ns.length := by rw [← rv.length, List.length_map]
  have reads : EachIs (fun v (n : Int) => ∃ as, Reads s.heap v (PyData.int n) as) its ns := each_mono each fun v n ⟨t, e⟩ => by
    rw [e]
    exact ⟨_, Reads.int n t⟩
  have le : dataLe false (fun n : Int => PyData.int n) = intLe := dataLe_int fun n : Int => n
  refine sorted_data (enc := fun n : Int => PyData.int n) hl.isList each reads (AllAlike.of fun p q => by simp only [alike]) (Sortable.others fun b => ⟨(fun z => nomatch z), fun xs z => nomatch z⟩) (by rw [List.length_map] at hz; exact hz) (fun b _ => by
    have d : (PyData.int b).depth = 0 := by simp only [PyData.depth]
    rw [d]
    omega) fun out ho each3 => ?_
  rw [le] at each3
  have back := each_ints each3
  obtain ⟨n, hn⟩ := sortedAll_at s.heap its out.toArray
  refine ⟨.ref (s.heap.objs.size + 1), upd H (s.heap.objs.size + 1) (.lst ((ns.mergeSort intLe).map V.int)), I.laid (t' := s.toks) (fun b o e => sortedAll_old e) (Nat.le_succ _) ⟨?_, out, n, back, hn⟩, rfl, q _ (I.hok.fresh (Nat.le_succ _))⟩
  rw [List.length_map, List.length_mergeSort]
  rw [List.length_map] at hz
  exact hz
end
end SortR

/-! Comprehensions over a tuple or a list, each turn's value by a relation that lasts. -/
namespace LcM
open PySem PySem.Spec PyProof.Rows L2
/-- so far -/
structure Mx (H0 : Hp) (D : Addr) (Rel : Nat → V → Hp → Prop) (i : Nat) (H : Hp) (ys : List V) : Prop where
  grow : Grows H0 H
  top : H D = some (.lst ys)
  len : ys.length = i
  rel : ∀ j y, ys[j]? = some y → Rel j y H
theorem Mx.more {H0 H H4 : Hp} {D : Addr} {Rel : Nat → V → Hp → Prop} {i : Nat} {ys : List V} {y : V} (last : ∀ j y H H', Grows H H' → Rel j y H → Rel j y H') (free : ∀ j y H zs, Rel j y H → H D = some (.lst zs) → ∀ u, Rel j y (upd H D u)) (hD : H0 D = none) (m : Mx H0 D Rel i H ys) (s : Grows H H4) (r : Rel i y H4) (small : i < 1000000) :
    ∃ acc, H4 D = some (.lst acc) ∧ acc.length < sizeLine ∧ ∃ ys', Mx H0 D Rel (i + 1) (upd H4 D (.lst (acc ++ [y]))) ys' := by
  have at_D := s _ _ m.top
  refine ⟨ys, at_D, ?_, ys ++ [y], fun b o e => ?_, upd_same, ?_, fun j z e => ?_⟩
  · rw [m.len]
    exact Nat.lt_trans small (by decide)
  · rw [upd_ne (ne_of_none e hD)]
    exact s _ _ (m.grow _ _ e)
  · rw [List.length_append, m.len]
    rfl
  · rcases Nat.lt_or_ge j ys.length with l | g
    · rw [List.getElem?_append_left l] at e
      exact free j z H4 _ (last j z H H4 s (m.rel j z e)) at_D _
    · rw [List.getElem?_append_right g] at e
      have zero : j - ys.length = 0 := by
        rcases Nat.eq_zero_or_pos (j - ys.length) with q | q
        · exact q
        · rw [List.getElem?_eq_none (by show 1 ≤ j - ys.length; omega)] at e
          cases e
      rw [zero] at e
      obtain rfl : y = z := Option.some.inj e
      obtain rfl : j = i := by rw [← m.len]; omega
      exact free j y H4 _ r at_D _
section
variable {K : PySem.W.Frag} {a : Addr} {xs : List V} {g : TG} {te : TE} {vs : List Nat} {σ : L2.St} {H0 : Hp} {D : Addr} {Qd : Hp → Prop}
theorem lc_tupX (Rel : Nat → V → Hp → Prop) (last : ∀ j y H H', Grows H H' → Rel j y H → Rel j y H') (free : ∀ j y H zs, Rel j y H → H D = some (.lst zs) → ∀ u, Rel j y (upd H D u)) (hD : H0 D = none) (hx : SqT K H0 a xs) (small : xs.length ≤ 1000000)
    (turn : ∀ (i : Nat) (x : V) (H : Hp) (Rk : V → Hp → Prop), xs[i]? = some x → Grows H0 H → H D ≠ none → (∀ y H4, Grows H H4 → Rel i y H4 → Rk y H4) → g x (wipe σ vs) H fun σ2 H2 => wipe σ2 vs = wipe σ vs ∧ te σ2 H2 Rk)
    (done : ∀ H ys, Mx H0 D Rel xs.length H ys → Qd H) :
    ∃ W : Nat → Nat → Hp → Prop, (∃ m, W 0 m (upd H0 D (.lst []))) ∧ ∀ i m H, W i m H →
      ((Itt K a).stop i H ∧ Qd H) ∨ ((Itt K a).go i H ∧ ∃ Nx : Hp → Prop, (∀ H', Nx H' → ∃ m', m' < m ∧ W (i + 1) m' H') ∧ ∀ x H', (Itt K a).yld i H x H' → g x (wipe σ vs) H' fun σ2 H2 => wipe σ2 vs = wipe σ vs ∧ tYes σ2 H2 fun b H3 =>
        if b = true then te σ2 H3 fun y H4 => ∃ acc, H4 D = some (.lst acc) ∧ acc.length < sizeLine ∧ Nx (upd H4 D (.lst (acc ++ [y]))) else Nx H3) := by
  refine lc_tup (fun i H => ∃ ys, Mx H0 D Rel i H ys) ⟨[], Grows.new hD, upd_same, rfl, fun j y e => by rw [List.getElem?_nil] at e; cases e⟩ (fun i H _ ⟨_, m⟩ => m.grow.tup hx) (fun i x H ex ⟨ys, m⟩ => ?_) fun H ⟨ys, m⟩ => done H ys m
  rw [yes_eq (A := fun σ2 => wipe σ2 vs = wipe σ vs)]
  exact turn i x H _ ex m.grow (by rw [m.top]; exact fun z => nomatch z) fun y H4 s r => m.more last free hD s r (Nat.lt_of_lt_of_le (List.getElem?_eq_some_iff.mp ex).1 small)
theorem lc_listX (Rel : Nat → V → Hp → Prop) (last : ∀ j y H H', Grows H H' → Rel j y H → Rel j y H') (free : ∀ j y H zs, Rel j y H → H D = some (.lst zs) → ∀ u, Rel j y (upd H D u)) (hD : H0 D = none) (hx : SqL K H0 a xs) (small : xs.length ≤ 1000000)
    (turn : ∀ (i : Nat) (x : V) (H : Hp) (Rk : V → Hp → Prop), xs[i]? = some x → Grows H0 H → H D ≠ none → (∀ y H4, Grows H H4 → Rel i y H4 → Rk y H4) → g x (wipe σ vs) H fun σ2 H2 => wipe σ2 vs = wipe σ vs ∧ te σ2 H2 Rk)
    (done : ∀ H ys, Mx H0 D Rel xs.length H ys → Qd H) :
    ∃ W : Nat → Nat → Hp → Prop, (∃ m, W 0 m (upd H0 D (.lst []))) ∧ ∀ i m H, W i m H →
      ((Itl K a).stop i H ∧ Qd H) ∨ ((Itl K a).go i H ∧ ∃ Nx : Hp → Prop, (∀ H', Nx H' → ∃ m', m' < m ∧ W (i + 1) m' H') ∧ ∀ x H', (Itl K a).yld i H x H' → g x (wipe σ vs) H' fun σ2 H2 => wipe σ2 vs = wipe σ vs ∧ tYes σ2 H2 fun b H3 =>
        if b = true then te σ2 H3 fun y H4 => ∃ acc, H4 D = some (.lst acc) ∧ acc.length < sizeLine ∧ Nx (upd H4 D (.lst (acc ++ [y]))) else Nx H3) := by
  refine lc_list (fun i H => ∃ ys, Mx H0 D Rel i H ys) ⟨[], Grows.new hD, upd_same, rfl, fun j y e => by rw [List.getElem?_nil] at e; cases e⟩ (fun i H _ ⟨_, m⟩ => m.grow.seq hx) (fun i x H ex ⟨ys, m⟩ => ?_) fun H ⟨ys, m⟩ => done H ys m
  rw [yes_eq (A := fun σ2 => wipe σ2 vs = wipe σ vs)]
  exact turn i x H _ ex m.grow (by rw [m.top]; exact fun z => nomatch z) fun y H4 s r => m.more last free hD s r (Nat.lt_of_lt_of_le (List.getElem?_eq_some_iff.mp ex).1 small)
/-- a loop over enumerate of a list that stands still -/
theorem for_enumL {tb : TS} {Dn : Ends} (Pv : Nat → L2.St → Hp → Prop) (h0 : Pv 0 σ H0) (hl : ∀ i σ H, Pv i σ H → SqL K H a xs)
    (hs : ∀ (i : Nat) (x : V) (T : Addr) (σ : L2.St) (H : Hp), xs[i]? = some x → Pv i σ H → H T = none → g (.ref T) σ (upd H T (.tup [.int (i : Nat), x])) fun σ2 H2 => tb { Dn with nx := Pv (i + 1), ct := Pv (i + 1), bk := Dn.nx } σ2 H2) (hd : ∀ σ H, Pv xs.length σ H → Dn.nx σ H) :
    ∃ W : Nat → Nat → L2.St → Hp → Prop, (∃ m, W 0 m σ H0) ∧ ∀ i m σ H, W i m σ H →
      ((Ite K a).stop i H ∧ Dn.nx σ H) ∨ ((Ite K a).go i H ∧ ∃ N : L2.St → Hp → Prop, (∀ σ' H', N σ' H' → ∃ m', m' < m ∧ W (i + 1) m' σ' H') ∧ ∀ v H', (Ite K a).yld i H v H' → g v σ H' fun σ2 H2 => tb { Dn with nx := N, ct := N, bk := Dn.nx } σ2 H2) := by
  refine ⟨fun i m σ H => m = xs.length - i ∧ i ≤ xs.length ∧ Pv i σ H, ⟨_, rfl, Nat.zero_le _, h0⟩, ?_⟩
  rintro i m σ H ⟨rfl, hi, pv⟩
  have qx := hl i σ H pv
  rcases Nat.lt_or_ge i xs.length with lt | ge
  · have ex : xs[i]? = some xs[i] := List.getElem?_eq_getElem lt
    refine .inr ⟨⟨xs, _, qx, ex⟩, Pv (i + 1), fun σ' H' p' => ⟨xs.length - (i + 1), by omega, rfl, lt, p'⟩, fun v H' y => ?_⟩
    obtain ⟨T, x', rfl, hT, rfl, f1⟩ := y
    exact hs i x' T σ H (f1 xs qx) pv hT
  · have e : i = xs.length := by omega
    subst e
    exact .inl ⟨⟨xs, qx, Nat.le_refl _⟩, hd σ H pv⟩
end
end LcM

/-! f(k = v, ..): a def called by keywords alone. -/
namespace LcM
open PySem PySem.Spec PyProof.Rows L2
section
variable {X : Cx} {CX : CXT} {k : Nat} {f : Addr} {fd : FuncData} {ps ks : List Str} {sp : Sp} {E : XK} {x : Str} {p pos : Pos} {kws : List Keyword} {tk : TA} {g : List Value → List Value → List Value} {gV : List V → List V → List V}
theorem pe_callKw (F : FnOk X.prog X.w X.K X.mg X.base CX k f fd ps sp) (room : Room k X.A) (hg : Gl X x) (hm : X.mg x = some (.ref f)) (kp : PySem.W.keepIn X.K (.ref f) = true) (bd : KBinds X.K fd ps ks g gV) (ps' : Passes CX X E) (args : PK X kws tk)
    (all : (backToKw pos (keywordEach kws X.env)).all (·.1.isSome) = true := by rfl) (names : (backToKw pos (keywordEach kws X.env)).filterMap (·.1) = ks := by rfl) (hdb : (x == ("__debug__" : Str)) = false := by decide)
    (plain : ((backTo pos (starEach [] X.env)).any (·.1) || (backToKw pos (keywordEach kws X.env)).any (·.1.isNone)) = false := by rfl) :
    PE X (.Call (.Name x p) [] kws pos) (tCallK sp gV E tNil tk) := by
  refine ⟨fun pins s σ H Q I rd => ?_⟩
  refine wpAny_Call_Name_kw (ld_glob I hg hm ?_ hdb)
  refine PySem.W.callWith_KW0 (h₀ := X.base) I.ok.mod.kin kp all (thn (args.run pos pins s σ H _ I rd) fun ws s2 ⟨zs, H2, I2, rz, q2⟩ => ⟨I2.kIn, ?_⟩) plain
  rw [names]
  exact run_fnk (us := []) (vs := []) F room bd ps' I2 .nil rz q2
end
end LcM

/-! Masks of ascending lists, bit by bit. -/
namespace LcM
open PySem
def mk (ns : List Nat) : Nat := (ns.map (2 ^ ·)).sum
theorem mk_cons (x : Nat) (xs : List Nat) : mk (x :: xs) = 2 ^ x + mk xs := by
  unfold mk
  rw [List.map_cons, List.sum_cons]
theorem mk_dvd (y : Nat) : ∀ xs : List Nat, (∀ z ∈ xs, y ≤ z) → 2 ^ y ∣ mk xs
  | [], _ => ⟨0, rfl⟩
  | x :: xs, h => by
    rw [mk_cons]
    exact Nat.dvd_add (Nat.pow_dvd_pow 2 (h x List.mem_cons_self)) (mk_dvd y xs fun z hz => h z (List.mem_cons_of_mem _ hz))
theorem mk_bit : ∀ (xs : List Nat) (i : Nat), xs.Pairwise (· < ·) → (mk xs).testBit i = decide (i ∈ xs)
  | [], i, _ => by
    show Nat.testBit 0 i = _
    rw [Nat.zero_testBit]
    rfl
  | x :: xs, i, h => by
    obtain ⟨h1, h2⟩ := List.pairwise_cons.mp h
    have ih := mk_bit xs i h2
    obtain ⟨k, hk⟩ := mk_dvd (x + 1) xs fun z hz => h1 z hz
    rw [mk_cons, Nat.add_comm, hk, Nat.testBit_two_pow_mul_add k (Nat.pow_lt_pow_right (by decide) (Nat.lt_succ_self x))]
    rw [hk] at ih
    by_cases l : i < x + 1
    · rw [if_pos l, Nat.testBit_two_pow]
      have no : i ∉ xs := fun z => by
        have := h1 i z
        omega
      by_cases e : x = i
      · rw [decide_eq_true e, e, decide_eq_true List.mem_cons_self]
      · rw [decide_eq_false e, decide_eq_false fun z => (List.mem_cons.mp z).elim (fun q => e q.symm) no]
    · rw [if_neg l]
      have z := Nat.testBit_two_pow_mul_add k (b := 0) (i := x + 1) (Nat.two_pow_pos _) i
      rw [if_neg l, Nat.add_zero] at z
      rw [← z, ih]
      have ne : i ≠ x := by omega
      by_cases m : i ∈ xs
      · rw [decide_eq_true m, decide_eq_true (List.mem_cons_of_mem _ m)]
      · rw [decide_eq_false m, decide_eq_false fun q => (List.mem_cons.mp q).elim ne m]
/-- masks of lists that do not cross -/
theorem mk_and {xs ys : List Nat} (hx : xs.Pairwise (· < ·)) (hy : ys.Pairwise (· < ·)) (h : (∀ z ∈ xs, z ∉ ys) ∨ (∀ z ∈ xs, z ∈ ys) ∨ ∀ z ∈ ys, z ∈ xs) : mk xs &&& mk ys = 0 ∨ mk xs &&& mk ys = mk xs ∨ mk xs &&& mk ys = mk ys := by
  have bit : ∀ i, (mk xs &&& mk ys).testBit i = (decide (i ∈ xs) && decide (i ∈ ys)) := fun i => by rw [Nat.testBit_and, mk_bit xs i hx, mk_bit ys i hy]
  rcases h with h | h | h
  · refine .inl (Nat.eq_of_testBit_eq fun i => ?_)
    rw [bit, Nat.zero_testBit]
    by_cases m : i ∈ xs
    · rw [decide_eq_false (h i m), Bool.and_false]
    · rw [decide_eq_false m, Bool.false_and]
  · refine .inr (.inl (Nat.eq_of_testBit_eq fun i => ?_))
    rw [bit, mk_bit xs i hx]
    by_cases m : i ∈ xs
    · rw [decide_eq_true m, decide_eq_true (h i m)]
      rfl
    · rw [decide_eq_false m, Bool.false_and]
  · refine .inr (.inr (Nat.eq_of_testBit_eq fun i => ?_))
    rw [bit, mk_bit ys i hy]
    by_cases m : i ∈ ys
    · rw [decide_eq_true m, decide_eq_true (h i m)]
      rfl
    · rw [decide_eq_false m, Bool.and_false]
end LcM

/-! Data whose text is short. -/
namespace LcM
open PySem PySem.Spec PyProof.Rows L2
structure Brief (n : Nat) (d : PyData) : Prop where
  sh : d.showable = true
  dp : d.depth ≤ 10
  lv : PyData.leavesShort 13 d = true
  wt : d.weight ≤ n
def Smalls (ns : List Int) : Prop := ∀ x ∈ ns, x.natAbs < 10 ^ 12
theorem small_bits {n : Int} (h : n.natAbs < 10 ^ 12) : n.natAbs.log2 < 40 := by
  by_cases z : n.natAbs = 0
  · rw [z]
    decide
  · exact (Nat.log2_lt z).mpr (Nat.lt_trans h (by decide))
theorem show_ints : ∀ ns : List Int, Smalls ns → PyData.showableAll (ns.map .int) = true
  | [], _ => by simp only [List.map_nil, PyData.showableAll]
  | n :: ns, h => by
    have b := small_bits (h n List.mem_cons_self)
    simp only [List.map_cons, PyData.showableAll, PyData.showable, show_ints ns fun x m => h x (List.mem_cons_of_mem _ m), Bool.and_true]
    exact decide_eq_true (by omega)
theorem weight_ints : ∀ ns : List Int, Smalls ns → PyData.weightAll (ns.map .int) ≤ ns.length * 42
  | [], _ => by simp only [List.map_nil, PyData.weightAll]; exact Nat.zero_le _
  | n :: ns, h => by
    have b := small_bits (h n List.mem_cons_self)
    have ih := weight_ints ns fun x m => h x (List.mem_cons_of_mem _ m)
    simp only [List.map_cons, PyData.weightAll, PyData.weight, List.length_cons]
    split <;> omega
theorem brief_ints {ns : List Int} (h : Smalls ns) : Brief (ns.length * 42) (PyData.list (ns.map .int)) := by
  refine ⟨?_, ?_, ?_, ?_⟩
  · simp only [PyData.showable, show_ints ns h]
  · simp only [PyData.depth, PySem.W.depth_ints]
    decide
  · refine PyData.leavesShort_of_canLay0 13 _ ?_ ?_
    · simp only [PyData.canLay0, lay_ints]
    · simp only [PyData.intsShort]
      exact PyData.intsShortAll_ints ns h
  · simp only [PyData.weight]
    exact weight_ints ns h
def rowD (rs : List (List Int)) : List PyData := rs.map fun r => .list (r.map .int)
theorem show_rows : ∀ rs : List (List Int), (∀ r ∈ rs, Smalls r) → PyData.showableAll (rowD rs) = true
  | [], _ => by simp only [rowD, List.map_nil, PyData.showableAll]
  | r :: rs, h => by
    have ih := show_rows rs fun q m => h q (List.mem_cons_of_mem _ m)
    unfold rowD at ih ⊢
    simp only [List.map_cons, PyData.showableAll, PyData.showable, show_ints r (h r List.mem_cons_self), ih, Bool.and_self]
theorem short_rows : ∀ rs : List (List Int), (∀ r ∈ rs, Smalls r) → PyData.intsShortAll 13 (rowD rs) = true
  | [], _ => by simp only [rowD, List.map_nil, PyData.intsShortAll]
  | r :: rs, h => by
    have ih := short_rows rs fun q m => h q (List.mem_cons_of_mem _ m)
    unfold rowD at ih ⊢
    simp only [List.map_cons, PyData.intsShortAll, PyData.intsShort, ih, PyData.intsShortAll_ints r (h r List.mem_cons_self), Bool.and_self]
theorem weight_rows {m : Nat} : ∀ rs : List (List Int), (∀ r ∈ rs, Smalls r ∧ r.length ≤ m) → PyData.weightAll (rowD rs) ≤ rs.length * (m * 42 + 1)
  | [], _ => by simp only [rowD, List.map_nil, PyData.weightAll]; exact Nat.zero_le _
  | r :: rs, h => by
    have ih := weight_rows rs fun q m => h q (List.mem_cons_of_mem _ m)
    have l := (h r List.mem_cons_self).2
    have w := weight_ints r (h r List.mem_cons_self).1
    unfold rowD at ih ⊢
    simp only [List.map_cons, PyData.weightAll, PyData.weight, List.length_cons]
    rw [Nat.add_mul]
    omega
theorem brief_rows {rs : List (List Int)} {m : Nat} (h : ∀ r ∈ rs, Smalls r ∧ r.length ≤ m) : Brief (rs.length * (m * 42 + 1)) (PyData.list (rowD rs)) := by
  refine ⟨?_, ?_, ?_, ?_⟩
  · simp only [PyData.showable, show_rows rs fun r m => (h r m).1]
  · have := depth_rows rs
    unfold rowD
    simp only [PyData.depth]
    omega
  · refine PyData.leavesShort_of_canLay0 13 _ ?_ ?_
    · have := lay_rows rs
      unfold rowD
      simp only [PyData.canLay0, this]
    · simp only [PyData.intsShort]
      exact short_rows rs fun r m => (h r m).1
  · simp only [PyData.weight]
    exact weight_rows rs h
theorem brief_two {a b : PyData} {m n : Nat} (x : Brief m a) (y : Brief n b) (l : m + n ≤ 100000) :
    PyData.showableAll [a, b] = true ∧ PyData.depthAll [a, b] ≤ 40 ∧ (listText (PyData.shownAll [a, b])).length ≤ sizeLine := by
  refine ⟨?_, ?_, ?_⟩
  · simp only [PyData.showableAll, x.sh, y.sh, Bool.and_self]
  · have := x.dp
    have := y.dp
    simp only [PyData.depthAll]
    omega
  · have e : (PyData.list [a, b]).shown = listText (PyData.shownAll [a, b]) := by simp only [PyData.shown]
    rw [← e]
    refine PyData.shown_fits (B := 13) (by decide) (by decide) ?_ ?_
    · simp only [PyData.leavesShort, PyData.leavesShortAll, x.lv, y.lv, Bool.and_self]
    · have := x.wt
      have := y.wt
      simp only [PyData.weight, PyData.weightAll]
      omega
end LcM

namespace K03
open PySem PySem.Spec PyProof.Rows L2 LcM
def top (i : Nat) : Stmt := PySem.Challenge.pw_twopartings_k03_partings_cut.main.body.getD i (.Pass ⟨0, 0, 0, 0⟩)
abbrev sPouch : Stmt := top 21
abbrev sDip : Stmt := top (21 + 1)
abbrev sItems : Stmt := top (21 + 2)

/-! ### power of a great base -/
def CPowW (i j : Int) : Prop := 0 ≤ j ∧ (Builtin.Int.intBits i : Int) * j ≤ 2 ^ 27
section
variable {X : Cx}
theorem op_powW : OpR X (binaryOp .Pow) (rI CPowW fun i j => .int (i ^ j.toNat)) := opI fun _ _ _ _ _ _ _ hc q => pow_int hc.1 hc.2 q
end
theorem bits_of {i : Int} {n : Nat} (h : i.natAbs < 2 ^ n) (h0 : 0 < n) : Builtin.Int.intBits i ≤ n := by
  unfold Builtin.Int.intBits
  split
  · omega
  · have := PySem.Flt.log2_lt_of h0 h
    omega
theorem pow3' {i : Int} {n : Nat} (h : i.natAbs < 2 ^ 64) (hn : n ≤ 1000) : CPowW i n := ⟨by omega, by
  have := bits_of h (by decide)
  have z : (Builtin.Int.intBits i : Int) * (n : Int) ≤ 64 * 1000 := Int.mul_le_mul (by omega) (by omega) (by omega) (by decide)
  omega⟩
theorem pow3 {i : Int} (h : i.natAbs < 2 ^ 300) : CPowW i 3 := ⟨by decide, by have := bits_of h (by decide); omega⟩

/-! ### the heap grows: all of it stays but at one place -/
def Gr (p : Addr) (H H' : Hp) : Prop := ∀ b o, b ≠ p → H b = some o → H' b = some o
theorem Gr.refl {p : Addr} {H : Hp} : Gr p H H := fun _ _ _ e => e
theorem Gr.trans {p : Addr} {H H1 H2 : Hp} (x : Gr p H H1) (y : Gr p H1 H2) : Gr p H H2 := fun b o n e => y b o n (x b o n e)
theorem Gr.new {p a : Addr} {H : Hp} {o : HO} (h : H a = none) : Gr p H (upd H a o) := fun b u n e => by
  rw [upd_ne (ne_of_none e h)]
  exact e
theorem Gr.at {p : Addr} {H : Hp} {o : HO} : Gr p H (upd H p o) := fun b u n e => by
  rw [upd_ne n]
  exact e
theorem _root_.LcM.Grows.gr {p : Addr} {H H' : Hp} (x : Grows H H') : Gr p H H' := fun b o _ e => x b o e
/-! ### the pouch -/
def Pch (H : Hp) (p : Addr) (m : Int) : Prop := ∃ d b n : Int, H p = some (.lst [.int d, .int b, .int n]) ∧ 0 ≤ b ∧ b < 2 ^ 200 ∧ 0 ≤ n ∧ n ≤ m
theorem Pch.le {H : Hp} {p : Addr} {m k : Int} (h : Pch H p m) (l : m ≤ k) : Pch H p k := by
  obtain ⟨d, b, n, e, h1, h2, h3, h4⟩ := h
  exact ⟨d, b, n, e, h1, h2, h3, by omega⟩
theorem Pch.same {H H' : Hp} {p : Addr} {m : Int} (h : Pch H p m) (s : Grows H H') : Pch H' p m := by
  obtain ⟨d, b, n, e, r⟩ := h
  exact ⟨d, b, n, s _ _ e, r⟩
structure Txt0 (mg : Str → Option Value) : Prop where
  int : mg "int" = none
  range : mg "range" = none
  len : mg "len" = none
  abs : mg "abs" = none
  max : mg "max" = none
  min : mg "min" = none
def spPouch (K : PySem.W.Frag) : Sp := fun vs H Q _ => ∃ (a : Addr) (i : Int) (ns : List Int), vs = [.ref a, .int i] ∧ SqL K H a (ns.map V.int) ∧ 0 ≤ i ∧ i < 1000 ∧ ∀ (p : Addr) (H' : Hp), H p = none → Grows H H' → Pch H' p 0 → Q (.ref p) H'
def spDip : Sp := fun vs H Q _ => ∃ (p : Addr) (w m : Int), vs = [.ref p, .int w] ∧ Pch H p m ∧ m < 2 ^ 60 ∧ 0 < w ∧ w.natAbs < 2 ^ 200 ∧ ∀ (v : Int) (H' : Hp), 0 ≤ v → v < w → Pch H' p (m + 1) → (∀ b, b ≠ p → H' b = H b) → Q (.int v) H'

section
variable {P : Program} {w : World} {K : PySem.W.Frag} {mg : Str → Option Value} {base : Heap}
theorem scPouch : FnScope ["script", "at", "cell"] ["script", "at"] (defScope sPouch) := ⟨rfl, rfl, rfl, by decide +kernel, rfl, by decide +kernel, by decide +kernel⟩
theorem ok_pouch {f : Addr} {fd : FuncData} (F : Fun K "_law_pouch" "_law_pouch" sPouch f fd) (T : Txt0 mg) : FnOk P w K mg base CX0 1 f fd ["script", "at"] (spPouch K) := by
  refine F.ok scPouch (fun vs H Q E h => ?_) (fun cdv A outer s H vs Q E hr h => ?_)
  · obtain ⟨a, i, ns, rfl, _⟩ := h
    rfl
  · obtain ⟨a, i, ns, rfl, hS, h0, h1, k⟩ := h
    refine ⟨_, (pss_cons (ps_set (i := 2) scPouch.nd rfl (.inl rfl) (pe_ifExp (pt_cmpR op_lt (pv 1) (pe_callB call_len_seq (by rfl) T.len (by decide +kernel) (pa_cons (pv 0) pa_nil)) (nomark _)) (pe_ix (r := rIxL K) ix_list (pv 0) (pv 1) (fun _ _ => rfl)) pe_int))
      (pss_one (ps_ret (pe_lst (pa_cons (pe_callB (call_max2 rfl) (by rfl) T.max (by decide +kernel) (pa_cons pe_int (pa_cons (pe_op op_sub (pe_callB call_abs (by rfl) T.abs (by decide +kernel) (pa_cons (pv 2) pa_nil)) (pe_op op_powW pe_int pe_int)) pa_nil))) (pa_cons (pe_op op_add (pe_op op_add (pe_op op_mul (pe_op op_mod (pe_callTy call_int1 (by rfl) T.int (by decide +kernel) (pa_cons (pv 2) pa_nil)) (pe_op op_add (pe_op op_powW pe_int pe_int) pe_int)) pe_int) (pe_op op_mul pe_int (pv 1))) pe_int) (pa_cons pe_int pa_nil))))))), ?_⟩
    have hP : CPowW 10 18 := pow3' (by decide) (by decide)
    have hP2 : CPowW 10 38 := pow3' (by decide) (by decide)
    have pos : (0 : Int) < (10 : Int) ^ (38 : Int).toNat + 133 := by decide
    have fin : ∀ c : Int, gName 2 (V.int c) (L2.start ["script", "at", "cell"] [V.ref a, V.int i]) H
        ({ nx := tRet (tLst (tCons (tCB (fun xs H Q => ∃ i j, xs = [V.int i, V.int j] ∧ Q (V.int (if j > i then j else i)) H) (tCons (tC (V.int 0)) (tCons (tOp (rI0 fun i j => V.int (i - j)) (tCB (fun xs H Q => ∃ i, xs = [V.int i] ∧ Q (V.int (if i < 0 then -i else i)) H) (tCons (tVar 2) tNil)) (tOp (rI CPowW fun i j => V.int (i ^ j.toNat)) (tC (V.int 10)) (tC (V.int 18)))) tNil)))
              (tCons (tOp (rI0 fun i j => V.int (i + j)) (tOp (rI0 fun i j => V.int (i + j)) (tOp (rI CMul fun i j => V.int (i * j)) (tOp (rI (fun x j => 0 < j) fun i j => V.int (i % j)) (tCB (fun xs H Q => (∃ i, xs = [V.int i] ∧ Q (V.int i) H) ∨ ∃ k, xs = [V.bl k] ∧ Q (V.int (if k = true then 1 else 0)) H) (tCons (tVar 2) tNil))
                (tOp (rI0 fun i j => V.int (i + j)) (tOp (rI CPowW fun i j => V.int (i ^ j.toNat)) (tC (V.int 10)) (tC (V.int 38))) (tC (V.int 133)))) (tC (V.int 107))) (tOp (rI CMul fun i j => V.int (i * j)) (tC (V.int 71)) (tVar 1))) (tC (V.int 29))) (tCons (tC (V.int 0)) tNil))))
            ({ nx := fun _ H' => Q V.non H', rt := Q } : Ends), rt := Q } : Ends).nx := fun c => by
      refine ⟨_, rfl, _, rfl, _, _, rfl, rfl, hP, _, _, rfl, rfl, _, _, rfl, _, rfl, .inl ⟨_, rfl, _, _, rfl, rfl, hP2, _, _, rfl, rfl, _, _, rfl, rfl, pos, _, _, rfl, rfl, .inr ⟨by decide, by decide⟩, _, rfl, _, _, rfl, rfl, .inl ⟨by decide, by decide⟩, _, _, rfl, rfl, _, _, rfl, rfl, ?_⟩⟩
      have l0 := Int.emod_nonneg c (Int.ne_of_gt pos)
      have l1 := Int.emod_lt_of_pos c pos
      have e0 : (10 : Int) ^ (38 : Int).toNat + 133 = 100000000000000000000000000000000000133 := by decide
      rw [e0] at l0 l1 ⊢
      refine ⟨(by show 3 ≤ sizeLine; decide), fun l hl => k l _ hl (Grows.new hl) ⟨_, _, _, upd_same, ?_, ?_, by decide, by decide⟩⟩
      · omega
      · omega
    refine ⟨_, rfl, _, rfl, a, _, rfl, .inl hS, _, _, rfl, rfl, _, rfl, ?_⟩
    refine ite2 (fun e => ?_) (fun e => ?_)
    · have lt : i.toNat < ns.length := by
        have q := of_decide_eq_true e
        rw [List.length_map] at q
        omega
      have g : (ns.map V.int)[i.toNat]? = some (.int ns[i.toNat]) := by
        rw [List.getElem?_map, List.getElem?_eq_getElem lt]
        rfl
      have g2 : atI (ns.map V.int) i = some (.int ns[i.toNat]) := by
        have q := atI_nat g
        rw [Int.toNat_of_nonneg h0] at q
        exact q
      refine ⟨_, rfl, _, rfl, a, _, _, _, rfl, rfl, hS, g2, ?_⟩
      exact fin _
    · exact fin _
end
end K03

namespace K03
open PySem PySem.Spec PyProof.Rows L2 LcM
section
variable {P : Program} {w : World} {K : PySem.W.Frag} {mg : Str → Option Value} {base : Heap}
theorem scDip : FnScope ["pouch", "wide", "taken", "mixed"] ["pouch", "wide"] (defScope sDip) := ⟨rfl, rfl, rfl, by decide +kernel, rfl, by decide +kernel, by decide +kernel⟩
theorem ok_dip {f : Addr} {fd : FuncData} (F : Fun K "_law_dip" "_law_dip" sDip f fd) (T : Txt0 mg) : FnOk P w K mg base CX0 1 f fd ["pouch", "wide"] spDip := by
  refine F.ok scDip (fun vs H Q E h => ?_) (fun cdv A outer s H vs Q E hr h => ?_)
  · obtain ⟨p, wd, m, rfl, _⟩ := h
    rfl
  · obtain ⟨p, wd, m, rfl, ⟨d, b, n, e, b0, b1, n0, n1⟩, hm, hw, hw2, k⟩ := h
    refine ⟨_, (pss_cons (ps_if (pt_cmpR op_gt (pe_ix (r := rIxL K) ix_list (pv 0) pe_int (fun _ _ => rfl)) pe_int (nomark _)) (pss_cons (ps_set (i := 2) scDip.nd rfl (.inl rfl) (pe_op op_mod (pe_callTy call_int1 (by rfl) T.int (by decide +kernel) (pa_cons (pe_ix (r := rIxL K) ix_list (pv 0) pe_int (fun _ _ => rfl)) pa_nil)) (pv 1)))
      (pss_cons (ps_asg (pe_op op_fdivW (pe_ix (r := rIxL K) ix_list (pv 0) pe_int (fun _ _ => rfl)) (pv 1)) (pg_sub (pv 0) pe_int set_list))
      (pss_one (ps_ret (pv 2))))) pss_nil)
      (pss_cons (ps_asg (pe_op op_add (pe_ix (r := rIxL K) ix_list (pv 0) pe_int (fun _ _ => rfl)) pe_int) (pg_sub (pv 0) pe_int set_list))
      (pss_cons (ps_set (i := 3) scDip.nd rfl (.inl rfl) (pe_op op_mod (pe_op op_powW (pe_callTy call_int1 (by rfl) T.int (by decide +kernel) (pa_cons (pe_op op_add (pe_ix (r := rIxL K) ix_list (pv 0) pe_int (fun _ _ => rfl)) (pe_op op_mul pe_int (pe_ix (r := rIxL K) ix_list (pv 0) pe_int (fun _ _ => rfl)))) pa_nil)) pe_int) (pe_op op_add (pe_op op_powW pe_int pe_int) pe_int)))
      (pss_cons (ps_set (i := 3) scDip.nd rfl (.inl rfl) (pe_op op_mod (pe_op op_powW (pe_callTy call_int1 (by rfl) T.int (by decide +kernel) (pa_cons (pe_op op_add (pv 3) (pe_op op_mul pe_int (pe_ix (r := rIxL K) ix_list (pv 0) pe_int (fun _ _ => rfl)))) pa_nil)) pe_int) (pe_op op_add (pe_op op_powW pe_int pe_int) pe_int)))
      (pss_one (ps_ret (pe_op op_mod (pe_callTy call_int1 (by rfl) T.int (by decide +kernel) (pa_cons (pe_op op_fdivW (pv 3) pe_int) pa_nil)) (pv 1)))))))), ?_⟩
    refine ⟨_, rfl, p, _, _, _, rfl, rfl, SqL.of e, rfl, _, _, rfl, rfl, _, rfl, ?_⟩
    refine ite2 (fun _ => ?_) (fun _ => ?_)
    · refine ⟨_, rfl, p, _, _, _, rfl, rfl, SqL.of e, rfl, .inl ⟨_, rfl, _, rfl, _, _, rfl, rfl, hw, _, rfl, p, _, _, _, rfl, rfl, SqL.of e, rfl, _, rfl, _, _, rfl, rfl, wide_div hw hw2 (by decide) (by decide), _, rfl, p, _, _, 0, rfl, rfl, e, rfl, _, rfl, ?_⟩⟩
      exact k _ _ (Int.emod_nonneg _ (by omega)) (Int.emod_lt_of_pos _ hw) ⟨_, _, _, upd_same, b0, b1, n0, by omega⟩ fun _ h => upd_ne h
    · refine ⟨_, rfl, p, _, _, _, rfl, rfl, SqL.of e, rfl, _, _, rfl, rfl, _, rfl, p, _, _, 2, rfl, rfl, e, rfl, ?_⟩
      have hP : CPowW 10 41 := pow3' (by decide) (by decide)
      have hP2 : CPowW 10 39 := pow3' (by decide) (by decide)
      have q0 : (0 : Int) < (10 : Int) ^ (41 : Int).toNat + 37 := by decide
      have q1 : (0 : Int) < (10 : Int) ^ (39 : Int).toNat + 3 := by decide
      have q2 : (10 : Int) ^ (41 : Int).toNat + 37 < 2 ^ 200 := by decide
      have c1 : CPowW (b + 870022201 * (n + 1)) 3 := pow3 (by omega)
      refine ⟨_, rfl, p, _, _, _, rfl, rfl, SqL.of upd_same, rfl, _, rfl, p, _, _, _, rfl, rfl, SqL.of upd_same, rfl, _, _, rfl, rfl, .inl ⟨by decide, by decide⟩, _, _, rfl, rfl, .inl ⟨_, rfl, _, _, rfl, rfl, c1, _, _, rfl, rfl, hP, _, _, rfl, rfl, _, _, rfl, rfl, q0, ?_⟩⟩
      obtain ⟨y, hy⟩ : ∃ y : Int, y = (b + 870022201 * (n + 1)) ^ (3 : Int).toNat % ((10 : Int) ^ (41 : Int).toNat + 37) := ⟨_, rfl⟩
      have y0 : 0 ≤ y := hy ▸ Int.emod_nonneg _ (Int.ne_of_gt q0)
      have y1 : y < (10 : Int) ^ (41 : Int).toNat + 37 := hy ▸ Int.emod_lt_of_pos _ q0
      have c2 : CPowW (y + 334214467 * (n + 1)) 3 := pow3 (by omega)
      show gName 3 (.int ((b + 870022201 * (n + 1)) ^ (3 : Int).toNat % ((10 : Int) ^ (41 : Int).toNat + 37))) _ _ _
      rw [← hy]
      refine ⟨_, rfl, _, rfl, p, _, _, _, rfl, rfl, SqL.of upd_same, rfl, _, _, rfl, rfl, .inl ⟨by decide, by decide⟩, _, _, rfl, rfl, .inl ⟨_, rfl, _, _, rfl, rfl, c2, _, _, rfl, rfl, hP2, _, _, rfl, rfl, _, _, rfl, rfl, q1, ?_⟩⟩
      refine ⟨_, rfl, _, _, rfl, rfl, ⟨by decide, by decide⟩, .inl ⟨_, rfl, _, rfl, _, _, rfl, rfl, hw, ?_⟩⟩
      exact k _ _ (Int.emod_nonneg _ (by omega)) (Int.emod_lt_of_pos _ hw) ⟨_, _, _, upd_same, b0, b1, by omega, by omega⟩ fun _ h => upd_ne h
end
end K03

namespace K03
open PySem PySem.Spec PyProof.Rows L2 LcM
theorem at_in {xs : List V} {v : Int} (h0 : 0 ≤ v) (h1 : v < xs.length) : ∃ z ∈ xs, atI xs v = some z := by
  have lt : v.toNat < xs.length := by omega
  have q := atI_nat (List.getElem?_eq_getElem lt)
  rw [Int.toNat_of_nonneg h0] at q
  exact ⟨_, List.getElem_mem lt, q⟩
/-- items of newcomers: each within its bounds -/
def Bnd (xs : List Int) : Prop := ∀ (j : Nat) (x : Int), xs[j]? = some x → -(j : Int) ≤ x ∧ x ≤ (j : Int)
theorem Bnd.add {xs : List Int} {x : Int} (h : Bnd xs) (h0 : -(xs.length : Int) ≤ x) (h1 : x ≤ (xs.length : Int)) : Bnd (xs ++ [x]) := fun j y e => by
  rcases Nat.lt_or_ge j xs.length with z | z
  · rw [List.getElem?_append_left z] at e
    exact h j y e
  · rw [List.getElem?_append_right z] at e
    have : j - xs.length = 0 := by
      rcases Nat.eq_zero_or_pos (j - xs.length) with q | q
      · exact q
      · rw [List.getElem?_eq_none (by show 1 ≤ j - xs.length; omega)] at e
        cases e
    rw [this] at e
    have e' : x = y := Option.some.inj e
    omega
def spItems : Sp := fun vs H Q _ => ∃ (p : Addr) (mn m : Int), vs = [.ref p, .int mn] ∧ Pch H p m ∧ m < 2 ^ 50 ∧ 1 ≤ mn ∧ mn ≤ 20 ∧
  ∀ (l : Addr) (xs : List Int) (H' : Hp), (xs.length : Int) = mn - 1 → Bnd xs → Pch H' p (m + 100) → Gr p H H' → H l = none → H' l = some (.lst (xs.map V.int)) → Q (.ref l) H'
theorem but_at {p a : Addr} {H H' : Hp} {o : HO} (h : ∀ b, b ≠ p → H' b = H b) (e : H a = some o) (n : a ≠ p) : H' a = some o := (h a n).trans e
theorem but_gr {p : Addr} {H H' : Hp} (h : ∀ b, b ≠ p → H' b = H b) : Gr p H H' := fun b o n e => (h b n).trans e
theorem pch_ne {p a : Addr} {H : Hp} {m : Int} (h : Pch H p m) (n : H a = none) : a ≠ p := fun e => by
  obtain ⟨_, _, _, q, _⟩ := h
  rw [← e, n] at q
  cases q
section
variable {P : Program} {w : World} {K : PySem.W.Frag} {mg : Str → Option Value} {base : Heap}
structure TxtD (mg : Str → Option Value) (fD : Addr) : Prop extends Txt0 mg where
  gD : mg "_law_dip" = some (.ref fD)
theorem scItems : FnScope ["pouch", "many", "style", "found", "fresh", "near", "pick"] ["pouch", "many"] (defScope sItems) := ⟨rfl, rfl, rfl, by decide +kernel, rfl, by decide +kernel, by decide +kernel⟩
theorem ok_items {f fD : Addr} {fd fdD : FuncData} (F : Fun K "_law_items" "_law_items" sItems f fd) (T : TxtD mg fD) (FD : Fun K "_law_dip" "_law_dip" sDip fD fdD) (bD : Binds K fdD ["pouch", "wide"] []) : FnOk P w K mg base CX0 2 f fd ["pouch", "many"] spItems := by
  have GD : FnOk P w K mg base CX0 1 fD fdD ["pouch", "wide"] spDip := ok_dip FD T.toTxt0
  refine F.ok scItems (fun vs H Q E h => ?_) (fun cdv A outer s H vs Q E hr h => ?_)
  · obtain ⟨p, mn, m, rfl, _⟩ := h
    rfl
  · obtain ⟨p, mn, m, rfl, hP, hm, hmn, hmx, k⟩ := h
    refine ⟨_, (pss_cons (ps_par (i := 2) (j := 3) (by rfl) scItems.nd rfl rfl (by decide) rfl rfl (pa_cons (pe_call GD (hr.mono (by decide)) rfl T.gD FD.kp bD .nil pass0 (pa_cons (pv 0) (pa_cons pe_int pa_nil))) (pa_cons (pe_lst pa_nil) pa_nil)) (by rfl))
      (pss_cons (ps_for PassesOwn.never rfl (pi_range2 (by rfl) T.range (pa_cons pe_int (pa_cons (pv 1) pa_nil))) (pg_name (i := 4) scItems.nd rfl (.inl rfl))
      (pss_cons (ps_set (i := 5) scItems.nd rfl (.inl rfl) (pe_lst (pa_cons (pe_op op_add (pe_op op_sub (pe_call GD (hr.mono (by decide)) rfl T.gD FD.kp bD .nil pass0 (pa_cons (pv 0) (pa_cons (pe_op op_sub (pe_op op_mul pe_int (pv 4)) pe_int) pa_nil))) (pv 4)) pe_int) (pa_cons (pe_op op_sub (pv 4) pe_int) (pa_cons (pe_op op_sub pe_int (pv 4)) (pa_cons pe_int (pa_cons (pe_op op_sub pe_int (pe_callB (call_min2 rfl) (by rfl) T.min (by decide +kernel) (pa_cons pe_int (pa_cons (pe_op op_sub (pv 4) pe_int) pa_nil)))) pa_nil)))))))
      (pss_cons (ps_set (i := 6) scItems.nd rfl (.inl rfl) (pe_ix (r := rIxL K) ix_list (pe_lst (pa_cons (pe_call GD (hr.mono (by decide)) rfl T.gD FD.kp bD .nil pass0 (pa_cons (pv 0) (pa_cons pe_int pa_nil))) (pa_cons pe_int (pa_cons pe_int (pa_cons pe_int (pa_cons (pe_ix (r := rIxL K) ix_list (pe_lst (pa_cons pe_int (pa_cons pe_int pa_nil))) (pe_call GD (hr.mono (by decide)) rfl T.gD FD.kp bD .nil pass0 (pa_cons (pv 0) (pa_cons pe_int pa_nil))) (fun _ _ => rfl)) (pa_cons (pe_ix (r := rIxL K) ix_list (pe_lst (pa_cons pe_int (pa_cons pe_int pa_nil))) (pe_call GD (hr.mono (by decide)) rfl T.gD FD.kp bD .nil pass0 (pa_cons (pv 0) (pa_cons pe_int pa_nil))) (fun _ _ => rfl)) pa_nil))))))) (pv 2) (fun _ _ => rfl)))
      (pss_one (ps_expr (pe_bm PySem.F.plainAttrs_list PySem.F.slot_list_append PySem.F.type_list_append mt_append (pv 3) (pa_cons (pe_ix (r := rIxL K) ix_list (pv 5) (pv 6) (fun _ _ => rfl)) pa_nil)))))))
      (pss_one (ps_ret (pv 3))))), ?_⟩
    refine ⟨_, rfl, p, _, _, rfl, hP, by omega, by decide, by decide, fun v0 H1 v00 v01 hP1 but1 => ⟨by decide, fun l hl => ⟨_, _, rfl, ?_⟩⟩⟩
    have nlp : l ≠ p := pch_ne hP1 hl
    have hl0 : H l = none := (but1 l nlp).symm.trans hl
    refine ⟨_, rfl, 1, mn, rfl, ⟨by decide, by decide, by omega, by omega⟩, for_range (lo := 1) (n := (mn - 1).toNat) (fun i σ H' => ∃ (xs : List Int) (f1 f2 f3 : Option V), σ = [some (.ref p), some (.int mn), some (.int v0), some (.ref l), f1, f2, f3] ∧ xs.length = i ∧ Bnd xs ∧ Pch H' p (m + 1 + 4 * i) ∧ Gr p H H' ∧ H' l = some (.lst (xs.map V.int)))
      ⟨[], none, none, none, rfl, rfl, (fun j x e => by rw [List.getElem?_nil] at e; cases e), (hP1.same (.new hl)).le (by omega), (but_gr but1).trans (.new hl), upd_same⟩ ?_ ?_⟩
    · rintro i σ H2 hi ⟨xs, f1, f2, f3, rfl, hxl, hb, hP2, gr2, e2⟩
      have hi20 : i < 19 := by omega
      -- near
      refine ⟨_, rfl, _, rfl, _, _, rfl, rfl, .inl ⟨by decide, by decide⟩, _, _, rfl, rfl, p, _, _, rfl, hP2, by omega, by omega, ?_, fun v1 H3 v10 v11 hP3 but3 => ?_⟩
      · show (2 * (1 + (i : Int)) - 1).natAbs < 2 ^ 200
        omega
      refine ⟨_, rfl, _, _, rfl, rfl, _, _, rfl, rfl, _, rfl, _, _, rfl, rfl, _, rfl, _, _, rfl, rfl, _, rfl, _, _, rfl, rfl, _, _, rfl, _, _, rfl, rfl, (by show 5 ≤ sizeLine; decide), fun q1 hq1 => ?_⟩
      have nq1 := pch_ne hP3 hq1
      have el3 := but_at but3 e2 nlp
      obtain ⟨nr, hnr⟩ : ∃ nr : List V, nr = [.int (v1 - (1 + (i : Int)) + 1), .int (1 + (i : Int) - 1), .int (1 - (1 + (i : Int))), .int 0, .int (0 - (if 1 + (i : Int) - 1 < 1 then 1 + (i : Int) - 1 else 1))] := ⟨_, rfl⟩
      have nb : ∀ z ∈ nr, ∃ y : Int, z = .int y ∧ -(i : Int) ≤ y ∧ y ≤ (i : Int) := by
        intro z hz
        rw [hnr] at hz
        simp only [List.mem_cons, List.not_mem_nil, or_false] at hz
        rcases hz with rfl | rfl | rfl | rfl | rfl
        · exact ⟨_, rfl, by omega, by omega⟩
        · exact ⟨_, rfl, by omega, by omega⟩
        · exact ⟨_, rfl, by omega, by omega⟩
        · exact ⟨_, rfl, by omega, by omega⟩
        · refine ⟨_, rfl, ?_, ?_⟩ <;> (split <;> omega)
      have el4 : upd H3 q1 (.lst nr) l = some (.lst (xs.map V.int)) := (upd_ne (ne_of_none el3 hq1)).trans el3
      have hP4 : Pch (upd H3 q1 (.lst nr)) p (m + 1 + 4 * i + 1) := hP3.same (.new hq1)
      -- pick
      refine ⟨_, rfl, p, _, _, rfl, (by rw [← hnr]; exact hP4), by omega, by decide, by decide, fun v2 H5 v20 v21 hP5 but5 => ?_⟩
      rw [← hnr] at but5
      refine ⟨(by show 2 ≤ sizeLine; decide), fun q2 hq2 => ⟨_, rfl, p, _, _, rfl, hP5.same (.new hq2), by omega, by decide, by decide, fun v3 H6 v30 v31 hP6 but6 => ?_⟩⟩
      have nq2 := pch_ne hP5 hq2
      obtain ⟨z3, hz3, ez3⟩ := at_in (xs := [V.int 0, V.int 3]) v30 v31
      refine ⟨q2, _, v3, z3, rfl, rfl, SqL.of (but_at but6 upd_same nq2), ez3, (by show 2 ≤ sizeLine; decide), fun q3 hq3 => ⟨_, rfl, p, _, _, rfl, hP6.same (.new hq3), by omega, by decide, by decide, fun v4 H7 v40 v41 hP7 but7 => ?_⟩⟩
      have nq3 := pch_ne hP6 hq3
      obtain ⟨z4, hz4, ez4⟩ := at_in (xs := [V.int 0, V.int 4]) v40 v41
      refine ⟨q3, _, v4, z4, rfl, rfl, SqL.of (but_at but7 upd_same nq3), ez4, (by show 6 ≤ sizeLine; decide), fun q4 hq4 => ?_⟩
      obtain ⟨z5, hz5, ez5⟩ := at_in (xs := [V.int v2, V.int 0, V.int 1, V.int 2, z3, z4]) v00 v01
      have pk : ∃ y : Int, z5 = .int y ∧ 0 ≤ y ∧ y < 5 := by
        simp only [List.mem_cons, List.not_mem_nil, or_false] at hz5 hz3 hz4
        rcases hz5 with rfl | rfl | rfl | rfl | rfl | rfl
        · exact ⟨_, rfl, v20, v21⟩
        · exact ⟨_, rfl, by decide, by decide⟩
        · exact ⟨_, rfl, by decide, by decide⟩
        · exact ⟨_, rfl, by decide, by decide⟩
        · rcases hz3 with rfl | rfl <;> exact ⟨_, rfl, by decide, by decide⟩
        · rcases hz4 with rfl | rfl <;> exact ⟨_, rfl, by decide, by decide⟩
      obtain ⟨y, rfl, y0, y1⟩ := pk
      refine ⟨_, rfl, q4, _, v0, .int y, rfl, rfl, SqL.of upd_same, ez5, ?_⟩
      -- append
      have gr7 : Gr p (upd H3 q1 (.lst nr)) (upd H7 q4 (.lst [V.int v2, V.int 0, V.int 1, V.int 2, z3, z4])) := ((((but_gr but5).trans (.new hq2)).trans (but_gr but6)).trans (.new hq3)).trans ((but_gr but7).trans (.new hq4))
      have eq1 := gr7 q1 _ nq1 upd_same
      have el7 := gr7 l _ nlp el4
      obtain ⟨z6, hz6, ez6⟩ := at_in (xs := nr) (v := y) y0 (by rw [hnr]; exact y1)
      obtain ⟨x, rfl, x0, x1⟩ := nb z6 hz6
      refine ⟨_, rfl, .inl ⟨rfl, _, SqL.of el7⟩, _, rfl, _, rfl, q1, _, y, .int x, rfl, rfl, SqL.of eq1, ez6, l, _, _, rfl, rfl, el7, ?_, ?_⟩
      · rw [List.length_map]
        exact small1000 (by omega)
      · refine ⟨xs ++ [x], _, _, _, rfl, by rw [List.length_append, hxl]; rfl, hb.add (by omega) (by omega), ?_, ?_, by rw [upd_same, List.map_append]; rfl⟩
        · obtain ⟨d, b, n, e, b0, b1, n0, n1⟩ := (hP7.same (H' := upd H7 q4 (.lst [V.int v2, V.int 0, V.int 1, V.int 2, z3, z4])) (.new hq4))
          exact ⟨d, b, n, (upd_ne nlp.symm).trans e, b0, b1, n0, by omega⟩
        · intro b o nb' eb
          rcases Classical.em (b = l) with e | e
          · rw [e, hl0] at eb
            cases eb
          · rw [upd_ne e]
            exact gr7 b o nb' ((Gr.new hq1 : Gr p H3 _) b o nb' (but_gr but3 b o nb' (gr2 b o nb' eb)))
    · rintro σ H2 ⟨xs, f1, f2, f3, rfl, hxl, hb, hP2, gr2, e2⟩
      exact ⟨_, rfl, k l xs H2 (by omega) hb (hP2.le (by omega)) gr2 hl0 e2⟩
end
end K03

namespace K03
open PySem PySem.Spec PyProof.Rows L2 SortR LcM
abbrev sNumber : Stmt := top 7
abbrev sPerson : Stmt := top (7 + 1)
abbrev sAsc : Stmt := top (7 + 2)
abbrev sPList : Stmt := top (7 + 3)
abbrev sGroup : Stmt := top (7 + 4)
abbrev sMask : Stmt := top (7 + 5)
abbrev sCross : Stmt := top (7 + 6)
abbrev sAny : Stmt := top (7 + 7)
abbrev sParting : Stmt := top (7 + 9)
abbrev sPersons : Stmt := top (7 + 10)
/-- the program's defs, where they stand -/
structure ProgF (K : PySem.W.Frag) (mg : Str → Option Value) where
  (fNum fPer fAsc fPL fGr fMask fCross fAny fIs fPs : Addr)
  (dNum dPer dAsc dPL dGr dMask dCross dAny dIs dPs : FuncData)
  FNum : Fun K "is_number" "is_number" sNumber fNum dNum
  FPer : Fun K "is_person" "is_person" sPerson fPer dPer
  FAsc : Fun K "is_ascending" "is_ascending" sAsc fAsc dAsc
  FPL : Fun K "is_person_list" "is_person_list" sPList fPL dPL
  FGr : Fun K "is_group" "is_group" sGroup fGr dGr
  FMask : Fun K "mask_of" "mask_of" sMask fMask dMask
  FCross : Fun K "masks_cross" "masks_cross" sCross fCross dCross
  FAny : Fun K "any_cross" "any_cross" sAny fAny dAny
  FIs : Fun K "is_parting" "is_parting" sParting fIs dIs
  FPs : Fun K "persons_of" "persons_of" sPersons fPs dPs
  gNum : mg "is_number" = some (.ref fNum)
  gPer : mg "is_person" = some (.ref fPer)
  gAsc : mg "is_ascending" = some (.ref fAsc)
  gPL : mg "is_person_list" = some (.ref fPL)
  gGr : mg "is_group" = some (.ref fGr)
  gMask : mg "mask_of" = some (.ref fMask)
  gCross : mg "masks_cross" = some (.ref fCross)
  gAny : mg "any_cross" = some (.ref fAny)
  gIs : mg "is_parting" = some (.ref fIs)
  gPs : mg "persons_of" = some (.ref fPs)
  bNum : Binds K dNum ["thing"] []
  bPer : Binds K dPer ["thing", "persons"] []
  bAsc : Binds K dAsc ["items"] []
  bPL : Binds K dPL ["thing", "persons"] []
  bGr : Binds K dGr ["thing", "persons"] []
  bMask : Binds K dMask ["group"] []
  bCross : Binds K dCross ["one", "other"] []
  bAny : Binds K dAny ["groups"] []
  bIs : Binds K dIs ["thing"] []
  bPs : Binds K dPs ["parting"] []
  gComb : mg "combinations" = some (.type "itertools.combinations")
  mostT : Tok
  gMost : mg "MOST_PERSONS" = some (.int 20 mostT)
/-- the built-in kinds that may come -/
def kinds : List String := ["int", "bool", "str", "NoneType", "list", "tuple", "dict"]
structure TxtP (mg : Str → Option Value) : Prop where
  isi : mg "isinstance" = none
  int : mg "int" = none
  bool : mg "bool" = none
  list : mg "list" = none
  len : mg "len" = none
  all : mg "all" = none
  any : mg "any" = none
  sum : mg "sum" = none
  zip : mg "zip" = none
  sorted : mg "sorted" = none
  tuple : mg "tuple" = none
  range : mg "range" = none
  enumerate : mg "enumerate" = none
def spNumber (K : PySem.W.Frag) : Sp := fun vs H Q _ => ∃ (x : V) (t : String), vs = [x] ∧ TyX K H x (.type t) ∧ t ∈ kinds ∧ Q (.bl (decide (t = "int"))) H
def spPerson (K : PySem.W.Frag) : Sp := fun vs H Q _ => ∃ (x : V) (t : String) (n : Int), vs = [x, .int n] ∧ TyX K H x (.type t) ∧ t ∈ kinds ∧ (t = "int" → ∃ i, x = .int i ∧ Q (.bl (decide (0 ≤ i) && decide (i < n))) H) ∧ (t ≠ "int" → Q (.bl false) H)
/-- each below the one behind it -/
def ascI (ns : List Int) : Bool := (List.range (ns.length - 1)).all fun i => decide (ns.getD i 0 < ns.getD (i + 1) 0)
def ascR (rs : List (List Int)) : Bool := (List.range (rs.length - 1)).all fun i => decide (rs.getD i [] < rs.getD (i + 1) [])
def spAscI (K : PySem.W.Frag) : Sp := fun vs H Q _ => ∃ (a : Addr) (ns : List Int), vs = [.ref a] ∧ SqL K H a (ns.map V.int) ∧ ns.length ≤ 1000 ∧ ∀ H', Grows H H' → Q (.bl (ascI ns)) H'
def spAscR (K : PySem.W.Frag) : Sp := fun vs H Q _ => ∃ (a : Addr) (bs : List (Addr × List Int)), vs = [.ref a] ∧ SqL K H a (bs.map fun b => V.ref b.1) ∧ (∀ b ∈ bs, SqL K H b.1 (b.2.map V.int)) ∧ bs.length ≤ 1000 ∧ ∀ H', Grows H H' → Q (.bl (ascR (bs.map (·.2)))) H'
section
variable {P : Program} {w : World} {K : PySem.W.Frag} {mg : Str → Option Value} {base : Heap}
theorem scNumber : FnScope ["thing"] ["thing"] (defScope sNumber) := ⟨rfl, rfl, rfl, by decide +kernel, rfl, by decide +kernel, by decide +kernel⟩
theorem scPerson : FnScope ["thing", "persons"] ["thing", "persons"] (defScope sPerson) := ⟨rfl, rfl, rfl, by decide +kernel, rfl, by decide +kernel, by decide +kernel⟩
theorem scAsc : FnScope ["items", "low", "high"] ["items"] (defScope sAsc) := ⟨rfl, rfl, rfl, by decide +kernel, rfl, by decide +kernel, by decide +kernel⟩
theorem ok_number {f : Addr} {fd : FuncData} (F : Fun K "is_number" "is_number" sNumber f fd) (T : TxtP mg) : FnOk P w K mg base CX0 1 f fd ["thing"] (spNumber K) := by
  refine F.ok scNumber (fun vs H Q E h => ?_) (fun cdv A outer s H vs Q E hr h => ?_)
  · obtain ⟨x, t, rfl, _⟩ := h
    rfl
  · obtain ⟨x, t, rfl, ty, hk, k⟩ := h
    refine ⟨_, (pss_one (ps_ret (pe_and (pe_callB call_isi (by rfl) T.isi (by decide +kernel) (pa_cons (pv 0) (pa_cons (pe_bltn (v := .ty "int") (u := .type "int") (by rfl) T.int (by decide +kernel) rfl) pa_nil))) (pe_one (pe_not (pe_callB call_isi (by rfl) T.isi (by decide +kernel) (pa_cons (pv 0) (pa_cons (pe_bltn (v := .ty "bool") (u := .type "bool") (by rfl) T.bool (by decide +kernel) rfl) pa_nil)))))))), ?_⟩
    simp only [kinds, List.mem_cons, List.not_mem_nil, or_false] at hk
    rcases hk with rfl | rfl | rfl | rfl | rfl | rfl | rfl
    · exact ⟨_, rfl, _, _, _, _, true, rfl, .ty "int", ty, kit_ty (by decide +kernel), true, rfl, _, rfl, _, _, _, _, false, rfl, .ty "bool", ty, kit_ty (by decide +kernel), false, rfl, k⟩
    · exact ⟨_, rfl, _, _, _, _, true, rfl, .ty "int", ty, kit_ty (by decide +kernel), true, rfl, _, rfl, _, _, _, _, true, rfl, .ty "bool", ty, kit_ty (by decide +kernel), true, rfl, k⟩
    all_goals exact ⟨_, rfl, _, _, _, _, false, rfl, .ty "int", ty, kit_ty (by decide +kernel), false, rfl, k⟩
theorem ok_person (Z : ProgF K mg) (T : TxtP mg) : FnOk P w K mg base CX0 2 Z.fPer Z.dPer ["thing", "persons"] (spPerson K) := by
  have GNum : FnOk P w K mg base CX0 1 Z.fNum Z.dNum ["thing"] (spNumber K) := ok_number Z.FNum T
  refine Z.FPer.ok scPerson (fun vs H Q E h => ?_) (fun cdv A outer s H vs Q E hr h => ?_)
  · obtain ⟨x, t, n, rfl, _⟩ := h
    rfl
  · obtain ⟨x, t, n, rfl, ty, hk, k1, k2⟩ := h
    refine ⟨_, (pss_one (ps_ret (pe_and (pe_call GNum (hr.mono (by decide)) rfl Z.gNum Z.FNum.kp Z.bNum .nil pass0 (pa_cons (pv 0) pa_nil)) (pe_one (pe_chain op_le op_lt pe_int (pv 0) (pv 1)))))), ?_⟩
    refine ⟨_, rfl, x, t, rfl, ty, hk, ?_⟩
    by_cases e : t = "int"
    · obtain ⟨i, rfl, q⟩ := k1 e
      refine ⟨_, rfl, ?_⟩
      rw [if_pos (decide_eq_true e)]
      refine ⟨_, rfl, _, _, rfl, rfl, _, rfl, ?_⟩
      by_cases l : 0 ≤ i
      · rw [if_pos (decide_eq_true l)]
        refine ⟨_, rfl, _, _, rfl, rfl, ?_⟩
        rw [decide_eq_true l, Bool.true_and] at q
        exact q
      · rw [if_neg (by rw [decide_eq_false l]; exact Bool.false_ne_true)]
        rw [decide_eq_false l, Bool.false_and] at q
        exact q
    · refine ⟨_, rfl, ?_⟩
      rw [if_neg (by rw [decide_eq_false e]; exact Bool.false_ne_true)]
      exact k2 e
theorem at_map {α : Type} {f : α → V} {ns : List α} {i : Nat} {x : V} {d : α} (h : (ns.map f)[i]? = some x) : x = f (ns.getD i d) := by
  rw [List.getElem?_map] at h
  obtain ⟨z, hz, e⟩ := Option.map_eq_some_iff.mp h
  rw [← e, List.getD_eq_getElem?_getD, hz]
  rfl
theorem at_tail {α : Type} {f : α → V} {ns : List α} {i : Nat} {x : V} {d : α} (h : (ns.map f).tail[i]? = some x) : x = f (ns.getD (i + 1) d) := by
  rw [List.getElem?_tail] at h
  exact at_map h
theorem all_rng (n : Nat) (p : Nat → Bool) : ((List.range n).map p).all id = (List.range n).all p := by
  rw [List.all_map]
  rfl
theorem ok_ascI {f : Addr} {fd : FuncData} (F : Fun K "is_ascending" "is_ascending" sAsc f fd) (T : TxtP mg) : FnOk P w K mg base CX0 1 f fd ["items"] (spAscI K) := by
  refine F.ok scAsc (fun vs H Q E h => ?_) (fun cdv A outer s H vs Q E hr h => ?_)
  · obtain ⟨a, ns, rfl, _⟩ := h
    rfl
  · obtain ⟨a, ns, rfl, hS, hn, k⟩ := h
    refine ⟨_, (pss_one (ps_ret (pe_callB (cr_all rfl) (by rfl) T.all (by decide +kernel) (pa_cons (pe_lc (own := [("low", 1), ("high", 2)]) (g := gTup K 2 (gCons (gName 1) (gCons (gName 2) gNil))) (tt := tYes) rfl scAsc.nd (pi_zip (by rfl) T.zip (pa_cons (pv 0) (pa_cons (pe_slice sl_list (pv 0) (po_some pe_int) po_none) pa_nil))) (blkOk_by (own := [("low", 1), ("high", 2)]) (N := ["items", "low", "high"]) (sc := defScope sAsc) (by decide +kernel)) (fun _ _ _ _ _ => pg_tup rfl (pgs_cons (pg_name (i := 1) scAsc.nd rfl (Or.inl rfl)) (pgs_cons (pg_name (i := 2) scAsc.nd rfl (Or.inl rfl)) pgs_nil))) (fun _ _ _ _ _ => pts_nil) (fun _ _ _ _ _ => (pe_cmpR op_lt (pv 1) (pv 2) (nomark _)))) pa_nil)))), ?_⟩
    refine ⟨_, rfl, _, rfl, 1, rfl, a, _, rfl, hS, fun c nc => ?_⟩
    rw [cut_tail]
    refine ⟨a, c, _, _, rfl, (Grows.new nc).seq hS, SqL.of upd_same, fun D hD => lc_zipM (K := K) (fun i => V.bl (decide (ns.getD i 0 < ns.getD (i + 1) 0))) hD ((Grows.new nc).seq hS) (SqL.of upd_same) (by rw [List.length_map]; omega) (fun i x y T H' R hx hy sm hT kR => ?_) fun H' sm eD => ?_⟩
    · refine ⟨T, _, rfl, SqT.of upd_same, rfl, _, _, rfl, _, _, rfl, rfl, ?_⟩
      obtain rfl := at_map (d := 0) hx
      obtain rfl := at_tail (d := 0) hy
      exact ⟨rfl, _, rfl, _, rfl, _, _, rfl, rfl, kR _ .refl⟩
    · have e : min (ns.map V.int).length (ns.map V.int).tail.length = ns.length - 1 := by
        rw [List.length_tail, List.length_map]
        omega
      rw [e] at eD
      refine ⟨D, (List.range (ns.length - 1)).map fun i => decide (ns.getD i 0 < ns.getD (i + 1) 0), rfl, SqL.of (by rw [eD, List.map_map]; rfl), ?_⟩
      rw [all_rng]
      exact k H' ((Grows.new nc).trans sm)
theorem ok_ascR {f : Addr} {fd : FuncData} (F : Fun K "is_ascending" "is_ascending" sAsc f fd) (T : TxtP mg) : FnOk P w K mg base CX0 1 f fd ["items"] (spAscR K) := by
  refine F.ok scAsc (fun vs H Q E h => ?_) (fun cdv A outer s H vs Q E hr h => ?_)
  · obtain ⟨a, bs, rfl, _⟩ := h
    rfl
  · obtain ⟨a, bs, rfl, hS, hb, hn, k⟩ := h
    refine ⟨_, (pss_one (ps_ret (pe_callB (cr_all rfl) (by rfl) T.all (by decide +kernel) (pa_cons (pe_lc (own := [("low", 1), ("high", 2)]) (g := gTup K 2 (gCons (gName 1) (gCons (gName 2) gNil))) (tt := tYes) rfl scAsc.nd (pi_zip (by rfl) T.zip (pa_cons (pv 0) (pa_cons (pe_slice sl_list (pv 0) (po_some pe_int) po_none) pa_nil))) (blkOk_by (own := [("low", 1), ("high", 2)]) (N := ["items", "low", "high"]) (sc := defScope sAsc) (by decide +kernel)) (fun _ _ _ _ _ => pg_tup rfl (pgs_cons (pg_name (i := 1) scAsc.nd rfl (Or.inl rfl)) (pgs_cons (pg_name (i := 2) scAsc.nd rfl (Or.inl rfl)) pgs_nil))) (fun _ _ _ _ _ => pts_nil) (fun _ _ _ _ _ => (pe_cmpR (r := rLtR K) (op_ltR (by exact hr.units)) (pv 1) (pv 2) (nomark _)))) pa_nil)))), ?_⟩
    refine ⟨_, rfl, _, rfl, 1, rfl, a, _, rfl, hS, fun c nc => ?_⟩
    rw [cut_tail]
    have hbD : ∀ i : Nat, i < bs.length → SqL K H (bs.getD i (0, [])).1 ((bs.getD i (0, [])).2.map V.int) := fun i hi => by
      rw [List.getD_eq_getElem?_getD, List.getElem?_eq_getElem hi]
      exact hb _ (List.getElem_mem hi)
    refine ⟨a, c, _, _, rfl, (Grows.new nc).seq hS, SqL.of upd_same, fun D hD => lc_zipM (K := K) (fun i => V.bl (decide ((bs.getD i (0, [])).2 < (bs.getD (i + 1) (0, [])).2))) hD ((Grows.new nc).seq hS) (SqL.of upd_same) (by rw [List.length_map]; omega) (fun i x y T H' R hx hy sm hT kR => ?_) fun H' sm eD => ?_⟩
    · have i1 := (List.getElem?_eq_some_iff.mp hx).1
      have i2 := (List.getElem?_eq_some_iff.mp hy).1
      rw [List.length_map] at i1
      rw [List.length_tail, List.length_map] at i2
      refine ⟨T, _, rfl, SqT.of upd_same, rfl, _, _, rfl, _, _, rfl, rfl, ?_⟩
      obtain rfl := at_map (d := (0, [])) hx
      obtain rfl := at_tail (d := (0, [])) hy
      have st : Grows H (upd H' T (.tup [V.ref (bs.getD i (0, [])).1, V.ref (bs.getD (i + 1) (0, [])).1])) := ((Grows.new nc).trans sm).trans (Grows.new hT)
      exact ⟨rfl, _, rfl, _, rfl, _, _, _, _, rfl, rfl, st.seq (hbD i i1), st.seq (hbD (i + 1) (by omega)), kR _ .refl⟩
    · have e : min (bs.map fun b => V.ref b.1).length (bs.map fun b => V.ref b.1).tail.length = bs.length - 1 := by
        rw [List.length_tail, List.length_map]
        omega
      rw [e] at eD
      refine ⟨D, (List.range (bs.length - 1)).map fun i => decide ((bs.getD i (0, [])).2 < (bs.getD (i + 1) (0, [])).2), rfl, SqL.of (by rw [eD, List.map_map]; rfl), ?_⟩
      rw [all_rng]
      have q := k H' ((Grows.new nc).trans sm)
      unfold ascR at q
      rw [List.length_map] at q
      have fe : ∀ i, (bs.map (·.2)).getD i [] = (bs.getD i (0, [])).2 := fun i => by
        rw [List.getD_eq_getElem?_getD, List.getD_eq_getElem?_getD, List.getElem?_map]
        cases bs[i]? <;> rfl
      simp only [fe] at q
      exact q
end
end K03

namespace K03
open PySem PySem.Spec PyProof.Rows L2 SortR LcM
theorem ty_list {K : PySem.W.Frag} {H : Hp} {a : Addr} {xs : List V} (h : SqL K H a xs) : TyX K H (.ref a) (.type "list") := by
  rcases h with (h | ⟨o, h⟩) | ⟨o, its, n, h, hc, _⟩
  · exact .base (.lst h)
  · exact .base (.frz h)
  · exact .kList h hc
def inR (n : Int) (ns : List Int) : Bool := (List.range ns.length).all fun i => decide (0 ≤ ns.getD i 0) && decide (ns.getD i 0 < n)
def plist (n : Int) (ns : List Int) : Bool := inR n ns && ascI ns
def group (n : Int) (ns : List Int) : Bool := plist n ns && decide (2 ≤ (ns.length : Int))
def maskI (ns : List Int) : Int := ((List.range ns.length).map fun i => 1 * 2 ^ (ns.getD i 0).toNat).sum
def crossI (i j : Int) : Bool := !inV (.int (Builtin.bitAnd i j)) [.int 0, .int i, .int j]
def anyX (rs : List (List Int)) : Bool := (List.range (Comb.prs rs.length).length).any fun t => crossI (maskI (rs.getD ((Comb.prs rs.length).getD t (0, 0)).1 [])) (maskI (rs.getD ((Comb.prs rs.length).getD t (0, 0)).2 []))
def isP (rs : List (List Int)) : Bool := decide ((rs.length : Int) < 20) && ((List.range rs.length).all fun i => group (rs.length + 1) (rs.getD i [])) && ascR rs && !anyX rs
def spPL (K : PySem.W.Frag) (m : Int → List Int → Bool) : Sp := fun vs H Q _ => ∃ (a : Addr) (n : Int) (ns : List Int), vs = [.ref a, .int n] ∧ SqL K H a (ns.map V.int) ∧ ns.length ≤ 1000 ∧ ∀ H', Grows H H' → Q (.bl (m n ns)) H'
def spMask (K : PySem.W.Frag) : Sp := fun vs H Q _ => ∃ (a : Addr) (ns : List Int), vs = [.ref a] ∧ SqL K H a (ns.map V.int) ∧ ns.length ≤ 1000 ∧ (∀ x ∈ ns, 0 ≤ x ∧ x ≤ 1000) ∧ ∀ H', Grows H H' → Q (.int (maskI ns)) H'
def spCross : Sp := fun vs H Q _ => ∃ (i j : Int), vs = [.int i, .int j] ∧ ∀ H', Grows H H' → Q (.bl (crossI i j)) H'
section
variable {P : Program} {w : World} {K : PySem.W.Frag} {mg : Str → Option Value} {base : Heap}
theorem scPList : FnScope ["thing", "persons", "item"] ["thing", "persons"] (defScope sPList) := ⟨rfl, rfl, rfl, by decide +kernel, rfl, by decide +kernel, by decide +kernel⟩
theorem scGroup : FnScope ["thing", "persons"] ["thing", "persons"] (defScope sGroup) := ⟨rfl, rfl, rfl, by decide +kernel, rfl, by decide +kernel, by decide +kernel⟩
theorem scMask : FnScope ["group", "person"] ["group"] (defScope sMask) := ⟨rfl, rfl, rfl, by decide +kernel, rfl, by decide +kernel, by decide +kernel⟩
theorem scCross : FnScope ["one", "other"] ["one", "other"] (defScope sCross) := ⟨rfl, rfl, rfl, by decide +kernel, rfl, by decide +kernel, by decide +kernel⟩
theorem ok_plist (Z : ProgF K mg) (T : TxtP mg) : FnOk P w K mg base CX0 3 Z.fPL Z.dPL ["thing", "persons"] (spPL K plist) := by
  have GPer : FnOk P w K mg base CX0 2 Z.fPer Z.dPer ["thing", "persons"] (spPerson K) := ok_person Z T
  have GAsc : FnOk P w K mg base CX0 1 Z.fAsc Z.dAsc ["items"] (spAscI K) := ok_ascI Z.FAsc T
  refine Z.FPL.ok scPList (fun vs H Q E h => ?_) (fun cdv A outer s H vs Q E hr h => ?_)
  · obtain ⟨a, n, ns, rfl, _⟩ := h
    rfl
  · obtain ⟨a, n, ns, rfl, hS, hn, k⟩ := h
    refine ⟨_, (pss_cons (ps_if (pt_not (pt_val (pe_callB call_isi (by rfl) T.isi (by decide +kernel) (pa_cons (pv 0) (pa_cons (pe_bltn (v := .ty "list") (u := .type "list") (by rfl) T.list (by decide +kernel) rfl) pa_nil))))) (pss_one (ps_ret pe_bl)) pss_nil)
      (pss_one (ps_ret (pe_and (pe_callB (cr_all rfl) (by rfl) T.all (by decide +kernel) (pa_cons (pe_lc (own := [("item", 2)]) (g := gName 2) (tt := tYes) rfl scPList.nd (pi_list (pv 0)) (blkOk_by (own := [("item", 2)]) (N := ["thing", "persons", "item"]) (sc := defScope sPList) (by decide +kernel)) (fun _ _ _ _ _ => pg_name (i := 2) scPList.nd rfl (Or.inl rfl)) (fun _ _ _ _ _ => pts_nil) (fun _ _ _ _ _ => (pe_call GPer (hr.mono (by decide)) rfl Z.gPer Z.FPer.kp Z.bPer .nil pass0 (pa_cons (pv 2) (pa_cons (pv 1) pa_nil))))) pa_nil)) (pe_one (pe_call GAsc (hr.mono (by decide)) rfl Z.gAsc Z.FAsc.kp Z.bAsc .nil pass0 (pa_cons (pv 0) pa_nil))))))), ?_⟩
    refine ⟨_, rfl, _, _, _, _, true, rfl, .ty "list", ty_list hS, kit_ty (by decide +kernel), true, rfl, ?_⟩
    refine iteF ⟨_, rfl, a, rfl, ⟨_, hS⟩, fun D hD => lc_listM (K := K) (fun i => V.bl (decide (0 ≤ ns.getD i 0) && decide (ns.getD i 0 < n))) hD hS (by rw [List.length_map]; omega) (fun i x H' R hx sm kR => ?_) fun H' sm eD => ?_⟩
    · obtain rfl := at_map (d := 0) hx
      refine ⟨rfl, _, rfl, _, rfl, _, "int", n, rfl, .base (.int _), by decide, fun _ => ⟨_, rfl, kR _ .refl⟩, fun z => absurd rfl z⟩
    · rw [List.length_map] at eD
      refine ⟨D, (List.range ns.length).map fun i => decide (0 ≤ ns.getD i 0) && decide (ns.getD i 0 < n), rfl, SqL.of (by rw [eD, List.map_map]; rfl), _, rfl, ?_⟩
      rw [all_rng]
      show if inR n ns = true then _ else _
      by_cases hi : inR n ns = true
      · rw [if_pos hi]
        refine ⟨_, rfl, a, ns, rfl, sm.seq hS, hn, fun H2 s2 => ?_⟩
        have q := k H2 (sm.trans s2)
        unfold plist at q
        rw [hi, Bool.true_and] at q
        exact q
      · rw [if_neg hi]
        have q := k H' sm
        unfold plist at q
        rw [Bool.eq_false_iff.mpr hi, Bool.false_and] at q
        exact q
theorem ok_group (Z : ProgF K mg) (T : TxtP mg) : FnOk P w K mg base CX0 4 Z.fGr Z.dGr ["thing", "persons"] (spPL K group) := by
  have GPL : FnOk P w K mg base CX0 3 Z.fPL Z.dPL ["thing", "persons"] (spPL K plist) := ok_plist Z T
  refine Z.FGr.ok scGroup (fun vs H Q E h => ?_) (fun cdv A outer s H vs Q E hr h => ?_)
  · obtain ⟨a, n, ns, rfl, _⟩ := h
    rfl
  · obtain ⟨a, n, ns, rfl, hS, hn, k⟩ := h
    refine ⟨_, (pss_one (ps_ret (pe_and (pe_call GPL (hr.mono (by decide)) rfl Z.gPL Z.FPL.kp Z.bPL .nil pass0 (pa_cons (pv 0) (pa_cons (pv 1) pa_nil))) (pe_one (pe_cmpR op_ge (pe_callB call_len_seq (by rfl) T.len (by decide +kernel) (pa_cons (pv 0) pa_nil)) pe_int (nomark _)))))), ?_⟩
    refine ⟨_, rfl, _, rfl, a, n, ns, rfl, hS, hn, fun H2 s2 => ⟨_, rfl, ?_⟩⟩
    have q := k H2 s2
    unfold group at q
    by_cases hi : plist n ns = true
    · rw [if_pos hi]
      rw [hi, Bool.true_and] at q
      refine ⟨_, rfl, a, _, rfl, .inl (s2.seq hS), _, _, rfl, rfl, ?_⟩
      rw [List.length_map]
      exact q
    · rw [if_neg hi]
      rw [Bool.eq_false_iff.mpr hi, Bool.false_and] at q
      exact q
theorem ok_mask (Z : ProgF K mg) (T : TxtP mg) : FnOk P w K mg base CX0 1 Z.fMask Z.dMask ["group"] (spMask K) := by
  refine Z.FMask.ok scMask (fun vs H Q E h => ?_) (fun cdv A outer s H vs Q E hr h => ?_)
  · obtain ⟨a, ns, rfl, _⟩ := h
    rfl
  · obtain ⟨a, ns, rfl, hS, hn, hr0, k⟩ := h
    refine ⟨_, (pss_one (ps_ret (pe_callB (cr_sum rfl) (by rfl) T.sum (by decide +kernel) (pa_cons (pe_lc (own := [("person", 1)]) (g := gName 1) (tt := tYes) rfl scMask.nd (pi_list (pv 0)) (blkOk_by (own := [("person", 1)]) (N := ["group", "person"]) (sc := defScope sMask) (by decide +kernel)) (fun _ _ _ _ _ => pg_name (i := 1) scMask.nd rfl (Or.inl rfl)) (fun _ _ _ _ _ => pts_nil) (fun _ _ _ _ _ => (pe_op op_shl pe_int (pv 1)))) pa_nil)))), ?_⟩
    refine ⟨_, rfl, a, rfl, ⟨_, hS⟩, fun D hD => lc_listM (K := K) (fun i => V.int (1 * 2 ^ (ns.getD i 0).toNat)) hD hS (by rw [List.length_map]; omega) (fun i x H' R hx sm kR => ?_) fun H' sm eD => ?_⟩
    · have il := (List.getElem?_eq_some_iff.mp hx).1
      rw [List.length_map] at il
      obtain rfl := at_map (d := 0) hx
      have mem : ns.getD i 0 ∈ ns := by
        rw [List.getD_eq_getElem?_getD, List.getElem?_eq_getElem il]
        exact List.getElem_mem il
      obtain ⟨m0, m1⟩ := hr0 _ mem
      exact ⟨rfl, _, rfl, _, _, rfl, rfl, ⟨m0, by omega, by decide⟩, kR _ .refl⟩
    · rw [List.length_map] at eD
      refine ⟨D, (List.range ns.length).map fun i => 1 * 2 ^ (ns.getD i 0).toNat, rfl, SqL.of (by rw [eD, List.map_map]; rfl), ?_⟩
      exact k H' sm
theorem ok_cross (Z : ProgF K mg) : FnOk P w K mg base CX0 1 Z.fCross Z.dCross ["one", "other"] spCross := by
  refine Z.FCross.ok scCross (fun vs H Q E h => ?_) (fun cdv A outer s H vs Q E hr h => ?_)
  · obtain ⟨i, j, rfl, _⟩ := h
    rfl
  · obtain ⟨i, j, rfl, k⟩ := h
    refine ⟨_, (pss_one (ps_ret (pe_cmpR op_notIn_seq (pe_op op_and (pv 0) (pv 1)) (pe_tup (pa_cons pe_int (pa_cons (pv 0) (pa_cons (pv 1) pa_nil)))) (by rfl)))), ?_⟩
    refine ⟨_, rfl, _, rfl, _, _, rfl, rfl, _, rfl, _, rfl, (by show 3 ≤ sizeLine; decide), fun t ht => ⟨t, _, rfl, .inr (SqT.of upd_same), rfl, rfl, ?_⟩⟩
    exact k _ (Grows.new ht)
end
end K03

namespace K03
open PySem PySem.Spec PyProof.Rows L2 SortR LcM
/-- a list of lists of ints, as it stands -/
structure Rw (K : PySem.W.Frag) (H : Hp) (a : Addr) (bs : List (Addr × List Int)) : Prop where
  top : SqL K H a (bs.map fun b => V.ref b.1)
  each : ∀ b ∈ bs, SqL K H b.1 (b.2.map V.int)
theorem Rw.keep {K : PySem.W.Frag} {H H' : Hp} {a : Addr} {bs : List (Addr × List Int)} (r : Rw K H a bs) (s : Grows H H') : Rw K H' a bs := ⟨s.seq r.top, fun b m => s.seq (r.each b m)⟩
theorem Rw.at {K : PySem.W.Frag} {H : Hp} {a : Addr} {bs : List (Addr × List Int)} (r : Rw K H a bs) {i : Nat} (hi : i < bs.length) : SqL K H (bs.getD i (0, [])).1 ((bs.getD i (0, [])).2.map V.int) := by
  rw [List.getD_eq_getElem?_getD, List.getElem?_eq_getElem hi]
  exact r.each _ (List.getElem_mem hi)
theorem snd_at (bs : List (Addr × List Int)) (i : Nat) : (bs.map (·.2)).getD i [] = (bs.getD i (0, [])).2 := by
  rw [List.getD_eq_getElem?_getD, List.getD_eq_getElem?_getD, List.getElem?_map]
  cases bs[i]? <;> rfl
theorem mem_at {bs : List (Addr × List Int)} {i : Nat} (hi : i < bs.length) : (bs.getD i (0, [])).2 ∈ bs.map (·.2) := by
  rw [List.getD_eq_getElem?_getD, List.getElem?_eq_getElem hi]
  exact List.mem_map.mpr ⟨_, List.getElem_mem hi, rfl⟩
theorem any_rng (n : Nat) (p : Nat → Bool) : ((List.range n).map p).any id = (List.range n).any p := by
  rw [List.any_map]
  rfl
/-- of the size that may come -/
def Sz (rs : List (List Int)) : Prop := rs.length ≤ 1000 ∧ ∀ r ∈ rs, r.length ≤ 1000
def spAny (K : PySem.W.Frag) : Sp := fun vs H Q _ => ∃ (a : Addr) (bs : List (Addr × List Int)), vs = [.ref a] ∧ Rw K H a bs ∧ Sz (bs.map (·.2)) ∧ (∀ r ∈ bs.map (·.2), ∀ x ∈ r, 0 ≤ x ∧ x ≤ 1000) ∧ ∀ H', Grows H H' → Q (.bl (anyX (bs.map (·.2)))) H'
def spIs (K : PySem.W.Frag) : Sp := fun vs H Q _ => ∃ (a : Addr) (bs : List (Addr × List Int)), vs = [.ref a] ∧ Rw K H a bs ∧ Sz (bs.map (·.2)) ∧ ∀ H', Grows H H' → Q (.bl (isP (bs.map (·.2)))) H'
def spPs (K : PySem.W.Frag) : Sp := fun vs H Q _ => ∃ (a : Addr) (bs : List (Addr × List Int)), vs = [.ref a] ∧ Rw K H a bs ∧ Sz (bs.map (·.2)) ∧ isP (bs.map (·.2)) = true ∧ ∀ H', Grows H H' → Q (.int (bs.length + 1)) H'
section
variable {P : Program} {w : World} {K : PySem.W.Frag} {mg : Str → Option Value} {base : Heap}
theorem scAny : FnScope ["groups", "masks", "group", "one", "other"] ["groups"] (defScope sAny) := ⟨rfl, rfl, rfl, by decide +kernel, rfl, by decide +kernel, by decide +kernel⟩
theorem scParting : FnScope ["thing", "persons", "group"] ["thing"] (defScope sParting) := ⟨rfl, rfl, rfl, by decide +kernel, rfl, by decide +kernel, by decide +kernel⟩
theorem scPersons : FnScope ["parting"] ["parting"] (defScope sPersons) := ⟨rfl, rfl, rfl, by decide +kernel, rfl, by decide +kernel, by decide +kernel⟩
theorem ok_any (Z : ProgF K mg) (T : TxtP mg) : FnOk P w K mg base CX0 2 Z.fAny Z.dAny ["groups"] (spAny K) := by
  have GMask : FnOk P w K mg base CX0 1 Z.fMask Z.dMask ["group"] (spMask K) := ok_mask Z T
  have GCross : FnOk P w K mg base CX0 1 Z.fCross Z.dCross ["one", "other"] spCross := ok_cross Z
  refine Z.FAny.ok scAny (fun vs H Q E h => ?_) (fun cdv A outer s H vs Q E hr h => ?_)
  · obtain ⟨a, bs, rfl, _⟩ := h
    rfl
  · obtain ⟨a, bs, rfl, hB, ⟨hz1, hz2⟩, hx, k⟩ := h
    refine ⟨_, (pss_cons (ps_setLc (i := 1) (own := [("group", 2)]) (g := gName 2) (tt := tYes) rfl scAny.nd rfl rfl (sw_true rfl rfl rfl (by decide +kernel)) (pi_list (pv 0)) (blkOk_by (own := [("group", 2)]) (N := ["groups", "masks", "group", "one", "other"]) (sc := defScope sAny) (by decide +kernel)) (fun _ _ _ _ _ => pg_name (i := 2) scAny.nd rfl (Or.inl rfl)) (fun _ _ _ _ _ => pts_nil) (fun _ _ _ _ _ => (pe_call GMask (hr.mono (by decide)) rfl Z.gMask Z.FMask.kp Z.bMask .nil pass0 (pa_cons (pv 2) pa_nil))))
      (pss_one (ps_ret (pe_callB (cr_any rfl) (by rfl) T.any (by decide +kernel) (pa_cons (pe_lc (own := [("one", 3), ("other", 4)]) (g := gTup K 2 (gCons (gName 3) (gCons (gName 4) gNil))) (tt := tYes) rfl scAny.nd (Comb.pi_comb (by rfl) Z.gComb (pa_cons (pv 1) (pa_cons pe_int pa_nil))) (blkOk_by (own := [("one", 3), ("other", 4)]) (N := ["groups", "masks", "group", "one", "other"]) (sc := defScope sAny) (by decide +kernel)) (fun _ _ _ _ _ => pg_tup rfl (pgs_cons (pg_name (i := 3) scAny.nd rfl (Or.inl rfl)) (pgs_cons (pg_name (i := 4) scAny.nd rfl (Or.inl rfl)) pgs_nil))) (fun _ _ _ _ _ => pts_nil) (fun _ _ _ _ _ => (pe_call GCross (hr.mono (by decide)) rfl Z.gCross Z.FCross.kp Z.bCross .nil pass0 (pa_cons (pv 3) (pa_cons (pv 4) pa_nil))))) pa_nil))))), ?_⟩
    rw [List.length_map] at hz1
    refine ⟨_, rfl, a, rfl, ⟨_, hB.top⟩, fun D hD => lc_listM (K := K) (fun i => V.int (maskI (bs.getD i (0, [])).2)) hD hB.top (by rw [List.length_map]; omega) (fun i x H' R hx' sm kR => ?_) fun H' sm eD => ?_⟩
    · have il := (List.getElem?_eq_some_iff.mp hx').1
      rw [List.length_map] at il
      obtain rfl := at_map (d := (0, [])) hx'
      exact ⟨rfl, _, rfl, _, _, rfl, sm.seq (hB.at il), hz2 _ (mem_at il), hx _ (mem_at il), fun H2 s2 => kR _ s2⟩
    · rw [List.length_map] at eD
      refine ⟨_, rfl, D, _, rfl, SqL.of eD, fun D2 hD2 => lc_combM (xs := (List.range bs.length).map fun i => V.int (maskI (bs.getD i (0, [])).2)) (fun t => V.bl (crossI (maskI (bs.getD ((Comb.prs bs.length).getD t (0, 0)).1 (0, [])).2) (maskI (bs.getD ((Comb.prs bs.length).getD t (0, 0)).2 (0, [])).2))) hD2 (by rw [List.length_map, List.length_range]; exact hz1) (fun t i j x y T H' R ht ex ey sm2 hT kR => ?_) fun H2 sm2 eD2 => ?_⟩
      · rw [List.length_map, List.length_range] at ht
        rw [List.getElem?_map] at ex ey
        have gx : x = .int (maskI (bs.getD i (0, [])).2) := by
          obtain ⟨z, hz, e⟩ := Option.map_eq_some_iff.mp ex
          have e2 := (List.getElem?_eq_some_iff.mp hz)
          obtain ⟨l2, e3⟩ := e2
          rw [List.getElem_range] at e3
          rw [← e, ← e3]
        have gy : y = .int (maskI (bs.getD j (0, [])).2) := by
          obtain ⟨z, hz, e⟩ := Option.map_eq_some_iff.mp ey
          have e2 := (List.getElem?_eq_some_iff.mp hz)
          obtain ⟨l2, e3⟩ := e2
          rw [List.getElem_range] at e3
          rw [← e, ← e3]
        subst gx gy
        have et : (Comb.prs bs.length).getD t (0, 0) = (i, j) := by
          rw [List.getD_eq_getElem?_getD, ht]
          rfl
        rw [et] at kR
        exact ⟨T, _, rfl, SqT.of upd_same, rfl, _, _, rfl, _, _, rfl, rfl, rfl, _, rfl, _, rfl, _, _, rfl, fun H3 s3 => kR _ s3⟩
      · rw [List.length_map, List.length_range] at eD2
        refine ⟨D2, (List.range (Comb.prs bs.length).length).map fun t => crossI (maskI (bs.getD ((Comb.prs bs.length).getD t (0, 0)).1 (0, [])).2) (maskI (bs.getD ((Comb.prs bs.length).getD t (0, 0)).2 (0, [])).2), rfl, SqL.of (by rw [eD2, List.map_map]; rfl), ?_⟩
        rw [any_rng]
        have q := k H2 (sm.trans sm2)
        unfold anyX at q
        simp only [List.length_map, snd_at] at q
        exact q
theorem rows_in {n : Int} {ns : List Int} (h : group n ns = true) (hn : n ≤ 1000) : ∀ x ∈ ns, 0 ≤ x ∧ x ≤ 1000 := by
  unfold group plist at h
  simp only [Bool.and_eq_true] at h
  obtain ⟨⟨h1, _⟩, _⟩ := h
  intro x hx
  obtain ⟨i, hi, e⟩ := List.getElem_of_mem hx
  have q := List.all_eq_true.mp h1 i (List.mem_range.mpr hi)
  simp only [Bool.and_eq_true, decide_eq_true_eq] at q
  rw [List.getD_eq_getElem?_getD, List.getElem?_eq_getElem hi] at q
  have q' : 0 ≤ ns[i] ∧ ns[i] < n := q
  rw [e] at q'
  omega
theorem ok_is (Z : ProgF K mg) (T : TxtP mg) : FnOk P w K mg base CX0 5 Z.fIs Z.dIs ["thing"] (spIs K) := by
  have GGr : FnOk P w K mg base CX0 4 Z.fGr Z.dGr ["thing", "persons"] (spPL K group) := ok_group Z T
  have GAsc : FnOk P w K mg base CX0 1 Z.fAsc Z.dAsc ["items"] (spAscR K) := ok_ascR Z.FAsc T
  have GAny : FnOk P w K mg base CX0 2 Z.fAny Z.dAny ["groups"] (spAny K) := ok_any Z T
  refine Z.FIs.ok scParting (fun vs H Q E h => ?_) (fun cdv A outer s H vs Q E hr h => ?_)
  · obtain ⟨a, bs, rfl, _⟩ := h
    rfl
  · obtain ⟨a, bs, rfl, hB, hz, k⟩ := h
    refine ⟨_, (pss_cons (ps_if (PW.pt (pw_or (pt_not (pt_val (pe_callB call_isi (by rfl) T.isi (by decide +kernel) (pa_cons (pv 0) (pa_cons (pe_bltn (v := .ty "list") (u := .type "list") (by rfl) T.list (by decide +kernel) rfl) pa_nil))))) (pw_or1 (pt_cmpR op_ge (pe_callB call_len_seq (by rfl) T.len (by decide +kernel) (pa_cons (pv 0) pa_nil)) (pe_glob (v := .int 20) rfl Z.gMost ⟨_, rfl⟩) (nomark _))))) (pss_one (ps_ret pe_bl)) pss_nil)
      (pss_cons (ps_set (i := 1) scParting.nd rfl (.inr rfl) (pe_op op_add (pe_callB call_len_seq (by rfl) T.len (by decide +kernel) (pa_cons (pv 0) pa_nil)) pe_int))
      (pss_cons (ps_if (pt_not (pt_val (pe_callB (cr_all rfl) (by rfl) T.all (by decide +kernel) (pa_cons (pe_lc (own := [("group", 2)]) (g := gName 2) (tt := tYes) rfl scParting.nd (pi_list (pv 0)) (blkOk_by (own := [("group", 2)]) (N := ["thing", "persons", "group"]) (sc := defScope sParting) (by decide +kernel)) (fun _ _ _ _ _ => pg_name (i := 2) scParting.nd rfl (Or.inl rfl)) (fun _ _ _ _ _ => pts_nil) (fun _ _ _ _ _ => (pe_call GGr (hr.mono (by decide)) rfl Z.gGr Z.FGr.kp Z.bGr .nil pass0 (pa_cons (pv 2) (pa_cons (pv 1) pa_nil))))) pa_nil)))) (pss_one (ps_ret pe_bl)) pss_nil)
      (pss_one (ps_ret (pe_and (pe_call GAsc (hr.mono (by decide)) rfl Z.gAsc Z.FAsc.kp Z.bAsc .nil pass0 (pa_cons (pv 0) pa_nil)) (pe_one (pe_not (pe_call GAny (hr.mono (by decide)) rfl Z.gAny Z.FAny.kp Z.bAny .nil pass0 (pa_cons (pv 0) pa_nil)))))))))), ?_⟩
    have hz' := hz
    obtain ⟨hz1, hz2⟩ := hz
    rw [List.length_map] at hz1
    refine ⟨_, rfl, _, _, _, _, true, rfl, .ty "list", ty_list hB.top, kit_ty (by decide +kernel), true, rfl, iteF ⟨_, rfl, a, _, rfl, .inl hB.top, _, _, rfl, rfl, _, rfl, ?_⟩⟩
    rw [List.length_map]
    refine ite2 (fun e => ?_) (fun e => ?_)
    · have ge := of_decide_eq_true e
      have q := k H .refl
      unfold isP at q
      rw [List.length_map, decide_eq_false (by omega), Bool.false_and, Bool.false_and, Bool.false_and] at q
      exact q
    · have lt : (bs.length : Int) < 20 := by
        rcases Int.lt_or_le (bs.length : Int) 20 with z | z
        · exact z
        · exact absurd (decide_eq_true z) e
      refine ⟨_, rfl, a, _, rfl, .inl hB.top, _, _, rfl, rfl, ?_⟩
      rw [List.length_map]
      refine ⟨_, rfl, a, rfl, ⟨_, hB.top⟩, fun D hD => lc_listM (K := K) (fun i => V.bl (group (bs.length + 1) (bs.getD i (0, [])).2)) hD hB.top (by rw [List.length_map]; omega) (fun i x H' R hx' sm kR => ?_) fun H' sm eD => ?_⟩
      · have il := (List.getElem?_eq_some_iff.mp hx').1
        rw [List.length_map] at il
        obtain rfl := at_map (d := (0, [])) hx'
        exact ⟨rfl, _, rfl, _, rfl, _, _, _, rfl, sm.seq (hB.at il), hz2 _ (mem_at il), fun H2 s2 => kR _ s2⟩
      · rw [List.length_map] at eD
        refine ⟨D, (List.range bs.length).map fun i => group (bs.length + 1) (bs.getD i (0, [])).2, rfl, SqL.of (by rw [eD, List.map_map]; rfl), ?_⟩
        rw [all_rng]
        refine ⟨_, rfl, ?_⟩
        have val : ∀ H2, Grows H H2 → Q (.bl (((List.range bs.length).all fun i => group (bs.length + 1) (bs.getD i (0, [])).2) && ascR (bs.map (·.2)) && !anyX (bs.map (·.2)))) H2 := fun H2 s2 => by
          have q := k H2 s2
          unfold isP at q
          simp only [List.length_map, snd_at] at q
          rw [decide_eq_true lt, Bool.true_and] at q
          exact q
        by_cases hg : ((List.range bs.length).all fun i => group (bs.length + 1) (bs.getD i (0, [])).2) = true
        · rw [hg] at val ⊢
          refine iteF ⟨_, rfl, a, bs, rfl, (hB.keep sm).top, (hB.keep sm).each, hz1, fun H2 s2 => ⟨_, rfl, ?_⟩⟩
          by_cases ha : ascR (bs.map (·.2)) = true
          · rw [if_pos ha]
            have hx : ∀ r ∈ bs.map (·.2), ∀ x ∈ r, 0 ≤ x ∧ x ≤ 1000 := fun r hr x hx => by
              obtain ⟨i, hi, e⟩ := List.getElem_of_mem hr
              rw [List.length_map] at hi
              have g := List.all_eq_true.mp hg i (List.mem_range.mpr hi)
              have e2 : (bs.getD i (0, [])).2 = r := by
                rw [← snd_at, List.getD_eq_getElem?_getD, List.getElem?_eq_getElem (by rw [List.length_map]; exact hi), e]
                rfl
              rw [e2] at g
              exact rows_in g (by omega) x hx
            refine ⟨_, rfl, a, bs, rfl, (hB.keep sm).keep s2, hz', hx, fun H3 s3 => ⟨_, rfl, ?_⟩⟩
            have q := val H3 ((sm.trans s2).trans s3)
            rw [ha, Bool.true_and, Bool.true_and] at q
            exact q
          · rw [if_neg ha]
            have q := val H2 (sm.trans s2)
            rw [Bool.eq_false_iff.mpr ha, Bool.true_and, Bool.false_and] at q
            exact q
        · have q := val H' sm
          rw [Bool.eq_false_iff.mpr hg] at q ⊢
          rw [Bool.false_and, Bool.false_and] at q
          exact iteT q
theorem ok_persons (Z : ProgF K mg) (T : TxtP mg) : FnOk P w K mg base CX0 6 Z.fPs Z.dPs ["parting"] (spPs K) := by
  have GIs : FnOk P w K mg base CX0 5 Z.fIs Z.dIs ["thing"] (spIs K) := ok_is Z T
  refine Z.FPs.ok scPersons (fun vs H Q E h => ?_) (fun cdv A outer s H vs Q E hr h => ?_)
  · obtain ⟨a, bs, rfl, _⟩ := h
    rfl
  · obtain ⟨a, bs, rfl, hB, hz, hp, k⟩ := h
    refine ⟨_, (pss_cons (ps_if (pt_not (pt_val (pe_call GIs (hr.mono (by decide)) rfl Z.gIs Z.FIs.kp Z.bIs .nil pass0 (pa_cons (pv 0) pa_nil)))) (pss_one ps_never) pss_nil)
      (pss_one (ps_ret (pe_op op_add (pe_callB call_len_seq (by rfl) T.len (by decide +kernel) (pa_cons (pv 0) pa_nil)) pe_int)))), ?_⟩
    refine ⟨_, rfl, a, bs, rfl, hB, hz, fun H2 s2 => ?_⟩
    rw [hp]
    refine ⟨_, rfl, iteF ⟨_, rfl, a, _, rfl, .inl (s2.seq hB.top), _, _, rfl, rfl, ?_⟩⟩
    rw [List.length_map]
    exact k H2 s2
end
end K03

namespace K03
open PySem PySem.Spec PyProof.Rows L2 SortR LcM
abbrev sCut : Stmt := top 18
def valOf : Stmt → Expr
  | .Assign _ v _ => v
  | _ => .Constant .none 0 ⟨0, 0, 0, 0⟩
def lcScope : Expr → Scope
  | .ListComp _ _ s _ => s
  | _ => defScope sCut
abbrev scMeet : Scope := lcScope (valOf ((defBody sCut).getD 2 (.Pass ⟨0, 0, 0, 0⟩)))
section
variable {P : Program} {w : World} {K : PySem.W.Frag} {mg : Str → Option Value} {base : Heap}
theorem scCut : FnScope ["parting", "some", "places", "place", "person", "meetings", "group", "kept", "meeting"] ["parting", "some"] (defScope sCut) := ⟨rfl, rfl, rfl, by decide +kernel, rfl, by decide +kernel, by decide +kernel⟩
def spCut (K : PySem.W.Frag) : Sp := fun vs H Q _ => ∃ (a b : Addr) (bs : List (Addr × List Int)) (ns : List Int), vs = [.ref a, .ref b] ∧ Rw K H a bs ∧ Sz (bs.map (·.2)) ∧ SqL K H b (ns.map V.int) ∧ ns.length ≤ 1000 ∧
  ∀ (p : Addr) (cs : List (Addr × List Int)) (H' : Hp), cs.map (·.2) = cutR (bs.map (·.2)) ns → Grows H H' → H p = none → Nw H H' cs → (∀ c ∈ cs, c.1 ≠ p) → H' p = some (.lst (cs.map fun c => V.ref c.1)) → Q (.ref p) H'
theorem none_back {H H' : Hp} {a : Addr} (s : Grows H H') (h : H' a = none) : H a = none := by
  rcases Option.eq_none_or_eq_some (H a) with z | ⟨o, z⟩
  · exact z
  · rw [s _ _ z] at h
    cases h
theorem nw_back {H0 H1 H : Hp} {cs : List (Addr × List Int)} (n : Nw H1 H cs) (s : Grows H0 H1) : Nw H0 H cs := ⟨n.lists, fun c m => none_back s (n.new c m), n.nodup⟩
theorem snd_of {cs : List (Addr × List Int)} {R : Nat → List Int} {n i : Nat} (e : cs.map (·.2) = (List.range n).map R) (hi : i < n) : (cs.getD i (0, [])).2 = R i := by
  rw [← snd_at, e, List.getD_eq_getElem?_getD, List.getElem?_map, List.getElem?_range hi]
  rfl
theorem ok_cut {f : Addr} {fd : FuncData} (F : Fun K "cut" "cut" sCut f fd) (T : TxtP mg) : FnOk P w K mg base CX0 1 f fd ["parting", "some"] (spCut K) := by
  refine F.ok scCut (fun vs H Q E h => ?_) (fun cdv A outer s H vs Q E hr h => ?_)
  · obtain ⟨a, b, bs, ns, rfl, _⟩ := h
    rfl
  · obtain ⟨a, b, bs, ns, rfl, hB, ⟨hz1, hz2⟩, hS, hn, k⟩ := h
    have hu := hu_of hr
    rw [List.length_map] at hz1
    refine ⟨_, (pss_cons (ps_set (i := 2) scCut.nd rfl (.inr rfl) (pe_dc (own := [("place", 3), ("person", 4)]) (g := gTup K 2 (gCons (gName 3) (gCons (gName 4) gNil))) (tt := tYes) rfl scCut.nd (pi_enum (by rfl) T.enumerate (pa_cons (pv 1) pa_nil)) (blkOk_by (own := [("place", 3), ("person", 4)]) (N := ["parting", "some", "places", "place", "person", "meetings", "group", "kept", "meeting"]) (sc := defScope sCut) (by decide +kernel)) (fun _ _ _ _ _ => pg_tup rfl (pgs_cons (pg_name (i := 3) scCut.nd rfl (Or.inl rfl)) (pgs_cons (pg_name (i := 4) scCut.nd rfl (Or.inl rfl)) pgs_nil))) (fun _ _ _ _ _ => pts_nil) (fun _ _ _ _ _ => pv 4) (fun _ _ _ _ _ => pv 3)))
      (pss_cons (ps_setLc (i := 5) (own := [("group", 6)]) (g := gName 6) (tt := tYes) rfl scCut.nd rfl rfl (sw_true rfl rfl rfl (by decide +kernel)) (pi_list (pv 0)) (blkOk_by (own := [("group", 6)]) (N := ["parting", "some", "places", "place", "person", "meetings", "group", "kept", "meeting"]) (sc := defScope sCut) (by decide +kernel)) (fun _ _ _ _ _ => pg_name (i := 6) scCut.nd rfl (Or.inl rfl)) (fun _ _ _ _ _ => pts_nil) (fun _ _ _ _ _ => (pe_lc (wi := iList K (tVar 6)) (own := [("person", 4)]) (g := gName 4) rfl scCut.nd (pi_list (pv 6)) (blkOk_by (own := [("person", 4)]) (N := ["parting", "some", "places", "place", "person", "meetings", "group", "kept", "meeting"]) (sc := { kind := .function, names := [(".0", .local), ("group", .local), ("places", .cell)], isGenerator := false, isCoroutine := false }) (by decide +kernel)) (fun _ _ _ _ _ => pg_name (i := 4) scCut.nd rfl (Or.inl rfl)) (fun _ _ _ _ _ => pts_one (pt_cmp (pc_din hu (pv 4) (pv 2)))) (fun _ _ _ _ _ => pe_dget hu (pv 2) (pv 4) (fun _ _ => rfl)))))
      (pss_cons (DcT.ps_setDcT (i := 7) (own := [("meeting", 8)]) (g := gName 8) (by exact hr.units) rfl scCut.nd rfl rfl (DcT.sw_dict rfl rfl rfl (by decide +kernel)) (pi_list (pv 5)) (blkOk_by (own := [("meeting", 8)]) (N := ["parting", "some", "places", "place", "person", "meetings", "group", "kept", "meeting"]) (sc := defScope sCut) (by decide +kernel)) (fun _ _ _ _ _ => pg_name (i := 8) scCut.nd rfl (Or.inl rfl)) (fun _ _ _ _ _ => pts_one (pt_cmpR op_ge (pe_callB (id := "len") (r := rLenS K) (by exact call_lenK) (by rfl) T.len (by decide +kernel) (pa_cons (pv 8) pa_nil)) pe_int (nomark _))) (fun _ _ _ _ _ => pe_callTy (T := "tuple") (r := rTup K) (by exact call_tupK) (by rfl) T.tuple (by decide +kernel) (pa_cons (pv 8) pa_nil)) (fun _ _ _ _ _ => pe_bl))
      (pss_one (ps_ret (pe_lc (own := [("meeting", 8)]) (g := gName 8) (tt := tYes) rfl scCut.nd (pi_list (pe_callB (call_sortedDT hr.units rfl) (by rfl) T.sorted (by decide +kernel) (pa_cons (pv 7) pa_nil))) (blkOk_by (own := [("meeting", 8)]) (N := ["parting", "some", "places", "place", "person", "meetings", "group", "kept", "meeting"]) (sc := defScope sCut) (by decide +kernel)) (fun _ _ _ _ _ => pg_name (i := 8) scCut.nd rfl (Or.inl rfl)) (fun _ _ _ _ _ => pts_nil) (fun _ _ _ _ _ => pe_callTy (T := "list") (r := rLst K) (by exact call_lstK) (by rfl) T.list (by decide +kernel) (pa_cons (pv 8) pa_nil)))))))), ?_⟩
    refine ⟨_, rfl, b, _, rfl, hS, fun D1 hD1 => dc_enumM (K := K) (fun i => Sum.inl (ns.getD i 0)) (fun i => V.int (i : Nat)) hD1 hS (by rw [List.length_map]; omega) (fun i x Tp H' R hx sm hT kR => ?_) fun H1 sm1 eP => ?_⟩
    · obtain rfl := at_map (d := 0) hx
      exact ⟨Tp, _, rfl, SqT.of upd_same, rfl, _, _, rfl, _, _, rfl, rfl, rfl, _, rfl, _, rfl, kR _ _ .refl .refl⟩
    rw [List.length_map] at eP
    have hB1 := hB.keep sm1
    refine ⟨_, rfl, a, rfl, ⟨_, hB1.top⟩, fun D2 hD2 => lc_listR (K := K) (fun i => meet ns (bs.getD i (0, [])).2) hD2 hB1.top (by rw [List.length_map]; omega) (fun i x H' Rk hx sm kR => ?_) fun H2 cs sm2 e2 nw2 apart2 top2 => ?_⟩
    · have il := (List.getElem?_eq_some_iff.mp hx).1
      rw [List.length_map] at il
      obtain rfl := at_map (d := (0, [])) hx
      have hr1 := (hB1.keep sm).at il
      have hrl := hz2 _ (mem_at il)
      generalize (bs.getD i (0, [])).2 = r at hr1 kR hrl
      refine ⟨rfl, _, rfl, _, rfl, ⟨_, hr1⟩, fun D3 hD3 => lc_listT (K := K) (fun j => (plc ns (r.getD j 0)).isSome) (fun j => V.int (((plc ns (r.getD j 0)).getD 0 : Nat) : Int)) hD3 hr1 ?_ (fun j y H2 Ry Rn hy sm2 ky kn => ?_) fun H3 sm3 eD3 => ?_⟩
      · rw [List.length_map]
        omega
      · obtain rfl := at_map (d := 0) hy
        have eP2 := sm2 _ _ (sm _ _ eP)
        have val : valV (laid (fun _ => true) (fun i => (Sum.inl (ns.getD i 0) : L2.Key)) (fun i => V.int (i : Nat)) ns.length) (Sum.inl (r.getD j 0)) = (plc ns (r.getD j 0)).map fun j => V.int (j : Nat) := valV_laid ns (r.getD j 0) ns.length
        refine ⟨rfl, _, rfl, _, rfl, D1, _, rfl, DGet.k (k := Sum.inl (r.getD j 0)) eP2, _, rfl, ?_⟩
        rw [val]
        cases e : plc ns (r.getD j 0) with
        | none =>
          rw [e] at kn
          exact iteF (kn rfl _ .refl)
        | some q =>
          rw [e] at ky
          rw [e] at val
          refine iteT ⟨_, rfl, _, rfl, D1, V.int (q : Nat), rfl, ?_, ky rfl _ .refl⟩
          have g := DGet.k (k := Sum.inl (r.getD j 0)) eP2
          rw [val] at g
          exact g
      · rw [List.length_map] at eD3
        refine kR D3 H3 sm3 hD3 ?_
        rw [eD3]
        unfold kept meet
        rw [List.map_map]
        rfl
    rw [List.length_map] at e2
    have csl : cs.length = bs.length := by
      have z := congrArg List.length e2
      rw [List.length_map, List.length_map, List.length_range] at z
      exact z
    refine ⟨_, rfl, D2, rfl, ⟨_, SqL.of top2⟩, fun D4 hD4 => dc_listTT (K := K) (fun i => two (meet ns (bs.getD i (0, [])).2)) (fun i => (meet ns (bs.getD i (0, [])).2).map Sum.inl) (fun _ => V.bl true) hD4 (SqL.of top2) (by rw [List.length_map]; omega) (fun i x H' R Rn hx sm kR kn => ?_) fun H3 sm3 eK => ?_⟩
    · have il := (List.getElem?_eq_some_iff.mp hx).1
      rw [List.length_map, csl] at il
      obtain rfl := at_map (d := (0, [])) hx
      have mem : cs.getD i (0, []) ∈ cs := by
        rw [List.getD_eq_getElem?_getD, List.getElem?_eq_getElem (by rw [csl]; exact il)]
        exact List.getElem_mem _
      have at_c := sm _ _ (nw2.lists _ mem)
      rw [snd_of e2 il] at at_c
      refine ⟨rfl, _, rfl, _, _, rfl, .inl (SqL.of at_c), _, _, rfl, rfl, _, rfl, ?_⟩
      rw [List.length_map]
      show if two (meet ns (bs.getD i (0, [])).2) = true then _ else _
      by_cases h2 : two (meet ns (bs.getD i (0, [])).2) = true
      · rw [if_pos h2]
        refine ⟨_, rfl, _, _, rfl, SqL.of at_c, fun t ht => kR h2 t _ (Grows.new ht) ?_⟩
        rw [upd_same, List.map_map]
        rfl
      · rw [if_neg h2]
        exact kn (Bool.eq_false_iff.mpr h2) _ .refl
    rw [List.length_map, csl] at eK
    refine ⟨_, rfl, D4, _, firsts (fun i => two (meet ns (bs.getD i (0, [])).2)) (fun i => meet ns (bs.getD i (0, [])).2) bs.length, rfl, eK, keys_laid _ _ _ _, fun q hq => ?_, fun as eas has q hq => ?_⟩
    · obtain ⟨i, _, h2, rfl⟩ := firsts_of _ _ _ q hq
      intro z
      unfold two at h2
      rw [z] at h2
      cases h2
    refine ⟨q, rfl, ⟨_, SqL.of upd_same⟩, fun D5 hD5 => lc_listR (K := K) (fun i => ((as.mergeSort rowLe).getD i (0, [])).2) hD5 (SqL.of upd_same) ?_ (fun i x H' Rk hx sm kR => ?_) fun H5 cs5 sm5 e5 nw5 apart5 top5 => ?_⟩
    · rw [List.length_map, List.length_mergeSort]
      have z := congrArg List.length eas
      rw [List.length_map] at z
      rw [z]
      have := firsts_le (fun i => two (meet ns (bs.getD i (0, [])).2)) (fun i => meet ns (bs.getD i (0, [])).2) bs.length
      omega
    · have il := (List.getElem?_eq_some_iff.mp hx).1
      rw [List.length_map] at il
      obtain rfl := at_map (d := (0, [])) hx
      have mem : (as.mergeSort rowLe).getD i (0, []) ∈ as := by
        rw [List.getD_eq_getElem?_getD, List.getElem?_eq_getElem il]
        exact List.mem_mergeSort.mp (List.getElem_mem il)
      have at_t := sm _ _ (Grows.new hq _ _ (has _ mem))
      exact ⟨rfl, _, rfl, _, _, rfl, .inr (SqT.of at_t), fun l hl => kR l _ (Grows.new hl) hl upd_same⟩
    · have g2 : Grows H H2 := sm1.trans sm2
      have g3 : Grows H H3 := g2.trans sm3
      have g4 : Grows H (upd H3 q (.lst ((as.mergeSort rowLe).map fun b => V.ref b.1))) := g3.trans (Grows.new hq)
      refine k D5 cs5 H5 ?_ (g4.trans sm5) (none_back g4 hD5) (nw_back nw5 g4) apart5 top5
      rw [e5, List.length_map]
      have er : (List.range (as.mergeSort rowLe).length).map (fun i => ((as.mergeSort rowLe).getD i (0, [])).2) = (as.mergeSort rowLe).map (·.2) := by
        refine List.ext_getElem (by rw [List.length_map, List.length_map, List.length_range]) fun j j1 j2 => ?_
        rw [List.length_map] at j2
        rw [List.getElem_map, List.getElem_map, List.getElem_range, List.getD_eq_getElem?_getD, List.getElem?_eq_getElem j2]
        rfl
      rw [er, sort_rows, eas]
      unfold cutR
      simp only [List.length_map, snd_at]
end
end K03

namespace K03
open PySem PySem.Spec PyProof.Rows L2 SortR LcM
abbrev sCutTo : Stmt := top (18 + 1)
def spCutTo (K : PySem.W.Frag) : Sp := fun vs H Q _ => ∃ (a b : Addr) (bs : List (Addr × List Int)) (ns : List Int), vs = [.ref a, .ref b] ∧ Rw K H a bs ∧ Sz (bs.map (·.2)) ∧ isP (bs.map (·.2)) = true ∧ SqL K H b (ns.map V.int) ∧ ns.length ≤ 1000 ∧ plist (bs.length + 1) ns = true ∧ ns ≠ [] ∧
  ∀ (p : Addr) (cs : List (Addr × List Int)) (H' : Hp), cs.map (·.2) = cutR (bs.map (·.2)) ns → Grows H H' → H p = none → Nw H H' cs → (∀ c ∈ cs, c.1 ≠ p) → H' p = some (.lst (cs.map fun c => V.ref c.1)) → Q (.ref p) H'
section
variable {P : Program} {w : World} {K : PySem.W.Frag} {mg : Str → Option Value} {base : Heap}
theorem scCutTo : FnScope ["parting", "some"] ["parting", "some"] (defScope sCutTo) := ⟨rfl, rfl, rfl, by decide +kernel, rfl, by decide +kernel, by decide +kernel⟩
theorem ok_cutTo {f fCut : Addr} {fd dCut : FuncData} (F : Fun K "cut_to" "cut_to" sCutTo f fd) (Z : ProgF K mg) (T : TxtP mg) (FCut : Fun K "cut" "cut" sCut fCut dCut) (gCut : mg "cut" = some (.ref fCut)) (bCut : Binds K dCut ["parting", "some"] []) : FnOk P w K mg base CX0 7 f fd ["parting", "some"] (spCutTo K) := by
  have GPL : FnOk P w K mg base CX0 3 Z.fPL Z.dPL ["thing", "persons"] (spPL K plist) := ok_plist Z T
  have GPs : FnOk P w K mg base CX0 6 Z.fPs Z.dPs ["parting"] (spPs K) := ok_persons Z T
  have GCut : FnOk P w K mg base CX0 1 fCut dCut ["parting", "some"] (spCut K) := ok_cut FCut T
  refine F.ok scCutTo (fun vs H Q E h => ?_) (fun cdv A outer s H vs Q E hr h => ?_)
  · obtain ⟨a, b, bs, ns, rfl, _⟩ := h
    rfl
  · obtain ⟨a, b, bs, ns, rfl, hB, hz, hp, hS, hn, hpl, hne, k⟩ := h
    refine ⟨_, (pss_cons (ps_if (PW.pt (pw_or (pt_not (pt_val (pe_call GPL (hr.mono (by decide)) rfl Z.gPL Z.FPL.kp Z.bPL .nil pass0 (pa_cons (pv 1) (pa_cons (pe_call GPs (hr.mono (by decide)) rfl Z.gPs Z.FPs.kp Z.bPs .nil pass0 (pa_cons (pv 0) pa_nil)) pa_nil))))) (pw_or1 (pt_cmpR (op_eqD hr.units) (pv 1) (pe_lst pa_nil) (nomark _))))) (pss_one ps_never) pss_nil)
      (pss_one (ps_ret (pe_call GCut (hr.mono (by decide)) rfl gCut FCut.kp bCut .nil pass0 (pa_cons (pv 0) (pa_cons (pv 1) pa_nil)))))), ?_⟩
    refine ⟨_, rfl, _, rfl, a, bs, rfl, hB, hz, hp, fun H1 s1 => ⟨b, _, ns, rfl, s1.seq hS, hn, fun H2 s2 => ?_⟩⟩
    rw [hpl]
    have s12 := s1.trans s2
    refine ⟨_, rfl, iteF ⟨_, rfl, (by show 0 ≤ sizeLine; decide), fun e he => ⟨PyData.list (ns.map .int), PyData.list (([] : List Int).map .int), .lst ((Grows.new he).seq (s12.seq hS)) (rows_dp ns), .lst (SqL.of upd_same) (rows_dp []), shaped_ints ns, shaped_ints [], _, rfl, ?_⟩⟩⟩
    rw [eqv_ints, decide_eq_false hne]
    have s3 := s12.trans (Grows.new (o := .lst []) he)
    refine iteF ⟨_, rfl, _, rfl, a, b, bs, ns, rfl, hB.keep s3, hz, s3.seq hS, hn, fun p cs H' e g h0 nw ap top => ?_⟩
    exact k p cs H' e (s3.trans g) (none_back s3 h0) (nw_back nw s3) ap top
end
end K03

namespace K03
open PySem PySem.Spec PyProof.Rows L2 SortR LcM
abbrev sFolk : Stmt := top (21 + 3)
/-- two halves, each of them parted again -/
inductive Nest where
  | leaf (i : Int)
  | node (l r : Nest)
def Nest.ht : Nest → Nat
  | .leaf _ => 0
  | .node l r => max l.ht r.ht + 1
def Nest.sz : Nest → Nat
  | .leaf _ => 1
  | .node l r => l.sz + r.sz
/-- all persons of it -/
def Nest.folk : Nest → List Int
  | .leaf i => [i]
  | .node l r => (l.folk ++ r.folk).mergeSort intLe
theorem Nest.folk_len : ∀ t : Nest, t.folk.length = t.sz
  | .leaf _ => rfl
  | .node l r => by
    show ((l.folk ++ r.folk).mergeSort intLe).length = l.sz + r.sz
    rw [List.length_mergeSort, List.length_append, Nest.folk_len l, Nest.folk_len r]
/-- a nest as it stands -/
inductive NV (K : PySem.W.Frag) (H : Hp) : V → Nest → Prop
  | leaf (i : Int) : NV K H (.int i) (.leaf i)
  | node {t : Addr} {x y : V} {l r : Nest} : H t = some (.tup [x, y]) → NV K H x l → NV K H y r → NV K H (.ref t) (.node l r)
theorem NV.keep {K : PySem.W.Frag} {H H' : Hp} {x : V} {t : Nest} (n : NV K H x t) (s : Grows H H') : NV K H' x t := by
  induction n with
  | leaf i => exact .leaf i
  | node h _ _ a b => exact .node (s _ _ h) a b
def spNo : Sp := fun _ _ _ _ => False
def spFolk (K : PySem.W.Frag) (d : Nat) : Sp := fun vs H Q _ => ∃ (x : V) (t : Nest), vs = [x] ∧ NV K H x t ∧ t.ht ≤ d ∧ t.sz ≤ 600000 ∧ ∀ (p : Addr) (H' : Hp), Grows H H' → H p = none → H' p = some (.lst (t.folk.map V.int)) → Q (.ref p) H'
section
variable {P : Program} {w : World} {K : PySem.W.Frag} {mg : Str → Option Value} {base : Heap}
theorem fn_no {f : Addr} {fd : FuncData} {ps : List Str} : FnOk P w K mg base CX0 1 f fd ps spNo := ⟨fun _ _ _ _ h => h.elim, fun _ _ _ _ _ _ _ _ _ _ _ _ _ h => h.elim⟩
theorem scFolk : FnScope ["nest"] ["nest"] (defScope sFolk) := ⟨rfl, rfl, rfl, by decide +kernel, rfl, by decide +kernel, by decide +kernel⟩
theorem folk_body {k d : Nat} {sp0 : Sp} {f : Addr} {fd : FuncData} (F : Fun K "_law_folk" "_law_folk" sFolk f fd) (T : TxtP mg) (gFolk : mg "_law_folk" = some (.ref f)) (bF : Binds K fd ["nest"] []) (G0 : FnOk P w K mg base CX0 k f fd ["nest"] sp0)
    (inner : ∀ (x : V) (t : Nest) (H : Hp) (Q : VK) (E : XK), NV K H x t → t.ht < d → t.sz ≤ 600000 → (∀ (p : Addr) (H' : Hp), Grows H H' → H p = none → H' p = some (.lst (t.folk.map V.int)) → Q (.ref p) H') → sp0 [x] H Q E) :
    FnOk P w K mg base CX0 (k + 1) f fd ["nest"] (spFolk K d) := by
  refine F.ok scFolk (fun vs H Q E h => ?_) (fun cdv A outer s H vs Q E hr h => ?_)
  · obtain ⟨x, t, rfl, _⟩ := h
    rfl
  · obtain ⟨x, t, rfl, nv, ht, hz, kq⟩ := h
    refine ⟨_, (pss_one (ps_ret (pe_ifExp (pt_val (pe_callB call_isi (by rfl) T.isi (by decide +kernel) (pa_cons (pv 0) (pa_cons (pe_bltn (v := .ty "int") (u := .type "int") (by rfl) T.int (by decide +kernel) rfl) pa_nil)))) (pe_lst (pa_cons (pv 0) pa_nil)) (pe_callB (call_sortedInts hr.units) (by rfl) T.sorted (by decide +kernel) (pa_cons (pe_op op_cat (pe_call G0 hr rfl gFolk F.kp bF .nil pass0 (pa_cons (pe_ix (r := rIxT K) ix_tup (pv 0) pe_int (fun _ _ => rfl)) pa_nil)) (pe_call G0 hr rfl gFolk F.kp bF .nil pass0 (pa_cons (pe_ix (r := rIxT K) ix_tup (pv 0) pe_int (fun _ _ => rfl)) pa_nil))) pa_nil))))), ?_⟩
    cases nv with
    | leaf i =>
      refine ⟨_, rfl, _, _, _, _, true, rfl, .ty "int", .base (.int i), kit_ty (by decide +kernel), true, rfl, iteT ⟨_, rfl, (by show 1 ≤ sizeLine; decide), fun l hl => ?_⟩⟩
      exact kq l _ (Grows.new hl) hl upd_same
    | @node t x y l r at_t nl nr =>
      have hlz : l.sz + r.sz ≤ 600000 := hz
      have hlh : max l.ht r.ht + 1 ≤ d := ht
      refine ⟨_, rfl, _, _, _, _, false, rfl, .ty "int", .base (.tup at_t), kit_ty (by decide +kernel), false, rfl, iteF ?_⟩
      refine ⟨_, rfl, t, _, 0, x, rfl, rfl, SqT.of at_t, rfl, inner x l H _ _ nl (by omega) (by omega) fun p1 H1 s1 n1 e1 => ?_⟩
      refine ⟨_, rfl, t, _, 1, y, rfl, rfl, SqT.of (s1 _ _ at_t), rfl, inner y r H1 _ _ (nr.keep s1) (by omega) (by omega) fun p2 H2 s2 n2 e2 => ?_⟩
      have len : (l.folk.map V.int).length + (r.folk.map V.int).length ≤ sizeLine := by
        rw [List.length_map, List.length_map, Nest.folk_len, Nest.folk_len]
        exact Nat.le_trans hlz (by decide)
      refine ⟨p1, p2, _, _, rfl, rfl, s2 _ _ e1, e2, len, fun p3 n3 => ⟨p3, l.folk ++ r.folk, rfl, SqL.of (by rw [upd_same, List.map_append]), fun p4 n4 => ?_⟩⟩
      have s12 := s1.trans s2
      have s3 := s12.trans (Grows.new (o := .lst (l.folk.map V.int ++ r.folk.map V.int)) n3)
      exact kq p4 _ (s3.trans (Grows.new n4)) (none_back s3 n4) upd_same
theorem ok_folk {f : Addr} {fd : FuncData} (F : Fun K "_law_folk" "_law_folk" sFolk f fd) (T : TxtP mg) (gFolk : mg "_law_folk" = some (.ref f)) (bF : Binds K fd ["nest"] []) : ∀ d, FnOk P w K mg base CX0 (d + 2) f fd ["nest"] (spFolk K d)
  | 0 => folk_body F T gFolk bF (fn_no (f := f) (fd := fd)) fun _ _ _ _ _ _ h _ _ => absurd h (Nat.not_lt_zero _)
  | d + 1 => folk_body F T gFolk bF (ok_folk F T gFolk bF d) fun x t H Q E nv h hz kq => ⟨x, t, rfl, nv, Nat.le_of_lt_succ h, hz, kq⟩
end
end K03

namespace K03
open PySem PySem.Spec PyProof.Rows L2 SortR LcM
abbrev sPut : Stmt := top (21 + 4)
/-- the least person -/
def Nest.mn : Nest → Int
  | .leaf i => i
  | .node l r => min l.mn r.mn
theorem Nest.mn_ok : ∀ t : Nest, t.mn ∈ t.folk ∧ ∀ y ∈ t.folk, t.mn ≤ y
  | .leaf i => ⟨List.mem_singleton.mpr rfl, fun y h => by rw [List.mem_singleton.mp h]; exact Int.le_refl _⟩
  | .node l r => by
    obtain ⟨l1, l2⟩ := Nest.mn_ok l
    obtain ⟨r1, r2⟩ := Nest.mn_ok r
    have mem : ∀ y, y ∈ (Nest.node l r).folk ↔ y ∈ l.folk ∨ y ∈ r.folk := fun y => List.mem_mergeSort.trans List.mem_append
    refine ⟨(mem _).mpr ?_, fun y hy => ?_⟩
    · show min l.mn r.mn ∈ l.folk ∨ min l.mn r.mn ∈ r.folk
      rcases Int.le_total l.mn r.mn with h | h
      · rw [Int.min_eq_left h]
        exact .inl l1
      · rw [Int.min_eq_right h]
        exact .inr r1
    · show min l.mn r.mn ≤ y
      rcases (mem y).mp hy with h | h
      · have := l2 y h
        omega
      · have := r2 y h
        omega
theorem Nest.mn_eq {t : Nest} {m : Int} (h : m ∈ t.folk) (k : ∀ y ∈ t.folk, m ≤ y) : m = t.mn := by
  obtain ⟨a, b⟩ := t.mn_ok
  exact Int.le_antisymm (k _ a) (b _ h)
/-- with a newcomer, beside a person or around the group with a maker -/
def Nest.put (item fresh : Int) : Nest → Nest
  | .leaf i => if i = item then .node (.leaf i) (.leaf fresh) else .leaf i
  | .node l r => if max l.mn r.mn = 0 - item then .node (.node l r) (.leaf fresh) else .node (l.put item fresh) (r.put item fresh)
def spPut (K : PySem.W.Frag) (d : Nat) : Sp := fun vs H Q _ => ∃ (x : V) (item fresh : Int) (t : Nest), vs = [x, .int item, .int fresh] ∧ NV K H x t ∧ t.ht ≤ d ∧ t.sz ≤ 600000 ∧ ∀ (y : V) (H' : Hp), Grows H H' → NV K H' y (t.put item fresh) → Q y H'
theorem NV.free {K : PySem.W.Frag} {H : Hp} {x : V} {t : Nest} (n : NV K H x t) {D : Addr} {zs : List V} (h : H D = some (.lst zs)) (u : HO) : NV K (upd H D u) x t := by
  induction n with
  | leaf i => exact .leaf i
  | node e _ _ a b =>
    refine .node ?_ a b
    rw [upd_ne (ne_of e h fun z => nomatch z)]
    exact e
section
variable {P : Program} {w : World} {K : PySem.W.Frag} {mg : Str → Option Value} {base : Heap}
theorem scPut : FnScope ["nest", "item", "fresh", "half"] ["nest", "item", "fresh"] (defScope sPut) := ⟨rfl, rfl, rfl, by decide +kernel, rfl, by decide +kernel, by decide +kernel⟩
theorem put_body {k d : Nat} {sp0 : Sp} {f fF : Addr} {fd dF : FuncData} (F : Fun K "_law_put" "_law_put" sPut f fd) (T : TxtP mg) (T0 : Txt0 mg) (gPut : mg "_law_put" = some (.ref f)) (bF : Binds K fd ["nest", "item", "fresh"] []) (FF : Fun K "_law_folk" "_law_folk" sFolk fF dF) (gFolk : mg "_law_folk" = some (.ref fF)) (bFF : Binds K dF ["nest"] [])
    (hk : d + 2 ≤ k) (G0 : FnOk P w K mg base CX0 k f fd ["nest", "item", "fresh"] sp0)
    (inner : ∀ (x : V) (item fresh : Int) (t : Nest) (H : Hp) (Q : VK) (E : XK), NV K H x t → t.ht < d → t.sz ≤ 600000 → (∀ (y : V) (H' : Hp), Grows H H' → NV K H' y (t.put item fresh) → Q y H') → sp0 [x, .int item, .int fresh] H Q E) :
    FnOk P w K mg base CX0 (k + 1) f fd ["nest", "item", "fresh"] (spPut K d) := by
  have GF : FnOk P w K mg base CX0 (d + 2) fF dF ["nest"] (spFolk K d) := ok_folk FF T gFolk bFF d
  refine F.ok scPut (fun vs H Q E h => ?_) (fun cdv A outer s H vs Q E hr h => ?_)
  · obtain ⟨x, i, j, t, rfl, _⟩ := h
    rfl
  · obtain ⟨x, item, fresh, t, rfl, nv, ht, hz, kq⟩ := h
    refine ⟨_, (pss_cons (ps_if (pt_val (pe_callB call_isi (by rfl) T.isi (by decide +kernel) (pa_cons (pv 0) (pa_cons (pe_bltn (v := .ty "int") (u := .type "int") (by rfl) T.int (by decide +kernel) rfl) pa_nil)))) (pss_one (ps_ret (pe_ifExp (pt_cmpR op_eq (pv 0) (pv 1) (nomark _)) (pe_tup (pa_cons (pv 0) (pa_cons (pv 2) pa_nil))) (pv 0)))) pss_nil)
      (pss_cons (ps_if (pt_cmpR op_eq (pe_callB (cr_max rfl) (by rfl) T0.max (by decide +kernel) (pa_cons (pe_lc (own := [("half", 3)]) (g := gName 3) (tt := tYes) rfl scPut.nd (pi_tup (pv 0)) (blkOk_by (own := [("half", 3)]) (N := ["nest", "item", "fresh", "half"]) (sc := defScope sPut) (by decide +kernel)) (fun _ _ _ _ _ => pg_name (i := 3) scPut.nd rfl (Or.inl rfl)) (fun _ _ _ _ _ => pts_nil) (fun _ _ _ _ _ => (pe_callB (id := "min") (r := rMin K) (by exact cr_min rfl) (by rfl) T0.min (by decide +kernel) (pa_cons (pe_call GF (hr.mono hk) rfl gFolk FF.kp bFF .nil pass0 (pa_cons (pv 3) pa_nil)) pa_nil)))) pa_nil)) (pe_op op_sub pe_int (pv 1)) (nomark _)) (pss_one (ps_ret (pe_tup (pa_cons (pv 0) (pa_cons (pv 2) pa_nil))))) pss_nil)
      (pss_one (ps_ret (pe_callTy call_tuple_of (by rfl) T.tuple (by decide +kernel) (pa_cons (pe_lc (own := [("half", 3)]) (g := gName 3) (tt := tYes) rfl scPut.nd (pi_tup (pv 0)) (blkOk_by (own := [("half", 3)]) (N := ["nest", "item", "fresh", "half"]) (sc := defScope sPut) (by decide +kernel)) (fun _ _ _ _ _ => pg_name (i := 3) scPut.nd rfl (Or.inl rfl)) (fun _ _ _ _ _ => pts_nil) (fun _ _ _ _ _ => (pe_call G0 hr rfl gPut F.kp bF .nil pass0 (pa_cons (pv 3) (pa_cons (pv 1) (pa_cons (pv 2) pa_nil)))))) pa_nil)))))), ?_⟩
    cases nv with
    | leaf i =>
      refine ⟨_, rfl, _, _, _, _, true, rfl, .ty "int", .base (.int i), kit_ty (by decide +kernel), true, rfl, iteT ⟨_, rfl, _, rfl, rfl, _, rfl, ?_⟩⟩
      refine ite2 (fun e => ?_) (fun e => ?_)
      · have e' : i = item := by simpa using e
        refine ⟨_, rfl, _, rfl, (by show 2 ≤ sizeLine; decide), fun t ht => kq (.ref t) _ (Grows.new ht) ?_⟩
        show NV K _ _ (if i = item then _ else _)
        rw [if_pos e']
        exact .node upd_same (.leaf i) (.leaf fresh)
      · have e' : ¬ i = item := by simpa using e
        refine ⟨_, rfl, kq (.int i) H .refl ?_⟩
        show NV K _ _ (if i = item then _ else _)
        rw [if_neg e']
        exact .leaf i
    | @node t x y l r at_t nl nr =>
      have hlz : l.sz + r.sz ≤ 600000 := hz
      have hlh : max l.ht r.ht + 1 ≤ d := ht
      let hv : Nat → Nest := fun j => if j = 0 then l else r
      have half : ∀ (i : Nat) (z : V) (H' : Hp), [x, y][i]? = some z → Grows H H' → NV K H' z (hv i) ∧ (hv i).ht < d ∧ (hv i).sz ≤ 600000 := fun i z H' e s => by
        match i, e with
        | 0, e =>
          obtain rfl : x = z := Option.some.inj e
          exact ⟨nl.keep s, (show l.ht < d by omega), (show l.sz ≤ 600000 by omega)⟩
        | 1, e =>
          obtain rfl : y = z := Option.some.inj e
          exact ⟨nr.keep s, (show r.ht < d by omega), (show r.sz ≤ 600000 by omega)⟩
      refine ⟨_, rfl, _, _, _, _, false, rfl, .ty "int", .base (.tup at_t), kit_ty (by decide +kernel), false, rfl, iteF ?_⟩
      refine ⟨_, rfl, t, rfl, ⟨_, SqT.of at_t⟩, fun D hD => lc_tupX (K := K) (fun j z _ => z = .int (hv j).mn) (fun _ _ _ _ _ h => h) (fun _ _ _ _ h _ _ => h) hD (SqT.of at_t) (by show 2 ≤ 1000000; decide) (fun i z H' Rk ez sm _ kR => ?_) fun H1 ys m => ?_⟩
      · obtain ⟨n1, n2, n3⟩ := half i z H' ez sm
        refine ⟨rfl, _, rfl, z, hv i, rfl, n1, Nat.le_of_lt n2, n3, fun p H2 s2 _ e2 => ⟨p, (hv i).folk, rfl, SqL.of e2, ?_, fun m hm hle => kR (.int m) H2 s2 (by rw [Nest.mn_eq hm hle])⟩⟩
        exact List.length_pos_of_mem (hv i).mn_ok.1
      · have two : ys = [.int l.mn, .int r.mn] := by
          have len : ys.length = 2 := m.len
          match ys, len, m.rel with
          | [u, v], _, rel =>
            have a := rel 0 u rfl
            have b := rel 1 v rfl
            rw [a, b]
            rfl
        have top := m.top
        rw [two] at top
        refine ⟨D, [l.mn, r.mn], rfl, SqL.of top, (by show 0 < 2; decide), fun mx hmx hge => ⟨_, rfl, _, _, rfl, rfl, rfl, _, rfl, ?_⟩⟩
        have emx : mx = max l.mn r.mn := by
          have g1 := hge l.mn (List.mem_cons_self)
          have g2 := hge r.mn (List.mem_cons_of_mem _ List.mem_cons_self)
          have g3 : mx = l.mn ∨ mx = r.mn := by simpa using hmx
          omega
        have s1 := m.grow
        refine ite2 (fun e => ?_) (fun e => ?_)
        · have e' : max l.mn r.mn = 0 - item := by
            rw [← emx]
            simpa using e
          refine ⟨_, rfl, _, rfl, (by show 2 ≤ sizeLine; decide), fun q hq => kq (.ref q) _ (s1.trans (Grows.new hq)) ?_⟩
          show NV K _ _ (if max l.mn r.mn = 0 - item then _ else _)
          rw [if_pos e']
          have s2 : Grows H (upd H1 q (.tup [.ref t, .int fresh])) := s1.trans (Grows.new hq)
          exact .node upd_same (.node (s2 _ _ at_t) (nl.keep s2) (nr.keep s2)) (.leaf fresh)
        · have e' : ¬ max l.mn r.mn = 0 - item := by
            rw [← emx]
            simpa using e
          refine ⟨_, rfl, t, rfl, ⟨_, SqT.of (s1 _ _ at_t)⟩, fun D2 hD2 => lc_tupX (K := K) (fun j z G => NV K G z ((hv j).put item fresh)) (fun _ _ _ _ s h => h.keep s) (fun _ _ _ _ h e u => h.free e u) hD2 (SqT.of (s1 _ _ at_t)) (by show 2 ≤ 1000000; decide) (fun i z H' Rk ez sm _ kR => ?_) fun H2 ys2 m2 => ?_⟩
          · obtain ⟨n1, n2, n3⟩ := half i z H' ez (s1.trans sm)
            exact ⟨rfl, _, rfl, _, rfl, _, rfl, inner z item fresh (hv i) H' _ _ n1 n2 n3 fun y' H3 s3 nv3 => kR y' H3 s3 nv3⟩
          · have len2 : ys2.length = 2 := m2.len
            refine ⟨D2, ys2, rfl, .inl ⟨SqL.of m2.top, fun q hq => kq (.ref q) _ ((s1.trans m2.grow).trans (Grows.new hq)) ?_⟩⟩
            show NV K _ _ (if max l.mn r.mn = 0 - item then _ else _)
            rw [if_neg e']
            match ys2, len2, m2.rel, hq with
            | [u, v], _, rel, hq => exact .node upd_same ((rel 0 u rfl).keep (Grows.new hq)) ((rel 1 v rfl).keep (Grows.new hq))
theorem ok_put {f fF : Addr} {fd dF : FuncData} (F : Fun K "_law_put" "_law_put" sPut f fd) (T : TxtP mg) (T0 : Txt0 mg) (gPut : mg "_law_put" = some (.ref f)) (bF : Binds K fd ["nest", "item", "fresh"] []) (FF : Fun K "_law_folk" "_law_folk" sFolk fF dF) (gFolk : mg "_law_folk" = some (.ref fF)) (bFF : Binds K dF ["nest"] []) : ∀ d, FnOk P w K mg base CX0 (d + 3) f fd ["nest", "item", "fresh"] (spPut K d)
  | 0 => put_body F T T0 gPut bF FF gFolk bFF (Nat.le_refl _) ((fn_no (f := f) (fd := fd)).mono (by decide)) fun _ _ _ _ _ _ _ _ h _ _ => absurd h (Nat.not_lt_zero _)
  | d + 1 => put_body F T T0 gPut bF FF gFolk bFF (Nat.le_refl _) (ok_put F T T0 gPut bF FF gFolk bFF d) fun x i j t H Q E nv h hz kq => ⟨x, i, j, t, rfl, nv, Nat.le_of_lt_succ h, hz, kq⟩
end
end K03

namespace K03
open PySem PySem.Spec PyProof.Rows L2 SortR LcM
abbrev sNest : Stmt := top (21 + 5)
abbrev sLots : Stmt := top (21 + 6)
theorem Nest.put_ht (i j : Int) : ∀ t : Nest, (t.put i j).ht ≤ t.ht + 1
  | .leaf k => by
    unfold Nest.put
    split
    · show max (0 : Nat) 0 + 1 ≤ 0 + 1
      omega
    · exact Nat.zero_le _
  | .node l r => by
    have a := Nest.put_ht i j l
    have b := Nest.put_ht i j r
    unfold Nest.put
    split
    · show max (max l.ht r.ht + 1) 0 + 1 ≤ max l.ht r.ht + 1 + 1
      omega
    · show max (l.put i j).ht (r.put i j).ht + 1 ≤ max l.ht r.ht + 1 + 1
      omega
theorem Nest.sz_pos : ∀ t : Nest, 1 ≤ t.sz
  | .leaf _ => Nat.le_refl _
  | .node l r => by
    have := Nest.sz_pos l
    show 1 ≤ l.sz + r.sz
    omega
theorem Nest.put_sz (i j : Int) : ∀ t : Nest, (t.put i j).sz ≤ 2 * t.sz
  | .leaf k => by
    unfold Nest.put
    split
    · exact Nat.le_refl _
    · show 1 ≤ 2 * 1
      decide
  | .node l r => by
    have a := Nest.put_sz i j l
    have b := Nest.put_sz i j r
    have c := Nest.sz_pos l
    have d := Nest.sz_pos r
    unfold Nest.put
    split
    · show l.sz + r.sz + 1 ≤ 2 * (l.sz + r.sz)
      omega
    · show (l.put i j).sz + (r.put i j).sz ≤ 2 * (l.sz + r.sz)
      omega
/-- the first n newcomers come -/
def nestN (is : List Int) : Nat → Nest
  | 0 => .leaf 0
  | n + 1 => (nestN is n).put (is.getD n 0) (n + 1)
theorem nestN_ht (is : List Int) : ∀ n, (nestN is n).ht ≤ n
  | 0 => Nat.le_refl _
  | n + 1 => Nat.le_trans (Nest.put_ht _ _ _) (Nat.succ_le_succ (nestN_ht is n))
theorem nestN_sz (is : List Int) : ∀ n, (nestN is n).sz ≤ 2 ^ n
  | 0 => Nat.le_refl _
  | n + 1 => by
    have := nestN_sz is n
    have := Nest.put_sz (is.getD n 0) (n + 1) (nestN is n)
    show ((nestN is n).put (is.getD n 0) (n + 1)).sz ≤ 2 ^ (n + 1)
    rw [Nat.pow_succ]
    omega
def spNest (K : PySem.W.Frag) : Sp := fun vs H Q _ => ∃ (a : Addr) (is : List Int), vs = [.ref a] ∧ SqL K H a (is.map V.int) ∧ is.length ≤ 19 ∧ ∀ (y : V) (H' : Hp), Grows H H' → NV K H' y (nestN is is.length) → Q y H'
/-- all groups of two persons or more -/
def Nest.lots : Nest → List (List Int)
  | .leaf _ => []
  | .node l r => ((Nest.node l r).folk :: (l.lots ++ r.lots)).mergeSort fun p q => decide (p ≤ q)
theorem Nest.lots_len : ∀ t : Nest, t.lots.length + 1 = t.sz
  | .leaf _ => rfl
  | .node l r => by
    have a := Nest.lots_len l
    have b := Nest.lots_len r
    show (((Nest.node l r).folk :: (l.lots ++ r.lots)).mergeSort _).length + 1 = l.sz + r.sz
    rw [List.length_mergeSort, List.length_cons, List.length_append]
    omega
def spLots (K : PySem.W.Frag) (d : Nat) : Sp := fun vs H Q _ => ∃ (x : V) (t : Nest), vs = [x] ∧ NV K H x t ∧ t.ht ≤ d ∧ t.sz ≤ 600000 ∧
  ∀ (p : Addr) (cs : List (Addr × List Int)) (H' : Hp), cs.map (·.2) = t.lots → Grows H H' → H p = none → Nw H H' cs → (∀ c ∈ cs, c.1 ≠ p) → H' p = some (.lst (cs.map fun c => V.ref c.1)) → Q (.ref p) H'
section
variable {P : Program} {w : World} {K : PySem.W.Frag} {mg : Str → Option Value} {base : Heap}
theorem scNest : FnScope ["items", "nest", "spot", "item"] ["items"] (defScope sNest) := ⟨rfl, rfl, rfl, by decide +kernel, rfl, by decide +kernel, by decide +kernel⟩
theorem scLots : FnScope ["nest"] ["nest"] (defScope sLots) := ⟨rfl, rfl, rfl, by decide +kernel, rfl, by decide +kernel, by decide +kernel⟩
theorem ok_nest {f fP : Addr} {fd dP : FuncData} (F : Fun K "_law_nest" "_law_nest" sNest f fd) (T : TxtP mg) (gPut : mg "_law_put" = some (.ref fP)) (FP : Fun K "_law_put" "_law_put" sPut fP dP) (bFP : Binds K dP ["nest", "item", "fresh"] [])
    (GP : FnOk P w K mg base CX0 22 fP dP ["nest", "item", "fresh"] (spPut K 19)) : FnOk P w K mg base CX0 23 f fd ["items"] (spNest K) := by
  refine F.ok scNest (fun vs H Q E h => ?_) (fun cdv A outer s H vs Q E hr h => ?_)
  · obtain ⟨a, is, rfl, _⟩ := h
    rfl
  · obtain ⟨a, is, rfl, hS, hn, kq⟩ := h
    refine ⟨_, (pss_cons (ps_set (i := 1) scNest.nd rfl (.inl rfl) pe_int)
      (pss_cons (ps_for PassesOwn.never rfl (pi_enum (by rfl) T.enumerate (pa_cons (pv 0) pa_nil)) (pg_tup (by rfl) (pgs_cons (pg_name (i := 2) scNest.nd rfl (.inl rfl)) (pgs_cons (pg_name (i := 3) scNest.nd rfl (.inl rfl)) pgs_nil)))
      (pss_one (ps_set (i := 1) scNest.nd rfl (.inl rfl) (pe_call GP (hr.mono (by decide)) rfl gPut FP.kp bFP .nil pass0 (pa_cons (pv 1) (pa_cons (pv 3) (pa_cons (pe_op op_add (pv 2) pe_int) pa_nil)))))))
      (pss_one (ps_ret (pv 1))))), ?_⟩
    refine ⟨_, rfl, a, _, rfl, hS, for_enumL (K := K) (xs := is.map V.int) (fun i σ H' => ∃ (y : V) (o1 o2 : Option V), σ = [some (.ref a), some y, o1, o2] ∧ Grows H H' ∧ NV K H' y (nestN is i)) ⟨.int 0, none, none, rfl, .refl, .leaf 0⟩ (fun i σ H' ⟨_, _, _, _, s, _⟩ => s.seq hS) (fun i x Tp σ H' hx ⟨y, o1, o2, e, s, nv⟩ hT => ?_) fun σ H' ⟨y, o1, o2, e, s, nv⟩ => ?_⟩
    · subst e
      have il := (List.getElem?_eq_some_iff.mp hx).1
      rw [List.length_map] at il
      obtain rfl := at_map (d := 0) hx
      have h1 := nestN_ht is i
      have h2 := nestN_sz is i
      have h3 : (2 : Nat) ^ i ≤ 2 ^ 19 := Nat.pow_le_pow_right (by decide) (by omega)
      have h4 : (2 : Nat) ^ 19 = 524288 := by decide
      refine ⟨Tp, _, rfl, SqT.of upd_same, rfl, _, _, rfl, _, _, rfl, rfl, _, rfl, _, rfl, _, rfl, _, _, rfl, rfl, y, _, _, nestN is i, rfl, nv.keep (Grows.new hT), by omega, by omega, fun z H2 s2 nv2 => ?_⟩
      exact ⟨z, _, _, rfl, (s.trans (Grows.new hT)).trans s2, nv2⟩
    · subst e
      rw [List.length_map] at nv
      exact ⟨_, rfl, kq y H' s nv⟩
end
end K03

namespace K03
open PySem PySem.Spec PyProof.Rows L2 SortR LcM
section
variable {P : Program} {w : World} {K : PySem.W.Frag} {mg : Str → Option Value} {base : Heap}
theorem lots_body {k d : Nat} {sp0 : Sp} {f fF : Addr} {fd dF : FuncData} (F : Fun K "_law_lots" "_law_lots" sLots f fd) (T : TxtP mg) (gLots : mg "_law_lots" = some (.ref f)) (bF : Binds K fd ["nest"] []) (FF : Fun K "_law_folk" "_law_folk" sFolk fF dF) (gFolk : mg "_law_folk" = some (.ref fF)) (bFF : Binds K dF ["nest"] [])
    (hk : d + 2 ≤ k) (G0 : FnOk P w K mg base CX0 k f fd ["nest"] sp0)
    (inner : ∀ (x : V) (t : Nest) (H : Hp) (Q : VK) (E : XK), NV K H x t → t.ht < d → t.sz ≤ 600000 → (∀ (p : Addr) (cs : List (Addr × List Int)) (H' : Hp), cs.map (·.2) = t.lots → Grows H H' → H p = none → Nw H H' cs → (∀ c ∈ cs, c.1 ≠ p) → H' p = some (.lst (cs.map fun c => V.ref c.1)) → Q (.ref p) H') → sp0 [x] H Q E) :
    FnOk P w K mg base CX0 (k + 1) f fd ["nest"] (spLots K d) := by
  have GF : FnOk P w K mg base CX0 (d + 2) fF dF ["nest"] (spFolk K d) := ok_folk FF T gFolk bFF d
  refine F.ok scLots (fun vs H Q E h => ?_) (fun cdv A outer s H vs Q E hr h => ?_)
  · obtain ⟨x, t, rfl, _⟩ := h
    rfl
  · obtain ⟨x, t, rfl, nv, ht, hz, kq⟩ := h
    refine ⟨_, (pss_cons (ps_if (pt_val (pe_callB call_isi (by rfl) T.isi (by decide +kernel) (pa_cons (pv 0) (pa_cons (pe_bltn (v := .ty "int") (u := .type "int") (by rfl) T.int (by decide +kernel) rfl) pa_nil)))) (pss_one (ps_ret (pe_lst pa_nil))) pss_nil)
      (pss_one (ps_ret (pe_callB (call_sortedR hr.units) (by rfl) T.sorted (by decide +kernel) (pa_cons (pe_op op_cat (pe_op op_cat (pe_lst (pa_cons (pe_call GF (hr.mono hk) rfl gFolk FF.kp bFF .nil pass0 (pa_cons (pv 0) pa_nil)) pa_nil)) (pe_call G0 hr rfl gLots F.kp bF .nil pass0 (pa_cons (pe_ix (r := rIxT K) ix_tup (pv 0) pe_int (fun _ _ => rfl)) pa_nil))) (pe_call G0 hr rfl gLots F.kp bF .nil pass0 (pa_cons (pe_ix (r := rIxT K) ix_tup (pv 0) pe_int (fun _ _ => rfl)) pa_nil))) pa_nil))))), ?_⟩
    cases nv with
    | leaf i =>
      refine ⟨_, rfl, _, _, _, _, true, rfl, .ty "int", .base (.int i), kit_ty (by decide +kernel), true, rfl, iteT ⟨(by show 0 ≤ sizeLine; decide), fun l hl => ?_⟩⟩
      exact kq l [] _ rfl (Grows.new hl) hl ⟨(fun _ m => nomatch m), (fun _ m => nomatch m), List.Pairwise.nil⟩ (fun _ m => nomatch m) upd_same
    | @node t x y l r at_t nl nr =>
      have hlz : l.sz + r.sz ≤ 600000 := hz
      have hlh : max l.ht r.ht + 1 ≤ d := ht
      have zl := l.lots_len
      have zr := r.lots_len
      refine ⟨_, rfl, _, _, _, _, false, rfl, .ty "int", .base (.tup at_t), kit_ty (by decide +kernel), false, rfl, iteF ?_⟩
      refine ⟨_, rfl, .ref t, .node l r, rfl, .node at_t nl nr, ht, hz, fun pF H1 s1 n1 e1 => ⟨(by show 1 ≤ sizeLine; decide), fun L1 nL1 => ?_⟩⟩
      have g1 : Grows H (upd H1 L1 (.lst [.ref pF])) := s1.trans (Grows.new nL1)
      refine ⟨_, rfl, t, _, 0, x, rfl, rfl, SqT.of (g1 _ _ at_t), rfl, inner x l _ _ _ (nl.keep g1) (by omega) (by omega) fun p1 cs1 H2 m2 s2 n2 nw2 ap2 top2 => ?_⟩
      have len1 : cs1.length = l.lots.length := by rw [← m2, List.length_map]
      refine ⟨L1, p1, _, _, rfl, rfl, s2 _ _ upd_same, top2, ?_, fun L2 nL2 => ?_⟩
      · rw [List.length_map, len1]
        have : (600001 : Nat) ≤ sizeLine := by decide
        show 1 + _ ≤ sizeLine
        omega
      have g2 : Grows H (upd H2 L2 (.lst ([V.ref pF] ++ cs1.map fun c => V.ref c.1))) := (g1.trans s2).trans (Grows.new nL2)
      refine ⟨_, rfl, t, _, 1, y, rfl, rfl, SqT.of (g2 _ _ at_t), rfl, inner y r _ _ _ (nr.keep g2) (by omega) (by omega) fun p3 cs3 H3 m3 s3 n3 nw3 ap3 top3 => ?_⟩
      have len3 : cs3.length = r.lots.length := by rw [← m3, List.length_map]
      refine ⟨L2, p3, _, _, rfl, rfl, s3 _ _ upd_same, top3, ?_, fun L4 nL4 => ?_⟩
      · rw [List.length_append, List.length_map, List.length_map, len1, len3]
        have : (600001 : Nat) ≤ sizeLine := by decide
        show 1 + _ + _ ≤ sizeLine
        omega
      obtain ⟨G, eG⟩ : ∃ G, G = upd H3 L4 (.lst (([V.ref pF] ++ cs1.map fun c => V.ref c.1) ++ cs3.map fun c => V.ref c.1)) := ⟨_, rfl⟩
      rw [← eG]
      have s4 : Grows H3 G := eG ▸ Grows.new nL4
      obtain ⟨bs, ebs⟩ : ∃ bs : List (Addr × List Int), bs = (pF, (Nest.node l r).folk) :: (cs1 ++ cs3) := ⟨_, rfl⟩
      have c1H2 : Grows (upd H1 L1 (.lst [.ref pF])) H2 := s2
      have toG2 : Grows H2 G := ((Grows.new nL2).trans s3).trans s4
      have pF_at : (upd H1 L1 (.lst [.ref pF])) pF = some (.lst ((Nest.node l r).folk.map V.int)) := Grows.new nL1 _ _ e1
      have each : ∀ b ∈ bs, G b.1 = some (.lst (b.2.map V.int)) := fun b m => by
        rw [ebs] at m
        rcases List.mem_cons.mp m with z | z
        · rw [z]
          exact toG2 _ _ (s2 _ _ pF_at)
        · rcases List.mem_append.mp z with z | z
          · exact toG2 _ _ (nw2.lists b z)
          · exact s4 _ _ (nw3.lists b z)
      have fresh : ∀ b ∈ bs, H b.1 = none := fun b m => by
        rw [ebs] at m
        rcases List.mem_cons.mp m with z | z
        · rw [z]
          exact n1
        · rcases List.mem_append.mp z with z | z
          · exact none_back g1 (nw2.new b z)
          · exact none_back g2 (nw3.new b z)
      have nod : (bs.map (·.1)).Nodup := by
        rw [ebs, List.map_cons, List.map_append]
        refine List.nodup_cons.mpr ⟨fun z => ?_, List.nodup_append.mpr ⟨nw2.nodup, nw3.nodup, fun a ma b mb => ?_⟩⟩
        · rcases List.mem_append.mp z with z | z
          · obtain ⟨c, mc, e⟩ := List.mem_map.mp z
            exact ne_of_none pF_at (nw2.new c mc) e.symm
          · obtain ⟨c, mc, e⟩ := List.mem_map.mp z
            exact ne_of_none (Grows.new nL2 _ _ (s2 _ _ pF_at)) (nw3.new c mc) e.symm
        · obtain ⟨c, mc, rfl⟩ := List.mem_map.mp ma
          obtain ⟨c', mc', rfl⟩ := List.mem_map.mp mb
          exact ne_of_none (Grows.new nL2 _ _ (nw2.lists c mc)) (nw3.new c' mc')
      have topG : G L4 = some (.lst (bs.map fun b => V.ref b.1)) := by
        rw [eG, upd_same, ebs, List.map_cons, List.map_append]
        rfl
      refine ⟨L4, bs, rfl, SqL.of topG, fun b m => SqL.of (each b m), fun p np => ?_⟩
      have mem : ∀ b, b ∈ bs.mergeSort rowLe → b ∈ bs := fun b m => List.mem_mergeSort.mp m
      have gG : Grows H G := (g2.trans s3).trans s4
      refine kq p (bs.mergeSort rowLe) _ ?_ (gG.trans (Grows.new np)) (none_back gG np) ⟨fun b m => ?_, fun b m => fresh b (mem b m), ?_⟩ (fun b m e => ?_) upd_same
      · rw [sort_rows, ebs, List.map_cons, List.map_append, m2, m3]
        rfl
      · exact Grows.new np _ _ (each b (mem b m))
      · exact (((List.mergeSort_perm bs rowLe).map (·.1)).nodup_iff).mpr nod
      · have z := each b (mem b m)
        rw [e, np] at z
        cases z
theorem ok_lots {f fF : Addr} {fd dF : FuncData} (F : Fun K "_law_lots" "_law_lots" sLots f fd) (T : TxtP mg) (gLots : mg "_law_lots" = some (.ref f)) (bF : Binds K fd ["nest"] []) (FF : Fun K "_law_folk" "_law_folk" sFolk fF dF) (gFolk : mg "_law_folk" = some (.ref fF)) (bFF : Binds K dF ["nest"] []) : ∀ d, FnOk P w K mg base CX0 (d + 3) f fd ["nest"] (spLots K d)
  | 0 => lots_body F T gLots bF FF gFolk bFF (Nat.le_refl _) ((fn_no (f := f) (fd := fd)).mono (by decide)) fun _ _ _ _ _ _ h _ _ => absurd h (Nat.not_lt_zero _)
  | d + 1 => lots_body F T gLots bF FF gFolk bFF (Nat.le_refl _) (ok_lots F T gLots bF FF gFolk bFF d) fun x t H Q E nv h hz kq => ⟨x, t, rfl, nv, Nat.le_of_lt_succ h, hz, kq⟩
end
end K03

namespace K03
open PySem PySem.Spec PyProof.Rows L2 SortR LcM
abbrev sCutL : Stmt := top (21 + 7)
/-- the first place of x -/
def Nest.cut (ns : List Int) : Nest → Option Nest
  | .leaf i => if i ∈ ns then some (.leaf (ns.idxOf i : Nat)) else none
  | .node l r => match l.cut ns, r.cut ns with
    | some a, some b => some (.node a b)
    | some a, none => some a
    | none, some b => some b
    | none, none => none
inductive OV (K : PySem.W.Frag) (H : Hp) : V → Option Nest → Prop
  | no : OV K H .non none
  | yes {v : V} {t : Nest} : NV K H v t → OV K H v (some t)
theorem OV.keep {K : PySem.W.Frag} {H H' : Hp} {x : V} {t : Option Nest} (n : OV K H x t) (s : Grows H H') : OV K H' x t := by
  cases n with
  | no => exact .no
  | yes n => exact .yes (n.keep s)
theorem OV.free {K : PySem.W.Frag} {H : Hp} {x : V} {t : Option Nest} (n : OV K H x t) {D : Addr} {zs : List V} (h : H D = some (.lst zs)) (u : HO) : OV K (upd H D u) x t := by
  cases n with
  | no => exact .no
  | yes n => exact .yes (n.free h u)
theorem NV.notNon {K : PySem.W.Frag} {H : Hp} {v : V} {t : Nest} (n : NV K H v t) : v ≠ .non := by
  cases n <;> exact fun z => nomatch z
def spCutL (K : PySem.W.Frag) (d : Nat) : Sp := fun vs H Q _ => ∃ (x : V) (b : Addr) (ns : List Int) (t : Nest), vs = [x, .ref b] ∧ NV K H x t ∧ SqL K H b (ns.map V.int) ∧ t.ht ≤ d ∧ ∀ (y : V) (H' : Hp), Grows H H' → OV K H' y (t.cut ns) → Q y H'
def Nest.data : Nest → PyData
  | .leaf i => .int i
  | .node l r => .tuple [l.data, r.data]
theorem NV.dp {K : PySem.W.Frag} {H : Hp} {v : V} {t : Nest} (n : NV K H v t) : Dp K H v t.data := by
  induction n with
  | leaf i => exact .int i
  | node e _ _ a b => exact .tup (SqT.of e) (.cons a (.cons b .nil))
theorem Nest.data_depth : ∀ t : Nest, t.data.depth ≤ t.ht
  | .leaf _ => Nat.zero_le _
  | .node l r => by
    have a := Nest.data_depth l
    have b := Nest.data_depth r
    show (PyData.tuple [l.data, r.data]).depth ≤ max l.ht r.ht + 1
    simp only [PyData.depth, PyData.depthAll]
    omega
theorem Nest.data_lay : ∀ t : Nest, t.data.canLay0 = true
  | .leaf _ => by
    show (PyData.int _).canLay0 = true
    simp only [PyData.canLay0]
  | .node l r => by
    show (PyData.tuple [l.data, r.data]).canLay0 = true
    simp only [PyData.canLay0, PyData.canLayAll0, Nest.data_lay l, Nest.data_lay r, Bool.and_self]
theorem shaped_one {t : Nest} (h : t.ht ≤ 60) : SeqAt.shaped (PyData.list [t.data]) = true := by
  have d := t.data_depth
  have e : (PyData.list [t.data]).depth ≤ 64 := by
    simp only [PyData.depth, PyData.depthAll]
    omega
  unfold SeqAt.shaped
  rw [decide_eq_true e, Bool.and_true]
  simp only [PyData.canLay0, PyData.canLayAll0, t.data_lay, Bool.and_self]
theorem Nest.cut_ht (ns : List Int) : ∀ (t a : Nest), t.cut ns = some a → a.ht ≤ t.ht
  | .leaf i, a, e => by
    unfold Nest.cut at e
    split at e
    · cases e
      exact Nat.le_refl _
    · cases e
  | .node l r, a, e => by
    have hl := Nest.cut_ht ns l
    have hr := Nest.cut_ht ns r
    unfold Nest.cut at e
    show a.ht ≤ max l.ht r.ht + 1
    cases el : l.cut ns with
    | none =>
      cases er : r.cut ns with
      | none => rw [el, er] at e; cases e
      | some b =>
        rw [el, er] at e
        cases e
        have := hr a er
        omega
    | some c =>
      have h1 := hl c el
      cases er : r.cut ns with
      | none =>
        rw [el, er] at e
        cases e
        omega
      | some b =>
        rw [el, er] at e
        cases e
        have h2 := hr b er
        show max c.ht b.ht + 1 ≤ max l.ht r.ht + 1
        omega
def nn : V → Bool
  | .non => false
  | _ => true
theorem nn_eq (z : V) : (!decide (z = V.non)) = nn z := by
  cases z <;> simp [nn]
theorem NV.nn {K : PySem.W.Frag} {H : Hp} {v : V} {t : Nest} (n : NV K H v t) : nn v = true := by
  cases n <;> rfl
theorem kept_two (p : Nat → Bool) (F : Nat → V) : kept p F 2 = (if p 0 = true then [F 0] else []) ++ (if p 1 = true then [F 1] else []) := by
  have z : kept p F 0 = [] := rfl
  by_cases h0 : p 0 = true
  · have a : kept p F 1 = [F 0] := by rw [kept_yes h0, z]; rfl
    by_cases h1 : p 1 = true
    · rw [kept_yes h1, a, if_pos h0, if_pos h1]
    · rw [kept_no (Bool.eq_false_iff.mpr h1), a, if_pos h0, if_neg h1]
      rfl
  · have a : kept p F 1 = [] := by rw [kept_no (Bool.eq_false_iff.mpr h0), z]
    by_cases h1 : p 1 = true
    · rw [kept_yes h1, a, if_neg h0, if_pos h1]
    · rw [kept_no (Bool.eq_false_iff.mpr h1), a, if_neg h0, if_neg h1]
      rfl
theorem inV_ints (i : Int) (ns : List Int) : inV (.int i) (ns.map V.int) = decide (i ∈ ns) := by
  unfold inV
  induction ns with
  | nil => rfl
  | cons x ns ih =>
    rw [List.map_cons, List.any_cons, ih]
    show ((x == i) || decide (i ∈ ns)) = decide (i ∈ x :: ns)
    by_cases e : x = i
    · rw [e, beq_self_eq_true, Bool.true_or, decide_eq_true List.mem_cons_self]
    · rw [beq_eq_false_iff_ne.mpr e, Bool.false_or]
      by_cases m : i ∈ ns
      · rw [decide_eq_true m, decide_eq_true (List.mem_cons_of_mem _ m)]
      · rw [decide_eq_false m, decide_eq_false fun z => (List.mem_cons.mp z).elim (fun q => e q.symm) m]
theorem flat_ints (ns : List Int) : (ns.map V.int).all flatV = true := by
  rw [List.all_map]
  exact List.all_eq_true.mpr fun _ _ => rfl
section
variable {P : Program} {w : World} {K : PySem.W.Frag} {mg : Str → Option Value} {base : Heap}
theorem scCutL : FnScope ["nest", "kept", "halves", "half", "part"] ["nest", "kept"] (defScope sCutL) := ⟨rfl, rfl, rfl, by decide +kernel, rfl, by decide +kernel, by decide +kernel⟩
theorem cutL_body {k d : Nat} {sp0 : Sp} {f : Addr} {fd : FuncData} (F : Fun K "_law_cut" "_law_cut" sCutL f fd) (T : TxtP mg) (gCutL : mg "_law_cut" = some (.ref f)) (bF : Binds K fd ["nest", "kept"] []) (hd : d ≤ 60) (G0 : FnOk P w K mg base CX0 k f fd ["nest", "kept"] sp0)
    (inner : ∀ (x : V) (b : Addr) (ns : List Int) (t : Nest) (H : Hp) (Q : VK) (E : XK), NV K H x t → SqL K H b (ns.map V.int) → t.ht < d → (∀ (y : V) (H' : Hp), Grows H H' → OV K H' y (t.cut ns) → Q y H') → sp0 [x, .ref b] H Q E) :
    FnOk P w K mg base CX0 (k + 1) f fd ["nest", "kept"] (spCutL K d) := by
  refine F.ok scCutL (fun vs H Q E h => ?_) (fun cdv A outer s H vs Q E hr h => ?_)
  · obtain ⟨x, b, ns, t, rfl, _⟩ := h
    rfl
  · obtain ⟨x, b, ns, t, rfl, nv, hS, ht, kq⟩ := h
    refine ⟨_, (pss_cons (ps_if (pt_val (pe_callB call_isi (by rfl) T.isi (by decide +kernel) (pa_cons (pv 0) (pa_cons (pe_bltn (v := .ty "int") (u := .type "int") (by rfl) T.int (by decide +kernel) rfl) pa_nil)))) (pss_one (ps_ret (pe_ifExp (pt_cmpR op_in_seq (pv 0) (pv 1) (by rfl)) (pe_bm PySem.F.plainAttrs_list PySem.F.slot_list_index PySem.F.type_list_index mt_index (pv 1) (pa_cons (pv 0) pa_nil)) pe_non))) pss_nil)
      (pss_cons (ps_setLc (i := 2) (own := [("half", 3)]) (g := gName 3)  rfl scCutL.nd rfl rfl (sw_true rfl rfl rfl (by decide +kernel)) (pi_list (pe_lc (own := [("part", 4)]) (g := gName 4) (tt := tYes) rfl scCutL.nd (pi_tup (pv 0)) (blkOk_by (own := [("part", 4)]) (N := ["nest", "kept", "halves", "half", "part"]) (sc := defScope sCutL) (by decide +kernel)) (fun _ _ _ _ _ => pg_name (i := 4) scCutL.nd rfl (Or.inl rfl)) (fun _ _ _ _ _ => pts_nil) (fun _ _ _ _ _ => (pe_call G0 hr rfl gCutL F.kp bF .nil pass0 (pa_cons (pv 4) (pa_cons (pv 1) pa_nil)))))) (blkOk_by (own := [("half", 3)]) (N := ["nest", "kept", "halves", "half", "part"]) (sc := defScope sCutL) (by decide +kernel)) (fun _ _ _ _ _ => pg_name (i := 3) scCutL.nd rfl (Or.inl rfl)) (fun _ _ _ _ _ => (pts_one (pt_cmpR op_notN (pv 3) pe_non (nomark _)))) (fun _ _ _ _ _ => (pv 3)))
      (pss_cons (ps_if (pt_cmpR op_lt (pe_callB call_len_seq (by rfl) T.len (by decide +kernel) (pa_cons (pv 2) pa_nil)) pe_int (nomark _)) (pss_one (ps_ret (pe_ifExp (pt_cmpR (op_neD hr.units) (pv 2) (pe_lst pa_nil) (nomark _)) (pe_ix (r := rIxL K) ix_list (pv 2) pe_int (fun _ _ => rfl)) pe_non))) pss_nil)
      (pss_one (ps_ret (pe_callTy call_tuple_of (by rfl) T.tuple (by decide +kernel) (pa_cons (pv 2) pa_nil))))))), ?_⟩
    cases nv with
    | leaf i =>
      refine ⟨_, rfl, _, _, _, _, true, rfl, .ty "int", .base (.int i), kit_ty (by decide +kernel), true, rfl, iteT ⟨_, rfl, _, rfl, b, _, rfl, .inl hS, rfl, flat_ints ns, _, rfl, ?_⟩⟩
      show if inV (.int i) (ns.map V.int) = true then _ else _
      rw [inV_ints]
      refine ite2 (fun e => ?_) (fun e => ?_)
      · have m : i ∈ ns := of_decide_eq_true e
        have lt : ns.idxOf i < ns.length := List.idxOf_lt_length_iff.mpr m
        refine ⟨_, rfl, .inl ⟨rfl, _, hS⟩, _, rfl, b, _, _, ns.idxOf i, .int i, rfl, rfl, hS, rfl, flat_ints ns, ?_, ?_, fun j z hj ez => ?_, ?_⟩
        · rw [List.getElem?_map, List.getElem?_eq_getElem lt, List.getElem_idxOf lt]
          rfl
        · exact beq_self_eq_true i
        · obtain rfl := at_map (d := 0) ez
          have jl : j < ns.length := Nat.lt_trans hj lt
          show (ns.getD j 0 == i) = false
          rw [List.getD_eq_getElem?_getD, List.getElem?_eq_getElem jl]
          exact beq_eq_false_iff_ne.mpr fun z => by
            have := List.not_of_lt_findIdx (p := fun x => x == i) (xs := ns) (i := j) hj
            rw [show ns[j] = i from z, beq_self_eq_true] at this
            cases this
        · refine kq _ H .refl ?_
          show OV K H _ (if i ∈ ns then _ else _)
          rw [if_pos m]
          exact .yes (.leaf _)
      · have m : ¬ i ∈ ns := fun z => e (decide_eq_true z)
        refine kq .non H .refl ?_
        show OV K H _ (if i ∈ ns then _ else _)
        rw [if_neg m]
        exact .no
    | @node t x y l r at_t nl nr =>
      have hlh : max l.ht r.ht + 1 ≤ d := ht
      refine ⟨_, rfl, _, _, _, _, false, rfl, .ty "int", .base (.tup at_t), kit_ty (by decide +kernel), false, rfl, iteF ?_⟩
      let hv : Nat → Nest := fun j => if j = 0 then l else r
      have half : ∀ (i : Nat) (z : V) (H' : Hp), [x, y][i]? = some z → Grows H H' → NV K H' z (hv i) ∧ (hv i).ht < d := fun i z H' e s => by
        match i, e with
        | 0, e =>
          obtain rfl : x = z := Option.some.inj e
          exact ⟨nl.keep s, (show l.ht < d by omega)⟩
        | 1, e =>
          obtain rfl : y = z := Option.some.inj e
          exact ⟨nr.keep s, (show r.ht < d by omega)⟩
      refine ⟨_, rfl, t, rfl, ⟨_, SqT.of at_t⟩, fun D hD => lc_tupX (K := K) (fun j z G => OV K G z ((hv j).cut ns)) (fun _ _ _ _ s h => h.keep s) (fun _ _ _ _ h e u => h.free e u) hD (SqT.of at_t) (by show 2 ≤ 1000000; decide) (fun i z H' Rk ez sm _ kR => ?_) fun H1 ys m => ?_⟩
      · obtain ⟨n1, n2⟩ := half i z H' ez sm
        exact ⟨rfl, _, rfl, _, rfl, inner z b ns (hv i) H' _ _ n1 (sm.seq hS) n2 fun y' H3 s3 nv3 => kR y' H3 s3 nv3⟩
      · have len : ys.length = 2 := m.len
        obtain ⟨u, v, rfl⟩ : ∃ u v, ys = [u, v] := by
          match ys, len with
          | [u, v], _ => exact ⟨u, v, rfl⟩
        have ou : OV K H1 u (l.cut ns) := m.rel 0 u rfl
        have ov : OV K H1 v (r.cut ns) := m.rel 1 v rfl
        have s1 := m.grow
        refine ⟨D, rfl, ⟨_, SqL.of m.top⟩, fun D2 hD2 => lc_listT (K := K) (fun i => nn ([u, v].getD i .non)) (fun i => [u, v].getD i .non) hD2 (SqL.of m.top) (by show 2 ≤ 1000000; decide) (fun i z H' Ry Rn ez sm ky kn => ?_) fun H2 s2 e2 => ?_⟩
        · have ez' : [u, v].getD i .non = z := by rw [List.getD_eq_getElem?_getD, ez]; rfl
          rw [ez'] at ky kn
          refine ⟨rfl, _, rfl, rfl, _, rfl, ?_⟩
          show if (!decide (z = V.non)) = true then _ else _
          rw [nn_eq]
          by_cases hz : nn z = true
          · rw [if_pos hz]
            exact ⟨_, rfl, ky hz H' .refl⟩
          · rw [if_neg hz]
            exact kn (Bool.eq_false_iff.mpr hz) H' .refl
        · have s12 := s1.trans s2
          have cut_eq : (Nest.node l r).cut ns = match l.cut ns, r.cut ns with | some a, some b => some (.node a b) | some a, none => some a | none, some b => some b | none, none => none := rfl
          rw [show [u, v].length = 2 from rfl, kept_two] at e2
          change H2 D2 = some (.lst ((if nn u = true then [u] else []) ++ (if nn v = true then [v] else []))) at e2
          generalize el : l.cut ns = cl at ou cut_eq
          generalize er : r.cut ns = cr at ov cut_eq
          cases ou with
          | no =>
            cases ov with
            | no =>
            rw [if_neg (show ¬ nn V.non = true from Bool.false_ne_true)] at e2
            refine ⟨_, rfl, D2, _, rfl, .inl (SqL.of e2), _, _, rfl, rfl, _, rfl, iteT ⟨_, rfl, (by show 0 ≤ sizeLine; decide), fun e he => ⟨PyData.list [], PyData.list [], .lst (SqL.of (Grows.new he _ _ e2)) .nil, .lst (SqL.of upd_same) .nil, (by decide +kernel), (by decide +kernel), false, ?_, iteF ?_⟩⟩⟩
            · simp only [PyData.eqv, PyData.eqvAll]
              rfl
            · refine kq .non _ (s12.trans (Grows.new he)) ?_
              rw [cut_eq]
              exact .no
            | yes nv2 =>
            have n2 := nv2.keep s2
            rw [if_neg (show ¬ nn V.non = true from Bool.false_ne_true), if_pos n2.nn] at e2
            refine ⟨_, rfl, D2, _, rfl, .inl (SqL.of e2), _, _, rfl, rfl, _, rfl, iteT ⟨_, rfl, (by show 0 ≤ sizeLine; decide), fun e he => ⟨PyData.list [_], PyData.list [], .lst (SqL.of (Grows.new he _ _ e2)) (.cons ((n2).keep (Grows.new he)).dp .nil), .lst (SqL.of upd_same) .nil, shaped_one ?_, (by decide +kernel), true, ?_, iteT ?_⟩⟩⟩
            · have := Nest.cut_ht ns _ _ er
              omega
            · simp only [PyData.eqv, PyData.eqvAll]
              rfl
            · refine ⟨_, rfl, D2, _, 0, v, rfl, rfl, SqL.of (Grows.new he _ _ e2), rfl, kq v _ (s12.trans (Grows.new he)) ?_⟩
              rw [cut_eq]
              exact .yes ((n2).keep (Grows.new he))
          | yes nv1 =>
            have n1 := nv1.keep s2
            cases ov with
            | no =>
            rw [if_pos n1.nn, if_neg (show ¬ nn V.non = true from Bool.false_ne_true)] at e2
            refine ⟨_, rfl, D2, _, rfl, .inl (SqL.of e2), _, _, rfl, rfl, _, rfl, iteT ⟨_, rfl, (by show 0 ≤ sizeLine; decide), fun e he => ⟨PyData.list [_], PyData.list [], .lst (SqL.of (Grows.new he _ _ e2)) (.cons ((n1).keep (Grows.new he)).dp .nil), .lst (SqL.of upd_same) .nil, shaped_one ?_, (by decide +kernel), true, ?_, iteT ?_⟩⟩⟩
            · have := Nest.cut_ht ns _ _ el
              omega
            · simp only [PyData.eqv, PyData.eqvAll]
              rfl
            · refine ⟨_, rfl, D2, _, 0, u, rfl, rfl, SqL.of (Grows.new he _ _ e2), rfl, kq u _ (s12.trans (Grows.new he)) ?_⟩
              rw [cut_eq]
              exact .yes ((n1).keep (Grows.new he))
            | yes nv2 =>
            have n2 := nv2.keep s2
            rw [if_pos n1.nn, if_pos n2.nn] at e2
            refine ⟨_, rfl, D2, _, rfl, .inl (SqL.of e2), _, _, rfl, rfl, _, rfl, iteF ⟨_, rfl, D2, _, rfl, .inl ⟨SqL.of e2, fun q hq => kq (.ref q) _ (s12.trans (Grows.new hq)) ?_⟩⟩⟩
            rw [cut_eq]
            exact .yes (.node upd_same (n1.keep (Grows.new hq)) (n2.keep (Grows.new hq)))
theorem ok_cutL {f : Addr} {fd : FuncData} (F : Fun K "_law_cut" "_law_cut" sCutL f fd) (T : TxtP mg) (gCutL : mg "_law_cut" = some (.ref f)) (bF : Binds K fd ["nest", "kept"] []) : ∀ d, d ≤ 60 → FnOk P w K mg base CX0 (d + 2) f fd ["nest", "kept"] (spCutL K d)
  | 0, h => cutL_body F T gCutL bF h (fn_no (f := f) (fd := fd)) fun _ _ _ _ _ _ _ _ _ h _ => absurd h (Nat.not_lt_zero _)
  | d + 1, h => cutL_body F T gCutL bF h (ok_cutL F T gCutL bF d (Nat.le_of_succ_le h)) fun x b ns t H Q E nv hS h kq => ⟨x, b, ns, t, rfl, nv, hS, Nat.le_of_lt_succ h, kq⟩
end
end K03

namespace K03
open PySem PySem.Spec PyProof.Rows L2 SortR LcM
abbrev sKept : Stmt := top (21 + 8)
theorem plist_of {n : Int} {ks : List Int} (up : ks.Pairwise (· < ·)) (rng : ∀ x ∈ ks, 0 ≤ x ∧ x < n) : plist n ks = true := by
  unfold plist inR ascI
  rw [Bool.and_eq_true]
  refine ⟨List.all_eq_true.mpr fun i hi => ?_, List.all_eq_true.mpr fun i hi => ?_⟩
  · have il := List.mem_range.mp hi
    have e : ks.getD i 0 = ks[i] := by rw [List.getD_eq_getElem?_getD, List.getElem?_eq_getElem il]; rfl
    have := rng _ (List.getElem_mem il)
    rw [e, decide_eq_true this.1, decide_eq_true this.2]
    rfl
  · have il := List.mem_range.mp hi
    have l1 : i < ks.length := by omega
    have l2 : i + 1 < ks.length := by omega
    have e1 : ks.getD i 0 = ks[i] := by rw [List.getD_eq_getElem?_getD, List.getElem?_eq_getElem l1]; rfl
    have e2 : ks.getD (i + 1) 0 = ks[i + 1] := by rw [List.getD_eq_getElem?_getD, List.getElem?_eq_getElem l2]; rfl
    rw [e1, e2]
    exact decide_eq_true (List.pairwise_iff_getElem.mp up i (i + 1) l1 l2 (Nat.lt_succ_self i))
def spKept : Sp := fun vs H Q _ => ∃ (p : Addr) (mn m : Int), vs = [.ref p, .int mn] ∧ Pch H p m ∧ m < 2 ^ 50 ∧ 1 ≤ mn ∧ mn ≤ 20 ∧
  ∀ (l : Addr) (ks : List Int) (H' : Hp), plist mn ks = true → ks ≠ [] → ks.length ≤ 20 → Pch H' p (m + 100) → Gr p H H' → H l = none → H' l = some (.lst (ks.map V.int)) → Q (.ref l) H'
theorem gr_none {p a : Addr} {H H' : Hp} (g : Gr p H H') (h : H' a = none) (n : a ≠ p) : H a = none := by
  rcases Option.eq_none_or_eq_some (H a) with z | ⟨o, z⟩
  · exact z
  · rw [g a o n z] at h
    cases h
theorem rg_ints (n : Int) : rgV 0 n = ((List.range n.toNat).map fun i => (0 + (i : Nat) : Int)).map V.int := by
  unfold rgV
  rw [List.map_map, Int.sub_zero]
  rfl
theorem rg_up (n : Nat) : ((List.range n).map fun i => (0 + (i : Nat) : Int)).Pairwise (· < ·) := by
  rw [List.pairwise_map]
  exact List.pairwise_lt_range.imp fun {a b} h => by omega
theorem rg_in (n : Nat) : ∀ x ∈ (List.range n).map fun i => (0 + (i : Nat) : Int), 0 ≤ x ∧ x < n := fun x hx => by
  obtain ⟨i, hi, e⟩ := List.mem_map.mp hx
  have := List.mem_range.mp hi
  omega
section
variable {P : Program} {w : World} {K : PySem.W.Frag} {mg : Str → Option Value} {base : Heap}
theorem scKept : FnScope ["pouch", "many", "found", "fresh"] ["pouch", "many"] (defScope sKept) := ⟨rfl, rfl, rfl, by decide +kernel, rfl, by decide +kernel, by decide +kernel⟩
theorem ok_kept {f fD : Addr} {fd fdD : FuncData} (F : Fun K "_law_kept" "_law_kept" sKept f fd) (T : TxtP mg) (T0 : TxtD mg fD) (FD : Fun K "_law_dip" "_law_dip" sDip fD fdD) (bD : Binds K fdD ["pouch", "wide"] []) : FnOk P w K mg base CX0 2 f fd ["pouch", "many"] spKept := by
  have GD : FnOk P w K mg base CX0 1 fD fdD ["pouch", "wide"] spDip := ok_dip FD T0.toTxt0
  refine F.ok scKept (fun vs H Q E h => ?_) (fun cdv A outer s H vs Q E hr h => ?_)
  · obtain ⟨p, mn, m, rfl, _⟩ := h
    rfl
  · obtain ⟨p, mn, m, rfl, hP, hm, hmn, hmx, kq⟩ := h
    refine ⟨_, (pss_cons (ps_setLc (i := 2) (own := [("fresh", 3)]) (g := gName 3)  rfl scKept.nd rfl rfl (sw_true rfl rfl rfl (by decide +kernel)) (pi_range1 (by rfl) T.range (pa_cons (pv 1) pa_nil)) (blkOk_by (own := [("fresh", 3)]) (N := ["pouch", "many", "found", "fresh"]) (sc := defScope sKept) (by decide +kernel)) (fun _ _ _ _ _ => pg_name (i := 3) scKept.nd rfl (Or.inl rfl)) (fun _ _ _ _ _ => (pts_one (pt_cmpR op_gt (pe_call GD (hr.mono (by decide)) rfl T0.gD FD.kp bD .nil pass0 (pa_cons (pv 0) (pa_cons pe_int pa_nil))) pe_int (nomark _)))) (fun _ _ _ _ _ => (pv 3)))
      (pss_cons (ps_set (i := 2) scKept.nd rfl (.inl rfl) (pe_ix (r := rIxL K) ix_list (pe_lst (pa_cons (pv 2) (pa_cons (pe_listRg rfl (by rfl) T.list (prg_1 (by rfl) T.range (pv 1))) (pa_cons (pe_listRg rfl (by rfl) T.list (prg_1 (by rfl) T.range (pe_op op_add pe_int (pe_call GD (hr.mono (by decide)) rfl T0.gD FD.kp bD .nil pass0 (pa_cons (pv 0) (pa_cons (pv 1) pa_nil)))))) (pa_cons (pe_lst pa_nil) pa_nil))))) (pe_call GD (hr.mono (by decide)) rfl T0.gD FD.kp bD .nil pass0 (pa_cons (pv 0) (pa_cons pe_int pa_nil))) (fun _ _ => rfl)))
      (pss_one (ps_ret (pe_ifExp (pt_cmpR (op_neD hr.units) (pv 2) (pe_lst pa_nil) (nomark _)) (pv 2) (pe_lst (pa_cons (pe_call GD (hr.mono (by decide)) rfl T0.gD FD.kp bD .nil pass0 (pa_cons (pv 0) (pa_cons (pv 1) pa_nil))) pa_nil))))))), ?_⟩
    refine ⟨_, rfl, mn, rfl, by omega, by omega, fun D hD => lc_range (lo := 0) (n := mn.toNat) (fun i H' => ∃ acc : List Int, Gr p H H' ∧ Pch H' p (m + i) ∧ H' D = some (.lst (acc.map V.int)) ∧ acc.Pairwise (· < ·) ∧ (∀ x ∈ acc, 0 ≤ x ∧ x < i) ∧ acc.length ≤ i) ⟨[], Gr.new hD, (hP.same (.new hD)).le (by omega), upd_same, .nil, (fun _ h => nomatch h), Nat.le_refl _⟩ (fun i H' hi ⟨acc, gr, hp, eD, up, rng, len⟩ => ?_) fun H1 ⟨acc, gr, hp, eD, up, rng, len⟩ => ?_⟩
    · have nDp : D ≠ p := pch_ne hP hD
      refine ⟨rfl, _, rfl, p, 3, _, rfl, hp, by omega, by decide, by decide, fun v H2 v0 v1 hp2 but => ⟨_, _, rfl, rfl, _, rfl, ?_⟩⟩
      have eD2 := but_at but eD nDp
      refine ite2 (fun e => ?_) (fun e => ?_)
      · refine ⟨_, rfl, _, eD2, ?_, acc ++ [0 + (i : Int)], fun b o nb eb => ?_, ?_, by rw [upd_same, List.map_append]; rfl, ?_, fun x hx => ?_, by rw [List.length_append]; exact Nat.succ_le_succ len⟩
        · rw [List.length_map]
          exact small1000 (by omega)
        · rw [upd_ne (ne_of_none eb hD)]
          exact but_gr but b o nb (gr b o nb eb)
        · obtain ⟨d, b, n, ep, b0, b1, n0, n1⟩ := hp2
          exact ⟨d, b, n, (upd_ne nDp.symm).trans ep, b0, b1, n0, by omega⟩
        · refine List.pairwise_append.mpr ⟨up, List.pairwise_singleton _ _, fun a ha b hb => ?_⟩
          rw [List.mem_singleton.mp hb]
          have := (rng a ha).2
          omega
        · rcases List.mem_append.mp hx with h | h
          · have := rng x h
            omega
          · rw [List.mem_singleton.mp h]
            omega
      · exact ⟨acc, gr.trans (but_gr but), hp2.le (by omega), eD2, up, fun x hx => by have := rng x hx; omega, Nat.le_succ_of_le len⟩
    · have nDp : D ≠ p := pch_ne hP hD
      refine ⟨_, rfl, _, rfl, mn, rfl, .of_le (by decide) (by omega) (by decide) (by omega), fun q1 hq1 => ?_⟩
      have n1p := pch_ne hp hq1
      have hp1 := hp.same (.new hq1 (o := .lst (rgV 0 mn)))
      have g1 : Gr p H (upd H1 q1 (.lst (rgV 0 mn))) := gr.trans (.new hq1)
      refine ⟨_, rfl, _, rfl, p, mn, _, rfl, hp1, by omega, by omega, by omega, fun v1 H3 v10 v11 hp3 but3 => ⟨_, _, rfl, rfl, _, rfl, .of_le (by decide) (by omega) (by decide) (by omega), fun q2 hq2 => ?_⟩⟩
      have n2p := pch_ne hp3 hq2
      have g3 : Gr p H H3 := g1.trans (but_gr but3)
      refine ⟨(by show 0 ≤ sizeLine; decide), fun q3 hq3 => ⟨(by show 4 ≤ sizeLine; decide), fun q4 hq4 => ?_⟩⟩
      have hp2' := hp3.same (.new hq2 (o := .lst (rgV 0 (1 + v1))))
      have n3p := pch_ne hp2' hq3
      have hp3' := hp2'.same (.new hq3 (o := .lst []))
      have n4p := pch_ne hp3' hq4
      have hp4 := hp3'.same (.new hq4 (o := .lst [V.ref D, .ref q1, .ref q2, .ref q3]))
      refine ⟨_, rfl, p, 4, _, rfl, hp4, by omega, by decide, by decide, fun v2 H5 v20 v21 hp5 but5 => ?_⟩
      have t3 : Gr p (upd H3 q2 (.lst (rgV 0 (1 + v1)))) H5 := ((Gr.new hq3).trans (.new hq4)).trans (but_gr but5)
      have t2 : Gr p H3 H5 := (Gr.new hq2).trans t3
      have t1 : Gr p (upd H1 q1 (.lst (rgV 0 mn))) H5 := (but_gr but3).trans t2
      have g5 : Gr p H H5 := g3.trans t2
      obtain ⟨z, hz, ez⟩ := at_in (xs := [V.ref D, .ref q1, .ref q2, .ref q3]) v20 v21
      have at4 : H5 q4 = some (.lst [V.ref D, .ref q1, .ref q2, .ref q3]) := but_at but5 upd_same n4p
      have got : ∃ (l : Addr) (ks : List Int), z = .ref l ∧ H5 l = some (.lst (ks.map V.int)) ∧ H l = none ∧ ks.Pairwise (· < ·) ∧ (∀ x ∈ ks, 0 ≤ x ∧ x < mn) ∧ ks.length ≤ 20 := by
        simp only [List.mem_cons, List.not_mem_nil, or_false] at hz
        rcases hz with rfl | rfl | rfl | rfl
        · exact ⟨D, acc, rfl, t1 D _ nDp (Gr.new hq1 D _ nDp eD), hD, up, fun x hx => by have := rng x hx; omega, by omega⟩
        · refine ⟨q1, _, rfl, t1 q1 _ n1p (by rw [upd_same, rg_ints]), gr_none gr hq1 n1p, rg_up _, fun x hx => by have := rg_in _ x hx; omega, by rw [List.length_map, List.length_range]; omega⟩
        · refine ⟨q2, _, rfl, t3 q2 _ n2p (by rw [upd_same, rg_ints]), gr_none g3 hq2 n2p, rg_up _, fun x hx => by have := rg_in _ x hx; omega, by rw [List.length_map, List.length_range]; omega⟩
        · refine ⟨q3, [], rfl, ?_, gr_none (g3.trans (.new hq2)) hq3 n3p, .nil, (fun _ h => nomatch h), Nat.zero_le _⟩
          exact but_at but5 ((upd_ne (ne_of_none (upd_same (H := upd H3 q2 (.lst (rgV 0 (1 + v1)))) (o := .lst [])) hq4)).trans upd_same) n3p
      obtain ⟨l, ks, rfl, at_l, new_l, kup, krng, klen⟩ := got
      have nlp : l ≠ p := pch_ne hP new_l
      refine ⟨q4, _, v2, _, rfl, rfl, SqL.of at4, ez, _, rfl, (by show 0 ≤ sizeLine; decide), fun e he => ⟨PyData.list (ks.map .int), PyData.list (([] : List Int).map .int), .lst (SqL.of (Grows.new he _ _ at_l)) (rows_dp ks), .lst (SqL.of upd_same) (rows_dp []), shaped_ints ks, shaped_ints [], _, rfl, ?_⟩⟩
      rw [eqv_ints]
      have g6 : Gr p H (upd H5 e (.lst ([] : List V))) := g5.trans (.new he)
      have hp6 := hp5.same (.new he (o := .lst []))
      by_cases ek : ks = []
      · rw [decide_eq_true ek]
        refine iteF ⟨_, rfl, _, rfl, p, mn, _, rfl, hp6, by omega, by omega, by omega, fun v3 H7 v30 v31 hp7 but7 => ⟨(by show 1 ≤ sizeLine; decide), fun q hq => ?_⟩⟩
        have nqp := pch_ne hp7 hq
        refine kq q [v3] _ (plist_of (List.pairwise_singleton _ _) fun x hx => by rw [List.mem_singleton.mp hx]; exact ⟨v30, v31⟩) (fun z => nomatch z) (by show 1 ≤ 20; decide) ((hp7.same (.new hq)).le (by omega)) ((g6.trans (but_gr but7)).trans (.new hq)) (gr_none (g6.trans (but_gr but7)) hq nqp) upd_same
      · rw [decide_eq_false ek]
        exact iteT ⟨_, rfl, kq l ks _ (plist_of kup krng) ek klen (hp6.le (by omega)) g6 new_l (Grows.new he _ _ at_l)⟩
end
end K03

namespace K03
open PySem PySem.Spec PyProof.Rows L2 SortR LcM
theorem rng_map {α β : Type} (ns : List α) (d : α) (f : α → β) : (List.range ns.length).map (fun i => f (ns.getD i d)) = ns.map f := by
  refine List.ext_getElem (by rw [List.length_map, List.length_map, List.length_range]) fun j j1 j2 => ?_
  rw [List.length_map] at j2
  rw [List.getElem_map, List.getElem_map, List.getElem_range, List.getD_eq_getElem?_getD, List.getElem?_eq_getElem j2]
  rfl
theorem maskI_mk {ns : List Int} : maskI ns = ((mk (ns.map Int.toNat) : Nat) : Int) := by
  unfold maskI
  rw [rng_map ns 0 fun x => (1 : Int) * 2 ^ x.toNat]
  induction ns with
  | nil => rfl
  | cons x ns ih =>
    rw [List.map_cons, List.sum_cons, ih, List.map_cons, mk_cons, Int.one_mul, Int.natCast_add, Int.natCast_pow]
    rfl
/-- ascending lists of persons that lie apart, or one within the other -/
def Nice (xs ys : List Int) : Prop := (∀ z ∈ xs, z ∉ ys) ∨ (∀ z ∈ xs, z ∈ ys) ∨ ∀ z ∈ ys, z ∈ xs
theorem up_nat {xs : List Int} (h : xs.Pairwise (· < ·)) (p : ∀ x ∈ xs, 0 ≤ x) : (xs.map Int.toNat).Pairwise (· < ·) := by
  rw [List.pairwise_map]
  exact h.imp_of_mem fun {a b} ha hb lt => by
    have := p a ha
    have := p b hb
    omega
theorem mem_nat {xs : List Int} (p : ∀ x ∈ xs, 0 ≤ x) {i : Nat} : i ∈ xs.map Int.toNat ↔ (i : Int) ∈ xs := by
  rw [List.mem_map]
  constructor
  · rintro ⟨x, hx, rfl⟩
    rw [Int.toNat_of_nonneg (p x hx)]
    exact hx
  · intro h
    exact ⟨_, h, rfl⟩
theorem crossI_no {xs ys : List Int} (hx : xs.Pairwise (· < ·)) (hy : ys.Pairwise (· < ·)) (px : ∀ x ∈ xs, 0 ≤ x) (py : ∀ x ∈ ys, 0 ≤ x) (h : Nice xs ys) : crossI (maskI xs) (maskI ys) = false := by
  have h' : (∀ z ∈ xs.map Int.toNat, z ∉ ys.map Int.toNat) ∨ (∀ z ∈ xs.map Int.toNat, z ∈ ys.map Int.toNat) ∨ ∀ z ∈ ys.map Int.toNat, z ∈ xs.map Int.toNat := by
    rcases h with h | h | h
    · exact .inl fun z hz hz2 => h _ ((mem_nat px).mp hz) ((mem_nat py).mp hz2)
    · exact .inr (.inl fun z hz => (mem_nat py).mpr (h _ ((mem_nat px).mp hz)))
    · exact .inr (.inr fun z hz => (mem_nat px).mpr (h _ ((mem_nat py).mp hz)))
  have m := mk_and (up_nat hx px) (up_nat hy py) h'
  rw [maskI_mk, maskI_mk]
  unfold crossI
  rw [PyProof.Rows.bitAnd_pp (Int.natCast_nonneg _) (Int.natCast_nonneg _), Int.toNat_natCast, Int.toNat_natCast]
  generalize mk (xs.map Int.toNat) = a at m
  generalize mk (ys.map Int.toNat) = b at m
  have e : inV (.int ((a &&& b : Nat) : Int)) [.int 0, .int (a : Int), .int (b : Int)] = true := by
    unfold inV
    rcases m with m | m | m
    · rw [m]
      rfl
    · rw [m]
      simp [eqV]
    · rw [m]
      simp [eqV]
  rw [e]
  rfl
end K03

namespace K03
open PySem PySem.Spec PyProof.Rows L2 SortR LcM
/-- the persons, as they sit -/
def Nest.lv : Nest → List Int
  | .leaf i => [i]
  | .node l r => l.lv ++ r.lv
theorem Nest.folk_perm : ∀ t : Nest, t.folk.Perm t.lv
  | .leaf _ => .refl _
  | .node l r => (List.mergeSort_perm _ _).trans ((Nest.folk_perm l).append (Nest.folk_perm r))
theorem Nest.folk_le : ∀ t : Nest, t.folk.Pairwise (· ≤ ·)
  | .leaf _ => List.pairwise_singleton _ _
  | .node l r => by
    have h := List.pairwise_mergeSort (le := intLe) (fun a b c h1 h2 => by
      unfold intLe at *
      simp only [decide_eq_true_eq] at *
      omega) (fun a b => by
      unfold intLe
      simp only [Bool.or_eq_true, decide_eq_true_eq]
      omega) (l.folk ++ r.folk)
    exact h.imp fun {a b} z => by
      unfold intLe at z
      exact of_decide_eq_true z
theorem Nest.folk_up {t : Nest} (h : t.lv.Nodup) : t.folk.Pairwise (· < ·) := by
  have n : t.folk.Nodup := (t.folk_perm.nodup_iff).mpr h
  exact (t.folk_le.and n).imp fun {a b} z => by
    have := z.1
    have := z.2
    omega
theorem Nest.lots_mem {l r : Nest} {q : List Int} : q ∈ (Nest.node l r).lots ↔ q = (Nest.node l r).folk ∨ q ∈ l.lots ∨ q ∈ r.lots := by
  show q ∈ List.mergeSort _ _ ↔ _
  rw [List.mem_mergeSort, List.mem_cons, List.mem_append]
theorem Nest.sz_lv : ∀ t : Nest, t.lv.length = t.sz
  | .leaf _ => rfl
  | .node l r => by
    show (l.lv ++ r.lv).length = l.sz + r.sz
    rw [List.length_append, Nest.sz_lv l, Nest.sz_lv r]
/-- each group: some of the persons, two or more, ascending -/
theorem Nest.lot_ok : ∀ (t : Nest), t.lv.Nodup → ∀ q ∈ t.lots, (∀ z ∈ q, z ∈ t.lv) ∧ 2 ≤ q.length ∧ q.Pairwise (· < ·)
  | .leaf _, _, q, h => nomatch h
  | .node l r, hn, q, h => by
    obtain ⟨n1, n2, _⟩ := List.nodup_append.mp hn
    rcases Nest.lots_mem.mp h with e | e | e
    · subst e
      refine ⟨fun z hz => (Nest.folk_perm _).mem_iff.mp hz, ?_, Nest.folk_up hn⟩
      rw [Nest.folk_len]
      have := l.sz_pos
      have := r.sz_pos
      show 2 ≤ l.sz + r.sz
      omega
    · obtain ⟨a, b, c⟩ := Nest.lot_ok l n1 q e
      exact ⟨fun z hz => List.mem_append.mpr (.inl (a z hz)), b, c⟩
    · obtain ⟨a, b, c⟩ := Nest.lot_ok r n2 q e
      exact ⟨fun z hz => List.mem_append.mpr (.inr (a z hz)), b, c⟩
theorem Nest.lots_nice : ∀ (t : Nest), t.lv.Nodup → ∀ p ∈ t.lots, ∀ q ∈ t.lots, Nice p q
  | .leaf _, _, p, h, _, _ => nomatch h
  | .node l r, hn, p, hp, q, hq => by
    obtain ⟨n1, n2, n3⟩ := List.nodup_append.mp hn
    have all : ∀ s ∈ (Nest.node l r).lots, ∀ z ∈ s, z ∈ (Nest.node l r).folk := fun s hs z hz => (Nest.folk_perm _).mem_iff.mpr ((Nest.lot_ok _ hn s hs).1 z hz)
    rcases Nest.lots_mem.mp hp with e | e | e
    · subst e
      exact .inr (.inr (all q hq))
    · rcases Nest.lots_mem.mp hq with f | f | f
      · subst f
        exact .inr (.inl (all p hp))
      · exact Nest.lots_nice l n1 p e q f
      · exact .inl fun z hz hz2 => n3 z ((Nest.lot_ok l n1 p e).1 z hz) z ((Nest.lot_ok r n2 q f).1 z hz2) rfl
    · rcases Nest.lots_mem.mp hq with f | f | f
      · subst f
        exact .inr (.inl (all p hp))
      · exact .inl fun z hz hz2 => n3 z ((Nest.lot_ok l n1 q f).1 z hz2) z ((Nest.lot_ok r n2 p e).1 z hz) rfl
      · exact Nest.lots_nice r n2 p e q f
theorem Nest.lv_ne : ∀ t : Nest, ∃ z, z ∈ t.lv
  | .leaf i => ⟨i, List.mem_singleton.mpr rfl⟩
  | .node l r => let ⟨z, h⟩ := Nest.lv_ne l; ⟨z, List.mem_append.mpr (.inl h)⟩
theorem Nest.lots_nodup : ∀ (t : Nest), t.lv.Nodup → t.lots.Nodup
  | .leaf _, _ => List.Pairwise.nil
  | .node l r, hn => by
    obtain ⟨n1, n2, n3⟩ := List.nodup_append.mp hn
    show (List.mergeSort _ _).Nodup
    refine ((List.mergeSort_perm _ _).nodup_iff).mpr (List.nodup_cons.mpr ⟨fun h => ?_, List.nodup_append.mpr ⟨Nest.lots_nodup l n1, Nest.lots_nodup r n2, fun a ha b hb e => ?_⟩⟩)
    · have mem : ∀ z ∈ (Nest.node l r).lv, z ∈ (Nest.node l r).folk := fun z hz => (Nest.folk_perm _).mem_iff.mpr hz
      rcases List.mem_append.mp h with h | h
      · obtain ⟨z, hz⟩ := r.lv_ne
        exact n3 z ((Nest.lot_ok l n1 _ h).1 z (mem z (List.mem_append.mpr (.inr hz)))) z hz rfl
      · obtain ⟨z, hz⟩ := l.lv_ne
        exact n3 z hz z ((Nest.lot_ok r n2 _ h).1 z (mem z (List.mem_append.mpr (.inl hz)))) rfl
    · subst e
      obtain ⟨a1, a2, _⟩ := Nest.lot_ok l n1 a ha
      obtain ⟨b1, _, _⟩ := Nest.lot_ok r n2 a hb
      cases a with
      | nil => exact absurd a2 (by decide)
      | cons z a => exact n3 z (a1 z List.mem_cons_self) z (b1 z List.mem_cons_self) rfl
end K03

namespace K03
open PySem PySem.Spec PyProof.Rows L2 SortR LcM
theorem sorted_rows (rs : List (List Int)) : (rs.mergeSort fun p q => decide (p ≤ q)).Pairwise (· ≤ ·) := by
  have h := List.pairwise_mergeSort (le := fun p q : List Int => decide (p ≤ q)) (fun a b c h1 h2 => decide_eq_true (List.le_trans (of_decide_eq_true h1) (of_decide_eq_true h2)))
    (fun a b => by
      simp only [Bool.or_eq_true, decide_eq_true_eq]
      exact List.le_total a b) rs
  exact h.imp fun {a b} z => of_decide_eq_true z
theorem strict_rows {rs : List (List Int)} (h : rs.Pairwise (· ≤ ·)) (n : rs.Nodup) : rs.Pairwise (· < ·) :=
  (h.and n).imp fun {a b} z => (List.le_iff_lt_or_eq.mp z.1).resolve_right z.2
theorem ascR_of {rs : List (List Int)} (up : rs.Pairwise (· < ·)) : ascR rs = true := by
  unfold ascR
  refine List.all_eq_true.mpr fun i hi => ?_
  have il := List.mem_range.mp hi
  have l1 : i < rs.length := by omega
  have l2 : i + 1 < rs.length := by omega
  have e1 : rs.getD i [] = rs[i] := by rw [List.getD_eq_getElem?_getD, List.getElem?_eq_getElem l1]; rfl
  have e2 : rs.getD (i + 1) [] = rs[i + 1] := by rw [List.getD_eq_getElem?_getD, List.getElem?_eq_getElem l2]; rfl
  rw [e1, e2]
  exact decide_eq_true (List.pairwise_iff_getElem.mp up i (i + 1) l1 l2 (Nat.lt_succ_self i))
theorem Nest.lots_le : ∀ t : Nest, t.lots.Pairwise (· ≤ ·)
  | .leaf _ => List.Pairwise.nil
  | .node l r => sorted_rows _
/-- a nest of the persons 0 .. n - 1 -/
structure Nest.Full (t : Nest) (n : Nat) : Prop where
  nodup : t.lv.Nodup
  rng : ∀ x ∈ t.lv, 0 ≤ x ∧ x < n
  size : t.sz = n
theorem isP_lots {t : Nest} {n : Nat} (f : t.Full n) (h : n ≤ 20) : isP t.lots = true := by
  have len := t.lots_len
  rw [f.size] at len
  have ok := Nest.lot_ok t f.nodup
  have pos : ∀ q ∈ t.lots, ∀ x ∈ q, 0 ≤ x := fun q hq x hx => (f.rng x ((ok q hq).1 x hx)).1
  unfold isP
  simp only [Bool.and_eq_true, decide_eq_true_eq, Bool.not_eq_true']
  refine ⟨⟨⟨by omega, List.all_eq_true.mpr fun i hi => ?_⟩, ascR_of (strict_rows t.lots_le (Nest.lots_nodup t f.nodup))⟩, ?_⟩
  · have il := List.mem_range.mp hi
    have e : t.lots.getD i [] = t.lots[i] := by rw [List.getD_eq_getElem?_getD, List.getElem?_eq_getElem il]; rfl
    obtain ⟨a, b, c⟩ := ok _ (List.getElem_mem il)
    rw [e]
    unfold group
    rw [plist_of c fun x hx => ?_, Bool.true_and]
    · exact decide_eq_true (by omega)
    · have := f.rng x (a x hx)
      omega
  · unfold anyX
    refine List.any_eq_false.mpr fun k hk => ?_
    have kl := List.mem_range.mp hk
    obtain ⟨i, j, e⟩ : ∃ i j, (Comb.prs t.lots.length)[k] = (i, j) := ⟨_, _, rfl⟩
    have ek : (Comb.prs t.lots.length)[k]? = some (i, j) := by rw [List.getElem?_eq_getElem kl, e]
    obtain ⟨l1, l2, _⟩ := Comb.prs_step ek
    have ed : (Comb.prs t.lots.length).getD k (0, 0) = (i, j) := by rw [List.getD_eq_getElem?_getD, ek]; rfl
    have il : i < t.lots.length := by omega
    have e1 : t.lots.getD i [] = t.lots[i] := by rw [List.getD_eq_getElem?_getD, List.getElem?_eq_getElem il]; rfl
    have e2 : t.lots.getD j [] = t.lots[j] := by rw [List.getD_eq_getElem?_getD, List.getElem?_eq_getElem l2]; rfl
    rw [ed]
    show ¬ crossI (maskI (t.lots.getD i [])) (maskI (t.lots.getD j [])) = true
    rw [e1, e2]
    have m1 := List.getElem_mem il
    have m2 := List.getElem_mem l2
    rw [crossI_no (ok _ m1).2.2 (ok _ m2).2.2 (pos _ m1) (pos _ m2) (Nest.lots_nice t f.nodup _ m1 _ m2)]
    exact Bool.false_ne_true
end K03

namespace K03
open PySem PySem.Spec PyProof.Rows L2 SortR LcM
/-- the makers of all groups -/
def Nest.mks : Nest → List Int
  | .leaf _ => []
  | .node l r => max l.mn r.mn :: (l.mks ++ r.mks)
theorem Nest.mn_lv (t : Nest) : t.mn ∈ t.lv := (t.folk_perm.mem_iff).mp t.mn_ok.1
theorem Nest.mks_perm : ∀ t : Nest, (t.mn :: t.mks).Perm t.lv
  | .leaf _ => .refl _
  | .node l r => by
    have a := Nest.mks_perm l
    have b := Nest.mks_perm r
    have c : (l.mn :: l.mks ++ (r.mn :: r.mks)).Perm (l.lv ++ r.lv) := a.append b
    refine List.Perm.trans ?_ c
    show (min l.mn r.mn :: max l.mn r.mn :: (l.mks ++ r.mks)).Perm (l.mn :: (l.mks ++ (r.mn :: r.mks)))
    have d : (l.mn :: (l.mks ++ (r.mn :: r.mks))).Perm (l.mn :: r.mn :: (l.mks ++ r.mks)) := List.Perm.cons _ List.perm_middle
    refine List.Perm.trans ?_ d.symm
    rcases Int.le_total l.mn r.mn with h | h
    · rw [Int.min_eq_left h, Int.max_eq_right h]
    · rw [Int.min_eq_right h, Int.max_eq_left h]
      exact List.Perm.swap _ _ _
theorem Nest.put_pos {i f : Int} (hi : 0 ≤ i) : ∀ t : Nest, t.lv.Nodup → (∀ x ∈ t.lv, 0 ≤ x) → (t.put i f).lv.Perm (if i ∈ t.lv then t.lv ++ [f] else t.lv)
  | .leaf k, _, _ => by
    unfold Nest.put
    by_cases e : k = i
    · rw [if_pos e, if_pos (show i ∈ (Nest.leaf k).lv from List.mem_singleton.mpr e.symm)]
      exact .refl _
    · rw [if_neg e, if_neg (show ¬ i ∈ (Nest.leaf k).lv from fun z => e (List.mem_singleton.mp z).symm)]
  | .node l r, hn, hp => by
    obtain ⟨n1, n2, n3⟩ := List.nodup_append.mp hn
    have pl : ∀ x ∈ l.lv, 0 ≤ x := fun x hx => hp x (List.mem_append.mpr (.inl hx))
    have pr : ∀ x ∈ r.lv, 0 ≤ x := fun x hx => hp x (List.mem_append.mpr (.inr hx))
    have m1 := pl _ l.mn_lv
    have m2 := pr _ r.mn_lv
    have m3 : l.mn ≠ r.mn := n3 _ l.mn_lv _ r.mn_lv
    have a := Nest.put_pos hi l n1 pl (f := f)
    have b := Nest.put_pos hi r n2 pr (f := f)
    unfold Nest.put
    rw [if_neg (by omega)]
    show ((l.put i f).lv ++ (r.put i f).lv).Perm (if i ∈ l.lv ++ r.lv then (l.lv ++ r.lv) ++ [f] else l.lv ++ r.lv)
    by_cases h1 : i ∈ l.lv
    · have h2 : i ∉ r.lv := fun z => n3 i h1 i z rfl
      rw [if_pos h1] at a
      rw [if_neg h2] at b
      rw [if_pos (List.mem_append.mpr (.inl h1))]
      refine (a.append b).trans ?_
      rw [List.append_assoc, List.append_assoc]
      exact List.Perm.append_left _ List.perm_append_comm
    · rw [if_neg h1] at a
      by_cases h2 : i ∈ r.lv
      · rw [if_pos h2] at b
        rw [if_pos (List.mem_append.mpr (.inr h2))]
        refine (a.append b).trans ?_
        rw [List.append_assoc]
      · rw [if_neg h2] at b
        rw [if_neg fun z => (List.mem_append.mp z).elim h1 h2]
        exact a.append b
theorem Nest.put_neg {i f : Int} (hi : i < 0) : ∀ t : Nest, t.mks.Nodup → (∀ x ∈ t.lv, 0 ≤ x) → (t.put i f).lv.Perm (if 0 - i ∈ t.mks then t.lv ++ [f] else t.lv)
  | .leaf k, _, hp => by
    have := hp k (List.mem_singleton.mpr rfl)
    unfold Nest.put
    rw [if_neg (by omega), if_neg (show ¬ 0 - i ∈ (Nest.leaf k).mks from fun z => nomatch z)]
  | .node l r, hn, hp => by
    obtain ⟨n0, n⟩ := List.nodup_cons.mp hn
    obtain ⟨n1, n2, n3⟩ := List.nodup_append.mp n
    have a := Nest.put_neg hi l n1 (fun x hx => hp x (List.mem_append.mpr (.inl hx))) (f := f)
    have b := Nest.put_neg hi r n2 (fun x hx => hp x (List.mem_append.mpr (.inr hx))) (f := f)
    unfold Nest.put
    by_cases e : max l.mn r.mn = 0 - i
    · rw [if_pos e, if_pos (show 0 - i ∈ (Nest.node l r).mks from e ▸ List.mem_cons_self)]
      exact .refl _
    · rw [if_neg e]
      show ((l.put i f).lv ++ (r.put i f).lv).Perm (if 0 - i ∈ max l.mn r.mn :: (l.mks ++ r.mks) then (l.lv ++ r.lv) ++ [f] else l.lv ++ r.lv)
      by_cases h1 : 0 - i ∈ l.mks
      · have h2 : 0 - i ∉ r.mks := fun z => n3 _ h1 _ z rfl
        rw [if_pos h1] at a
        rw [if_neg h2] at b
        rw [if_pos (List.mem_cons_of_mem _ (List.mem_append.mpr (.inl h1)))]
        refine (a.append b).trans ?_
        rw [List.append_assoc, List.append_assoc]
        exact List.Perm.append_left _ List.perm_append_comm
      · rw [if_neg h1] at a
        by_cases h2 : 0 - i ∈ r.mks
        · rw [if_pos h2] at b
          rw [if_pos (List.mem_cons_of_mem _ (List.mem_append.mpr (.inr h2)))]
          refine (a.append b).trans ?_
          rw [List.append_assoc]
        · rw [if_neg h2] at b
          rw [if_neg fun z => (List.mem_cons.mp z).elim (fun q => e q.symm) fun q => (List.mem_append.mp q).elim h1 h2]
          exact a.append b
/-- who comes by an item within its bounds comes once -/
theorem Nest.put_full {t : Nest} {n : Nat} (f : t.Full n) (has : ∀ x : Nat, x < n → (x : Int) ∈ t.lv) {i : Int} (h0 : -(n : Int) < i) (h1 : i < n) (hn : 0 < n) : (t.put i n).Full (n + 1) ∧ ∀ x : Nat, x < n + 1 → (x : Int) ∈ (t.put i n).lv := by
  have perm : (t.put i n).lv.Perm (t.lv ++ [(n : Int)]) := by
    by_cases hi : 0 ≤ i
    · have p := Nest.put_pos hi t f.nodup (fun x hx => (f.rng x hx).1) (f := n)
      have m : i ∈ t.lv := by
        have := has i.toNat (by omega)
        rw [Int.toNat_of_nonneg hi] at this
        exact this
      rw [if_pos m] at p
      exact p
    · have nd : (t.mn :: t.mks).Nodup := (t.mks_perm.nodup_iff).mpr f.nodup
      have p := Nest.put_neg (by omega) t (List.nodup_cons.mp nd).2 (fun x hx => (f.rng x hx).1) (f := n) (i := i)
      have m : 0 - i ∈ t.mks := by
        have q : 0 - i ∈ t.lv := by
          have := has (0 - i).toNat (by omega)
          rw [Int.toNat_of_nonneg (by omega)] at this
          exact this
        have zero := has 0 hn
        have least : t.mn = 0 := by
          have a := t.mn_ok.2 0 ((t.folk_perm.mem_iff).mpr zero)
          have b := (f.rng _ t.mn_lv).1
          omega
        rcases List.mem_cons.mp ((t.mks_perm.mem_iff).mpr q) with z | z
        · omega
        · exact z
      rw [if_pos m] at p
      exact p
  refine ⟨⟨(perm.nodup_iff).mpr (List.nodup_append.mpr ⟨f.nodup, List.nodup_cons.mpr ⟨(fun z => nomatch z), List.Pairwise.nil⟩, fun a ha b hb e => ?_⟩), fun x hx => ?_, ?_⟩, fun x hx => (perm.mem_iff).mpr ?_⟩
  · have := (f.rng a ha).2
    have eb : b = n := by simpa using hb
    omega
  · rcases List.mem_append.mp ((perm.mem_iff).mp hx) with z | z
    · have := f.rng x z
      omega
    · have eb : x = n := by simpa using z
      omega
  · rw [← Nest.sz_lv, perm.length_eq, List.length_append, Nest.sz_lv, f.size]
    rfl
  · by_cases e : x < n
    · exact List.mem_append.mpr (.inl (has x e))
    · have : x = n := by omega
      rw [this]
      exact List.mem_append.mpr (.inr List.mem_cons_self)
theorem nestN_full (is : List Int) (h : Bnd is) : ∀ n, n ≤ is.length → (nestN is n).Full (n + 1) ∧ ∀ x : Nat, x < n + 1 → (x : Int) ∈ (nestN is n).lv
  | 0, _ => ⟨⟨List.nodup_cons.mpr ⟨(fun z => nomatch z), List.Pairwise.nil⟩, fun x hx => by rw [List.mem_singleton.mp hx]; omega, rfl⟩, fun x hx => by
      have : x = 0 := by omega
      rw [this]
      exact List.mem_singleton.mpr rfl⟩
  | n + 1, hn => by
    obtain ⟨f, has⟩ := nestN_full is h n (Nat.le_of_succ_le hn)
    have e : is[n]? = some is[n] := List.getElem?_eq_getElem hn
    have b := h n _ e
    have eg : is.getD n 0 = is[n] := by rw [List.getD_eq_getElem?_getD, e]; rfl
    have q := Nest.put_full f has (i := is.getD n 0) (by rw [eg]; omega) (by rw [eg]; omega) (Nat.succ_pos n)
    exact q
end K03

namespace K03
open PySem PySem.Spec PyProof.Rows L2 SortR LcM
theorem asc_ext {α : Type} {R : α → α → Prop} (no : ∀ a b, R a b → R b a → False) : ∀ {xs ys : List α}, xs.Pairwise R → ys.Pairwise R → (∀ z, z ∈ xs ↔ z ∈ ys) → xs = ys
  | [], [], _, _, _ => rfl
  | [], y :: ys, _, _, h => nomatch (h y).mpr List.mem_cons_self
  | x :: xs, [], _, _, h => nomatch (h x).mp List.mem_cons_self
  | x :: xs, y :: ys, a, b, h => by
    obtain ⟨a1, a2⟩ := List.pairwise_cons.mp a
    obtain ⟨b1, b2⟩ := List.pairwise_cons.mp b
    have e : x = y := by
      rcases List.mem_cons.mp ((h x).mp List.mem_cons_self) with e | m
      · exact e
      · rcases List.mem_cons.mp ((h y).mpr List.mem_cons_self) with e | m2
        · exact e.symm
        · exact (no _ _ (a1 _ m2) (b1 _ m)).elim
    subst e
    rw [asc_ext no a2 b2 fun z => ⟨fun m => ?_, fun m => ?_⟩]
    · rcases List.mem_cons.mp ((h z).mp (List.mem_cons_of_mem _ m)) with e | q
      · subst e
        exact (no _ _ (a1 _ m) (a1 _ m)).elim
      · exact q
    · rcases List.mem_cons.mp ((h z).mpr (List.mem_cons_of_mem _ m)) with e | q
      · subst e
        exact (no _ _ (b1 _ m) (b1 _ m)).elim
      · exact q
theorem up_ext {xs ys : List Int} (a : xs.Pairwise (· < ·)) (b : ys.Pairwise (· < ·)) (h : ∀ z, z ∈ xs ↔ z ∈ ys) : xs = ys := asc_ext (fun x y p q => by omega) a b h
theorem up_nodup {xs : List Int} (a : xs.Pairwise (· < ·)) : xs.Nodup := a.imp fun {x y} h => by omega
/-! ### places -/
theorem plcN_some {ns : List Int} {x : Int} : ∀ {n j : Nat}, plcN ns x n = some j → j < n ∧ ns.getD j 0 = x
  | 0, _, h => nomatch h
  | n + 1, j, h => by
    unfold plcN at h
    by_cases e : ns.getD n 0 = x
    · rw [if_pos e] at h
      cases h
      exact ⟨Nat.lt_succ_self n, e⟩
    · rw [if_neg e] at h
      have q := plcN_some h
      exact ⟨Nat.lt_succ_of_lt q.1, q.2⟩
theorem plcN_has {ns : List Int} {x : Int} : ∀ {n k : Nat}, k < n → ns.getD k 0 = x → ∃ j, plcN ns x n = some j
  | 0, _, h, _ => nomatch h
  | n + 1, k, h, e => by
    unfold plcN
    by_cases q : ns.getD n 0 = x
    · exact ⟨n, if_pos q⟩
    · rw [if_neg q]
      have ne : k ≠ n := fun z => q (z ▸ e)
      exact plcN_has (by omega) e
theorem getD_at {ns : List Int} {j : Nat} (h : j < ns.length) : ns.getD j 0 = ns[j] := by
  rw [List.getD_eq_getElem?_getD, List.getElem?_eq_getElem h]
  rfl
theorem nodup_at {ns : List Int} (nd : ns.Nodup) {i j : Nat} (hi : i < ns.length) (hj : j < ns.length) (e : ns.getD i 0 = ns.getD j 0) : i = j := by
  rw [getD_at hi, getD_at hj] at e
  have pw := List.pairwise_iff_getElem.mp nd
  rcases Nat.lt_trichotomy i j with l | l | l
  · exact absurd e (pw i j hi hj l)
  · exact l
  · exact absurd e.symm (pw j i hj hi l)
theorem idx_at {ns : List Int} {x : Int} (h : x ∈ ns) : ns.idxOf x < ns.length ∧ ns.getD (ns.idxOf x) 0 = x := by
  have l := List.idxOf_lt_length_of_mem h
  exact ⟨l, (getD_at l).trans (List.getElem_idxOf l)⟩
theorem idx_of {ns : List Int} (nd : ns.Nodup) {j : Nat} (h : j < ns.length) {x : Int} (e : ns.getD j 0 = x) : ns.idxOf x = j := by
  have m : x ∈ ns := by
    rw [← e, getD_at h]
    exact List.getElem_mem h
  obtain ⟨l, q⟩ := idx_at m
  exact nodup_at nd l h (q.trans e.symm)
theorem plc_eq {ns : List Int} (nd : ns.Nodup) (x : Int) : plc ns x = if x ∈ ns then some (ns.idxOf x) else none := by
  unfold plc
  by_cases m : x ∈ ns
  · rw [if_pos m]
    obtain ⟨l, q⟩ := idx_at m
    obtain ⟨j, e⟩ := plcN_has l q
    obtain ⟨jl, je⟩ := plcN_some e
    rw [e, idx_of nd jl je]
  · rw [if_neg m]
    rcases Option.eq_none_or_eq_some (plcN ns x ns.length) with z | ⟨j, z⟩
    · exact z
    · obtain ⟨jl, je⟩ := plcN_some z
      refine absurd ?_ m
      rw [← je, getD_at jl]
      exact List.getElem_mem jl
/-- those of r who stay, by their places -/
def cm (ns r : List Int) : List Int := (r.filter fun x => decide (x ∈ ns)).map fun x => ((ns.idxOf x : Nat) : Int)
theorem meet_cm {ns : List Int} (nd : ns.Nodup) (r : List Int) : meet ns r = cm ns r := by
  have e : (List.range r.length).map (fun i => r.getD i 0) = r := (rng_map r 0 id).trans (List.map_id r)
  have k : cm ns r = cm ns ((List.range r.length).map fun i => r.getD i 0) := by rw [e]
  rw [k]
  unfold meet cm
  rw [List.filter_map, List.map_map]
  have f : (fun i => (plc ns (r.getD i 0)).isSome) = (fun x => decide (x ∈ ns)) ∘ fun i => r.getD i 0 := by
    funext i
    show (plc ns (r.getD i 0)).isSome = decide (r.getD i 0 ∈ ns)
    rw [plc_eq nd]
    by_cases m : r.getD i 0 ∈ ns
    · rw [if_pos m, decide_eq_true m]; rfl
    · rw [if_neg m, decide_eq_false m]; rfl
  rw [f]
  refine List.map_congr_left fun i hi => ?_
  have m : r.getD i 0 ∈ ns := of_decide_eq_true (List.mem_filter.mp hi).2
  show (((plc ns (r.getD i 0)).getD 0 : Nat) : Int) = ((ns.idxOf (r.getD i 0) : Nat) : Int)
  rw [plc_eq nd, if_pos m]
  rfl
theorem mem_cm {ns r : List Int} {z : Int} : z ∈ cm ns r ↔ ∃ x, x ∈ r ∧ x ∈ ns ∧ z = ((ns.idxOf x : Nat) : Int) := by
  unfold cm
  rw [List.mem_map]
  constructor
  · rintro ⟨x, h, e⟩
    obtain ⟨h1, h2⟩ := List.mem_filter.mp h
    exact ⟨x, h1, of_decide_eq_true h2, e.symm⟩
  · rintro ⟨x, h1, h2, e⟩
    exact ⟨x, List.mem_filter.mpr ⟨h1, decide_eq_true h2⟩, e.symm⟩
theorem idx_inj {ns : List Int} {x y : Int} (hx : x ∈ ns) (hy : y ∈ ns) (e : ns.idxOf x = ns.idxOf y) : x = y := by
  rw [← (idx_at hx).2, ← (idx_at hy).2, e]
theorem idx_up {ns : List Int} (up : ns.Pairwise (· < ·)) {x y : Int} (hx : x ∈ ns) (hy : y ∈ ns) (l : x < y) : ns.idxOf x < ns.idxOf y := by
  obtain ⟨a, ea⟩ := idx_at hx
  obtain ⟨b, eb⟩ := idx_at hy
  rw [getD_at a] at ea
  rw [getD_at b] at eb
  rcases Nat.lt_or_ge (ns.idxOf x) (ns.idxOf y) with h | h
  · exact h
  · rcases Nat.lt_or_eq_of_le h with h | h
    · have := List.pairwise_iff_getElem.mp up _ _ b a h
      omega
    · have := idx_inj hx hy h.symm
      omega
theorem cm_up {ns r : List Int} (up : ns.Pairwise (· < ·)) (ur : r.Pairwise (· < ·)) : (cm ns r).Pairwise (· < ·) := by
  unfold cm
  rw [List.pairwise_map]
  refine (ur.filter _).imp_of_mem fun {a b} ha hb l => ?_
  have := idx_up up (of_decide_eq_true (List.mem_filter.mp ha).2) (of_decide_eq_true (List.mem_filter.mp hb).2) l
  omega
theorem cm_nodup {ns r : List Int} (nd : r.Nodup) : (cm ns r).Nodup := by
  unfold cm List.Nodup
  rw [List.pairwise_map]
  refine (List.Pairwise.filter _ nd).imp_of_mem fun {a b} ha hb ne e => ?_
  exact ne (idx_inj (of_decide_eq_true (List.mem_filter.mp ha).2) (of_decide_eq_true (List.mem_filter.mp hb).2) (by omega))
theorem cm_append (ns r q : List Int) : cm ns (r ++ q) = cm ns r ++ cm ns q := by
  unfold cm
  rw [List.filter_append, List.map_append]
end K03

namespace K03
open PySem PySem.Spec PyProof.Rows L2 SortR LcM
def lvO : Option Nest → List Int
  | none => []
  | some a => a.lv
def lotsO : Option Nest → List (List Int)
  | none => []
  | some a => a.lots
def folkO : Option Nest → List Int
  | none => []
  | some a => a.folk
theorem Nest.cut_lv (ns : List Int) : ∀ t : Nest, lvO (t.cut ns) = cm ns t.lv
  | .leaf i => by
    unfold Nest.cut
    by_cases h : i ∈ ns
    · rw [if_pos h]
      show [((ns.idxOf i : Nat) : Int)] = cm ns [i]
      unfold cm
      rw [List.filter_cons, if_pos (decide_eq_true h)]
      rfl
    · rw [if_neg h]
      show [] = cm ns [i]
      unfold cm
      rw [List.filter_cons, if_neg (by rw [decide_eq_false h]; exact Bool.false_ne_true)]
      rfl
  | .node l r => by
    have a := Nest.cut_lv ns l
    have b := Nest.cut_lv ns r
    show lvO (Nest.cut ns (.node l r)) = cm ns (l.lv ++ r.lv)
    rw [cm_append, ← a, ← b, Nest.cut]
    cases Nest.cut ns l <;> cases Nest.cut ns r <;> simp [lvO, Nest.lv]
theorem Nest.cut_nodup {ns : List Int} {t a : Nest} (nd : t.lv.Nodup) (h : t.cut ns = some a) : a.lv.Nodup := by
  have e := t.cut_lv ns
  rw [h] at e
  show a.lv.Nodup
  rw [show a.lv = cm ns t.lv from e]
  exact cm_nodup nd
theorem Nest.cut_folk {ns : List Int} (up : ns.Pairwise (· < ·)) {t : Nest} (nd : t.lv.Nodup) : folkO (t.cut ns) = cm ns t.folk := by
  have e := t.cut_lv ns
  have mem : ∀ z, z ∈ cm ns t.lv ↔ z ∈ cm ns t.folk := fun z => by
    rw [mem_cm, mem_cm]
    exact ⟨fun ⟨x, a, b⟩ => ⟨x, t.folk_perm.mem_iff.mpr a, b⟩, fun ⟨x, a, b⟩ => ⟨x, t.folk_perm.mem_iff.mp a, b⟩⟩
  have u2 := cm_up up (Nest.folk_up nd)
  rcases Option.eq_none_or_eq_some (t.cut ns) with h | ⟨a, h⟩
  · rw [h] at e ⊢
    refine up_ext List.Pairwise.nil u2 fun z => ?_
    rw [← mem z, ← e]
    rfl
  · have n2 := Nest.cut_nodup nd h
    rw [h] at e ⊢
    refine up_ext (Nest.folk_up n2) u2 fun z => ?_
    rw [← mem z, ← e]
    exact a.folk_perm.mem_iff
theorem Nest.folk_in {a : Nest} (h : 2 ≤ a.folk.length) : a.folk ∈ a.lots := by
  cases a with
  | leaf i => exact absurd h (by show ¬ 2 ≤ 1; decide)
  | node l r => exact Nest.lots_mem.mpr (.inl rfl)
theorem Nest.cut_lots {ns : List Int} (up : ns.Pairwise (· < ·)) : ∀ t : Nest, t.lv.Nodup → ∀ q, q ∈ lotsO (t.cut ns) ↔ 2 ≤ q.length ∧ ∃ r ∈ t.lots, q = cm ns r
  | .leaf i, _, q => by
    constructor
    · intro h
      unfold Nest.cut at h
      split at h <;> exact nomatch h
    · rintro ⟨_, r, h, _⟩
      exact nomatch h
  | .node l r, nd, q => by
    obtain ⟨n1, n2, n3⟩ := List.nodup_append.mp nd
    have il := Nest.cut_lots up l n1 q
    have ir := Nest.cut_lots up r n2 q
    have fk := Nest.cut_folk up (t := .node l r) nd
    have rhs : (2 ≤ q.length ∧ ∃ s ∈ (Nest.node l r).lots, q = cm ns s) ↔ (2 ≤ q.length ∧ q = cm ns (Nest.node l r).folk) ∨ q ∈ lotsO (l.cut ns) ∨ q ∈ lotsO (r.cut ns) := by
      rw [il, ir]
      constructor
      · rintro ⟨a, s, m, e⟩
        rcases Nest.lots_mem.mp m with m | m | m
        · exact .inl ⟨a, m ▸ e⟩
        · exact .inr (.inl ⟨a, s, m, e⟩)
        · exact .inr (.inr ⟨a, s, m, e⟩)
      · rintro (⟨a, e⟩ | ⟨a, s, m, e⟩ | ⟨a, s, m, e⟩)
        · exact ⟨a, _, Nest.lots_mem.mpr (.inl rfl), e⟩
        · exact ⟨a, s, Nest.lots_mem.mpr (.inr (.inl m)), e⟩
        · exact ⟨a, s, Nest.lots_mem.mpr (.inr (.inr m)), e⟩
    rw [rhs, ← fk]
    have one : ∀ a : Nest, (2 ≤ q.length ∧ q = a.folk) → q ∈ a.lots := fun a ⟨h, e⟩ => by
      subst e
      exact Nest.folk_in h
    rw [Nest.cut]
    cases l.cut ns with
    | none =>
      cases r.cut ns with
      | none =>
        show q ∈ [] ↔ (2 ≤ q.length ∧ q = []) ∨ q ∈ [] ∨ q ∈ []
        constructor
        · exact fun h => nomatch h
        · rintro (⟨a, e⟩ | h | h)
          · subst e
            exact absurd a (by decide)
          · exact h
          · exact h
      | some b =>
        show q ∈ b.lots ↔ (2 ≤ q.length ∧ q = b.folk) ∨ q ∈ [] ∨ q ∈ b.lots
        constructor
        · exact fun h => .inr (.inr h)
        · rintro (h | h | h)
          · exact one b h
          · exact nomatch h
          · exact h
    | some a =>
      cases r.cut ns with
      | none =>
        show q ∈ a.lots ↔ (2 ≤ q.length ∧ q = a.folk) ∨ q ∈ a.lots ∨ q ∈ []
        constructor
        · exact fun h => .inr (.inl h)
        · rintro (h | h | h)
          · exact one a h
          · exact h
          · exact nomatch h
      | some b =>
        show q ∈ (Nest.node a b).lots ↔ (2 ≤ q.length ∧ q = (Nest.node a b).folk) ∨ q ∈ a.lots ∨ q ∈ b.lots
        rw [Nest.lots_mem]
        constructor
        · rintro (h | h)
          · refine .inl ⟨?_, h⟩
            rw [h, Nest.folk_len]
            have := a.sz_pos
            have := b.sz_pos
            show 2 ≤ a.sz + b.sz
            omega
          · exact .inr h
        · rintro (⟨_, h⟩ | h)
          · exact .inl h
          · exact .inr h
/-! ### cut, as rows -/
theorem firsts_has {p : Nat → Bool} {M : Nat → List Int} : ∀ {n i : Nat}, i < n → p i = true → M i ∈ firsts p M n
  | 0, _, h, _ => nomatch h
  | n + 1, i, h, hp => by
    unfold firsts
    by_cases e : i = n
    · subst e
      rw [if_pos hp]
      split
      · assumption
      · exact List.mem_append.mpr (.inr (List.mem_singleton.mpr rfl))
    · have old := firsts_has (M := M) (show i < n by omega) hp
      split
      · split
        · exact old
        · exact List.mem_append.mpr (.inl old)
      · exact old
theorem firsts_nodup {p : Nat → Bool} {M : Nat → List Int} : ∀ n : Nat, (firsts p M n).Nodup
  | 0 => List.Pairwise.nil
  | n + 1 => by
    have ih := firsts_nodup (p := p) (M := M) n
    unfold firsts
    split
    · split
      · exact ih
      · rename_i h
        refine List.nodup_append.mpr ⟨ih, List.nodup_cons.mpr ⟨(fun z => nomatch z), List.Pairwise.nil⟩, fun a ha b hb e => ?_⟩
        rw [List.mem_singleton.mp hb] at e
        exact h (e ▸ ha)
    · exact ih
theorem mem_cutR {ns : List Int} (nd : ns.Nodup) {rs : List (List Int)} {q : List Int} : q ∈ cutR rs ns ↔ 2 ≤ q.length ∧ ∃ r ∈ rs, q = cm ns r := by
  unfold cutR
  rw [List.mem_mergeSort]
  constructor
  · intro h
    obtain ⟨i, il, hp, rfl⟩ := firsts_of _ _ _ _ h
    unfold two at hp
    have := of_decide_eq_true hp
    refine ⟨by omega, rs.getD i [], ?_, meet_cm nd _⟩
    rw [List.getD_eq_getElem?_getD, List.getElem?_eq_getElem il]
    exact List.getElem_mem il
  · rintro ⟨h, r, m, e⟩
    obtain ⟨i, il, rfl⟩ := List.getElem_of_mem m
    have er : rs.getD i [] = rs[i] := by rw [List.getD_eq_getElem?_getD, List.getElem?_eq_getElem il]; rfl
    have f := firsts_has (p := fun i => two (meet ns (rs.getD i []))) (M := fun i => meet ns (rs.getD i [])) il (by
      show two (meet ns (rs.getD i [])) = true
      unfold two
      rw [meet_cm nd, er, ← e]
      exact decide_eq_true (by omega))
    have ef : meet ns (rs.getD i []) = q := by rw [meet_cm nd, er, ← e]
    rw [← ef]
    exact f
theorem cutR_up (ns : List Int) (rs : List (List Int)) : (cutR rs ns).Pairwise (· < ·) :=
  strict_rows (sorted_rows _) (((List.mergeSort_perm _ _).nodup_iff).mpr (firsts_nodup _))
theorem row_no (a b : List Int) (p : a < b) (q : b < a) : False := List.lt_irrefl a (List.lt_trans p q)
theorem cutR_lots {ns : List Int} (up : ns.Pairwise (· < ·)) {t : Nest} (nd : t.lv.Nodup) : cutR t.lots ns = lotsO (t.cut ns) := by
  refine asc_ext row_no (cutR_up _ _) ?_ fun q => (mem_cutR (up_nodup up)).trans (Nest.cut_lots up t nd q).symm
  rcases Option.eq_none_or_eq_some (t.cut ns) with h | ⟨a, h⟩
  · rw [h]
    exact List.Pairwise.nil
  · have n2 := Nest.cut_nodup nd h
    rw [h]
    exact strict_rows a.lots_le (Nest.lots_nodup a n2)
end K03

namespace K03
open PySem PySem.Spec PyProof.Rows L2 SortR LcM
/-- what a list of persons must be: ascending, within n -/
structure Some_ (n : Nat) (ns : List Int) : Prop where
  up : ns.Pairwise (· < ·)
  rng : ∀ x ∈ ns, 0 ≤ x ∧ x < n
  ne : ns ≠ []
theorem pair_of_step {ns : List Int} (h : ∀ i, i + 1 < ns.length → ns.getD i 0 < ns.getD (i + 1) 0) : ns.Pairwise (· < ·) := by
  refine List.pairwise_iff_getElem.mpr fun i j hi hj l => ?_
  have go : ∀ d : Nat, ∀ hj : i + d + 1 < ns.length, ns.getD i 0 < ns.getD (i + d + 1) 0 := by
    intro d
    induction d with
    | zero => exact fun hj => h i hj
    | succ d ih => exact fun hj => Int.lt_trans (ih (by omega)) (h _ hj)
  have := go (j - i - 1) (by omega)
  rw [show i + (j - i - 1) + 1 = j by omega] at this
  rw [getD_at hi, getD_at hj] at this
  exact this
theorem some_of {n : Nat} {ns : List Int} (h : plist n ns = true) (ne : ns ≠ []) : Some_ n ns := by
  unfold plist inR ascI at h
  rw [Bool.and_eq_true] at h
  obtain ⟨h1, h2⟩ := h
  refine ⟨pair_of_step fun i hi => ?_, fun x hx => ?_, ne⟩
  · exact of_decide_eq_true (List.all_eq_true.mp h2 i (List.mem_range.mpr (by omega)))
  · obtain ⟨i, il, rfl⟩ := List.getElem_of_mem hx
    have := List.all_eq_true.mp h1 i (List.mem_range.mpr il)
    rw [getD_at il, Bool.and_eq_true] at this
    exact ⟨of_decide_eq_true this.1, of_decide_eq_true this.2⟩
theorem Nest.cut_full {t : Nest} {n : Nat} (f : t.Full n) (has : ∀ x : Nat, x < n → (x : Int) ∈ t.lv) {ns : List Int} (k : Some_ n ns) :
    ∃ a, t.cut ns = some a ∧ a.Full ns.length ∧ (∀ x : Nat, x < ns.length → (x : Int) ∈ a.lv) := by
  have e := t.cut_lv ns
  have mem : ∀ x ∈ ns, x ∈ t.lv := fun x hx => by
    have := k.rng x hx
    have q := has x.toNat (by omega)
    rw [Int.toNat_of_nonneg this.1] at q
    exact q
  have len : (cm ns t.lv).length = ns.length := by
    unfold cm
    rw [List.length_map]
    refine ((List.perm_ext_iff_of_nodup (List.Pairwise.filter _ f.nodup) (up_nodup k.up)).mpr fun x => ?_).length_eq
    rw [List.mem_filter]
    exact ⟨fun h => of_decide_eq_true h.2, fun h => ⟨mem x h, decide_eq_true h⟩⟩
  rcases Option.eq_none_or_eq_some (t.cut ns) with h | ⟨a, h⟩
  · rw [h] at e
    rw [← e] at len
    exact absurd (List.length_eq_zero_iff.mp len.symm) k.ne
  · have nd := Nest.cut_nodup f.nodup h
    rw [h] at e
    have e' : a.lv = cm ns t.lv := e
    refine ⟨a, h, ⟨nd, fun x hx => ?_, ?_⟩, fun x hx => ?_⟩
    · rw [e'] at hx
      obtain ⟨y, _, hy, rfl⟩ := mem_cm.mp hx
      have := (idx_at hy).1
      omega
    · rw [← Nest.sz_lv, e', len]
    · rw [e']
      have m : ns[x] ∈ ns := List.getElem_mem hx
      refine mem_cm.mpr ⟨ns[x], mem _ m, m, ?_⟩
      rw [idx_of (up_nodup k.up) hx (getD_at hx)]
/-- the persons at these places -/
def pick (ns ms : List Int) : List Int := ms.map fun m => ns.getD m.toNat 0
theorem idx_map {f : Int → Int} : ∀ {ms : List Int} {m : Int}, (∀ x ∈ ms, f x = f m → x = m) → m ∈ ms → (ms.map f).idxOf (f m) = ms.idxOf m
  | [], _, _, h => nomatch h
  | x :: ms, m, inj, h => by
    rw [List.map_cons, List.idxOf_cons, List.idxOf_cons]
    by_cases e : x = m
    · subst e
      simp
    · have ne : f x ≠ f m := fun z => e (inj x List.mem_cons_self z)
      have hm : m ∈ ms := (List.mem_cons.mp h).resolve_left fun z => e z.symm
      rw [idx_map (fun y hy => inj y (List.mem_cons_of_mem _ hy)) hm, beq_eq_false_iff_ne.mpr e, beq_eq_false_iff_ne.mpr ne]
theorem Nest.cut_cut {n : Nat} {ns ms : List Int} (k : Some_ n ns) (k2 : Some_ ns.length ms) : ∀ t : Nest, t.cut (pick ns ms) = (t.cut ns).bind fun a => a.cut ms
  | .leaf i => by
    have nd := up_nodup k.up
    have val : ∀ m ∈ ms, m.toNat < ns.length ∧ ((m.toNat : Nat) : Int) = m := fun m hm => by
      have := k2.rng m hm
      omega
    have inj : ∀ x ∈ ms, ∀ y ∈ ms, ns.getD x.toNat 0 = ns.getD y.toNat 0 → x = y := fun x hx y hy e => by
      have := nodup_at nd (val x hx).1 (val y hy).1 e
      have := (val x hx).2
      have := (val y hy).2
      omega
    have mem : i ∈ pick ns ms ↔ i ∈ ns ∧ ((ns.idxOf i : Nat) : Int) ∈ ms := by
      unfold pick
      rw [List.mem_map]
      constructor
      · rintro ⟨m, hm, e⟩
        obtain ⟨v1, v2⟩ := val m hm
        have q := idx_of nd v1 e
        refine ⟨?_, ?_⟩
        · rw [← e, getD_at v1]
          exact List.getElem_mem v1
        · rw [q, v2]
          exact hm
      · rintro ⟨h1, h2⟩
        refine ⟨_, h2, ?_⟩
        rw [Int.toNat_natCast]
        exact (idx_at h1).2
    unfold Nest.cut
    by_cases h1 : i ∈ ns
    · rw [if_pos h1]
      show _ = (Nest.leaf ((ns.idxOf i : Nat) : Int)).cut ms
      unfold Nest.cut
      by_cases h2 : ((ns.idxOf i : Nat) : Int) ∈ ms
      · rw [if_pos h2, if_pos (mem.mpr ⟨h1, h2⟩)]
        have q := idx_map (f := fun m => ns.getD m.toNat 0) (ms := ms) (m := ((ns.idxOf i : Nat) : Int)) (fun x hx => inj x hx _ h2) h2
        have e : ns.getD ((ns.idxOf i : Nat) : Int).toNat 0 = i := by
          rw [Int.toNat_natCast]
          exact (idx_at h1).2
        have q' : (pick ns ms).idxOf i = ms.idxOf ((ns.idxOf i : Nat) : Int) := by
          refine Eq.trans ?_ q
          show _ = (ms.map fun m => ns.getD m.toNat 0).idxOf (ns.getD ((ns.idxOf i : Nat) : Int).toNat 0)
          rw [e]
          rfl
        rw [q']
      · rw [if_neg h2, if_neg fun z => h2 (mem.mp z).2]
    · rw [if_neg h1, if_neg fun z => h1 (mem.mp z).1]
      rfl
  | .node l r => by
    have a := Nest.cut_cut k k2 l
    have b := Nest.cut_cut k k2 r
    show Nest.cut (pick ns ms) (.node l r) = (Nest.cut ns (.node l r)).bind fun a => a.cut ms
    rw [Nest.cut, Nest.cut]
    rw [a, b]
    cases l.cut ns with
    | none =>
      cases r.cut ns with
      | none => rfl
      | some y =>
        show (match (none : Option Nest), y.cut ms with
          | some a, some b => some (Nest.node a b)
          | some a, none => some a
          | none, some b => some b
          | none, none => none) = y.cut ms
        cases y.cut ms <;> rfl
    | some x =>
      cases r.cut ns with
      | none =>
        show (match x.cut ms, (none : Option Nest) with
          | some a, some b => some (Nest.node a b)
          | some a, none => some a
          | none, some b => some b
          | none, none => none) = x.cut ms
        cases x.cut ms <;> rfl
      | some y => rfl
/-- all persons -/
def allP (n : Nat) : List Int := (List.range n).map fun i => (0 + (i : Nat) : Int)
theorem all_some {n : Nat} (h : 0 < n) : Some_ n (allP n) := ⟨rg_up n, rg_in n, fun z => by
  have := congrArg List.length z
  unfold allP at this
  rw [List.length_map, List.length_range] at this
  exact absurd this (by show ¬ n = 0; omega)⟩
theorem all_idx {n : Nat} {i : Int} (h : 0 ≤ i ∧ i < n) : i ∈ allP n ∧ (((allP n).idxOf i : Nat) : Int) = i := by
  have len : (allP n).length = n := by
    unfold allP
    rw [List.length_map, List.length_range]
  have e : (allP n).getD i.toNat 0 = i := by
    rw [getD_at (by omega)]
    unfold allP
    rw [List.getElem_map, List.getElem_range]
    omega
  have q := idx_of (up_nodup (rg_up n)) (ns := allP n) (j := i.toNat) (by omega) e
  refine ⟨?_, ?_⟩
  · rw [← e, getD_at (show i.toNat < (allP n).length by omega)]
    exact List.getElem_mem _
  · rw [q]
    omega
theorem Nest.cut_all {n : Nat} : ∀ t : Nest, (∀ x ∈ t.lv, 0 ≤ x ∧ x < n) → t.cut (allP n) = some t
  | .leaf i, h => by
    obtain ⟨a, b⟩ := all_idx (h i (List.mem_singleton.mpr rfl))
    unfold Nest.cut
    rw [if_pos a, b]
  | .node l r, h => by
    have a := Nest.cut_all l fun x hx => h x (List.mem_append.mpr (.inl hx))
    have b := Nest.cut_all r fun x hx => h x (List.mem_append.mpr (.inr hx))
    rw [Nest.cut, a, b]
end K03

namespace K03
open PySem PySem.Spec PyProof.Rows L2 SortR LcM
structure TxtW (mg : Str → Option Value) : Prop extends TxtP mg, Txt0 mg where
  repr : mg "repr" = none
/-- all defs that the law reaches, where they stand -/
structure LawF (K : PySem.W.Frag) (mg : Str → Option Value) where
  Z : ProgF K mg
  T : TxtW mg
  (fPouch fDip fItems fFolk fPut fNest fLots fCutL fKept fCut fCutTo : Addr)
  (dPouch dDip dItems dFolk dPut dNest dLots dCutL dKept dCut dCutTo : FuncData)
  FPouch : Fun K "_law_pouch" "_law_pouch" sPouch fPouch dPouch
  FDip : Fun K "_law_dip" "_law_dip" sDip fDip dDip
  FItems : Fun K "_law_items" "_law_items" sItems fItems dItems
  FFolk : Fun K "_law_folk" "_law_folk" sFolk fFolk dFolk
  FPut : Fun K "_law_put" "_law_put" sPut fPut dPut
  FNest : Fun K "_law_nest" "_law_nest" sNest fNest dNest
  FLots : Fun K "_law_lots" "_law_lots" sLots fLots dLots
  FCutL : Fun K "_law_cut" "_law_cut" sCutL fCutL dCutL
  FKept : Fun K "_law_kept" "_law_kept" sKept fKept dKept
  FCut : Fun K "cut" "cut" sCut fCut dCut
  FCutTo : Fun K "cut_to" "cut_to" sCutTo fCutTo dCutTo
  gPouch : mg "_law_pouch" = some (.ref fPouch)
  gDip : mg "_law_dip" = some (.ref fDip)
  gItems : mg "_law_items" = some (.ref fItems)
  gFolk : mg "_law_folk" = some (.ref fFolk)
  gPut : mg "_law_put" = some (.ref fPut)
  gNest : mg "_law_nest" = some (.ref fNest)
  gLots : mg "_law_lots" = some (.ref fLots)
  gCutL : mg "_law_cut" = some (.ref fCutL)
  gKept : mg "_law_kept" = some (.ref fKept)
  gCut : mg "cut" = some (.ref fCut)
  gCutTo : mg "cut_to" = some (.ref fCutTo)
  bPouch : Binds K dPouch ["script", "at"] []
  bDip : Binds K dDip ["pouch", "wide"] []
  bItems : Binds K dItems ["pouch", "many"] []
  bFolk : Binds K dFolk ["nest"] []
  bPut : Binds K dPut ["nest", "item", "fresh"] []
  bNest : Binds K dNest ["items"] []
  bLots : Binds K dLots ["nest"] []
  bCutL : Binds K dCutL ["nest", "kept"] []
  bKept : Binds K dKept ["pouch", "many"] []
  bCut : Binds K dCut ["parting", "some"] []
  bCutTo : Binds K dCutTo ["parting", "some"] []
  kbCutTo : KBinds K dCutTo ["parting", "some"] ["some", "parting"] (fun us ws => us ++ ws.reverse) (fun vs zs => vs ++ zs.reverse)
section
variable {P : Program} {w : World} {K : PySem.W.Frag} {mg : Str → Option Value} {base : Heap}
theorem LawF.TD (W : LawF K mg) : TxtD mg W.fDip := ⟨W.T.toTxt0, W.gDip⟩
theorem LawF.pouch (W : LawF K mg) : FnOk P w K mg base CX0 1 W.fPouch W.dPouch ["script", "at"] (spPouch K) := ok_pouch W.FPouch W.T.toTxt0
theorem LawF.dip (W : LawF K mg) : FnOk P w K mg base CX0 1 W.fDip W.dDip ["pouch", "wide"] spDip := ok_dip W.FDip W.T.toTxt0
theorem LawF.items (W : LawF K mg) : FnOk P w K mg base CX0 2 W.fItems W.dItems ["pouch", "many"] spItems := ok_items W.FItems W.TD W.FDip W.bDip
theorem LawF.nest (W : LawF K mg) : FnOk P w K mg base CX0 23 W.fNest W.dNest ["items"] (spNest K) := ok_nest W.FNest W.T.toTxtP W.gPut W.FPut W.bPut (ok_put W.FPut W.T.toTxtP W.T.toTxt0 W.gPut W.bPut W.FFolk W.gFolk W.bFolk 19)
theorem LawF.lots (W : LawF K mg) : FnOk P w K mg base CX0 22 W.fLots W.dLots ["nest"] (spLots K 19) := ok_lots W.FLots W.T.toTxtP W.gLots W.bLots W.FFolk W.gFolk W.bFolk 19
theorem LawF.cutL (W : LawF K mg) : FnOk P w K mg base CX0 21 W.fCutL W.dCutL ["nest", "kept"] (spCutL K 19) := ok_cutL W.FCutL W.T.toTxtP W.gCutL W.bCutL 19 (by decide)
theorem LawF.kept (W : LawF K mg) : FnOk P w K mg base CX0 2 W.fKept W.dKept ["pouch", "many"] spKept := ok_kept W.FKept W.T.toTxtP W.TD W.FDip W.bDip
theorem LawF.cutTo (W : LawF K mg) : FnOk P w K mg base CX0 7 W.fCutTo W.dCutTo ["parting", "some"] (spCutTo K) := ok_cutTo W.FCutTo W.Z W.T.toTxtP W.FCut W.gCut W.bCut
theorem LawF.is (W : LawF K mg) : FnOk P w K mg base CX0 5 W.Z.fIs W.Z.dIs ["thing"] (spIs K) := ok_is W.Z W.T.toTxtP
end
abbrev sRight : Stmt := top (21 + 9)
abbrev sOwn : Stmt := top (21 + 10)
theorem Nest.lot_len : ∀ (t : Nest), ∀ q ∈ t.lots, q.length ≤ t.sz
  | .leaf _, q, h => nomatch h
  | .node l r, q, h => by
    have e : (Nest.node l r).sz = l.sz + r.sz := rfl
    rcases Nest.lots_mem.mp h with m | m | m
    · rw [m, Nest.folk_len]
      exact Nat.le_refl _
    · have := Nest.lot_len l q m
      omega
    · have := Nest.lot_len r q m
      omega
structure Fit (t : Nest) (n : Nat) : Prop where
  full : t.Full n
  has : ∀ x : Nat, x < n → (x : Int) ∈ t.lv
  ht : t.ht ≤ 19
  le : n ≤ 20
theorem Fit.sz {t : Nest} {n : Nat} (f : Fit t n) : t.sz ≤ 600000 := by
  rw [f.full.size]
  exact Nat.le_trans f.le (by decide)
theorem Fit.len {t : Nest} {n : Nat} (f : Fit t n) : t.lots.length + 1 = n := by rw [t.lots_len, f.full.size]
theorem Fit.row {t : Nest} {n : Nat} (f : Fit t n) : ∀ r ∈ t.lots, Smalls r ∧ r.length ≤ 20 := fun r h => by
  refine ⟨fun x hx => ?_, ?_⟩
  · have a := f.full.rng x ((Nest.lot_ok t f.full.nodup r h).1 x hx)
    have b := f.le
    have : x.natAbs < 20 := by omega
    exact Nat.lt_trans this (by decide)
  · have a := Nest.lot_len t r h
    rw [f.full.size] at a
    exact Nat.le_trans a f.le
theorem Fit.rows {t : Nest} {n : Nat} (f : Fit t n) : Sz t.lots := by
  have a := f.len
  have b := f.le
  exact ⟨by omega, fun r h => Nat.le_trans (f.row r h).2 (by decide)⟩
theorem Fit.is {t : Nest} {n : Nat} (f : Fit t n) : isP t.lots = true := isP_lots f.full f.le
theorem fit_nest {xs : List Int} (h : Bnd xs) (l : xs.length ≤ 19) : Fit (nestN xs xs.length) (xs.length + 1) := by
  obtain ⟨a, b⟩ := nestN_full xs h xs.length (Nat.le_refl _)
  exact ⟨a, b, Nat.le_trans (nestN_ht xs _) l, by omega⟩
theorem Fit.cut {t : Nest} {n : Nat} (f : Fit t n) {ns : List Int} (k : Some_ n ns) (l : ns.length ≤ 20) : ∃ a, t.cut ns = some a ∧ Fit a ns.length := by
  obtain ⟨a, e, fa, ha⟩ := Nest.cut_full f.full f.has k
  exact ⟨a, e, fa, ha, Nat.le_trans (Nest.cut_ht ns t a e) f.ht, l⟩
theorem Fit.cutR {t a : Nest} {n : Nat} (f : Fit t n) {ns : List Int} (k : Some_ n ns) (e : t.cut ns = some a) : cutR t.lots ns = a.lots := by
  rw [cutR_lots k.up f.full.nodup, e]
  rfl
/-- lists of one's own, perhaps grown since -/
def Mine (H0 H : Hp) (ds : List (Addr × List Int)) (n : Nat) : Prop := Grows H0 H ∧ ∀ c ∈ ds, H0 c.1 = none ∧ ∃ zs, H c.1 = some (.lst zs) ∧ zs.length ≤ n
theorem grows_own {H0 H : Hp} {p : Addr} (g : Grows H0 H) (e : H0 p = none) (o : HO) : Grows H0 (upd H p o) := fun b u h => by
  have ne : b ≠ p := fun z => by rw [z, e] at h; cases h
  rw [upd_ne ne]
  exact g b u h
theorem Mine.step {H0 H : Hp} {ds : List (Addr × List Int)} {n : Nat} (h : Mine H0 H ds n) {c : Addr × List Int} (hc : c ∈ ds) {zs : List V} (e : H c.1 = some (.lst zs)) (x : V) : Mine H0 (upd H c.1 (.lst (zs ++ [x]))) ds (n + 1) := by
  obtain ⟨e0, zs', e', l'⟩ := h.2 c hc
  rw [e] at e'
  cases e'
  refine ⟨grows_own h.1 e0 _, fun d hd => ⟨(h.2 d hd).1, ?_⟩⟩
  by_cases q : d.1 = c.1
  · rw [q, upd_same]
    exact ⟨_, rfl, by rw [List.length_append]; exact Nat.succ_le_succ l'⟩
  · rw [upd_ne q]
    obtain ⟨_, us, eu, lu⟩ := h.2 d hd
    exact ⟨us, eu, Nat.le_succ_of_le lu⟩
theorem Mine.of {H0 H : Hp} {ds : List (Addr × List Int)} {n : Nat} (g : Grows H0 H) (nw : Nw H0 H ds) (l : ∀ r ∈ ds.map (·.2), r.length ≤ n) : Mine H0 H ds n :=
  ⟨g, fun c hc => ⟨nw.new c hc, _, nw.lists c hc, by rw [List.length_map]; exact l _ (List.mem_map.mpr ⟨c, hc, rfl⟩)⟩⟩
theorem rw_of {K : PySem.W.Frag} {H0 H : Hp} {a : Addr} {cs : List (Addr × List Int)} (nw : Nw H0 H cs) (top : H a = some (.lst (cs.map fun c => V.ref c.1))) : Rw K H a cs := ⟨SqL.of top, fun b m => SqL.of (nw.lists b m)⟩
theorem Rw.dp {K : PySem.W.Frag} {H : Hp} {a : Addr} {bs : List (Addr × List Int)} (r : Rw K H a bs) : Dp K H (.ref a) (PyData.list (rowD (bs.map (·.2)))) := .lst r.top (rows_data r.each)
def spTurn : Sp := fun vs H Q _ => ∃ (p : Addr) (mn m : Int), vs = [.ref p, .int mn] ∧ Pch H p m ∧ m < 2 ^ 49 ∧ 1 ≤ mn ∧ mn ≤ 20 ∧ ∀ H', Pch H' p (m + 400) → Gr p H H' → Q (.bl true) H'
section
variable {P : Program} {w : World} {K : PySem.W.Frag} {mg : Str → Option Value} {base : Heap}
theorem scOwn : FnScope ["pouch", "many", "lots", "found", "lot"] ["pouch", "many"] (defScope sOwn) := ⟨rfl, rfl, rfl, by decide +kernel, rfl, by decide +kernel, by decide +kernel⟩
theorem ok_own {f : Addr} {fd : FuncData} (F : Fun K "_law_own_right" "_law_own_right" sOwn f fd) (W : LawF K mg) : FnOk P w K mg base CX0 24 f fd ["pouch", "many"] spTurn := by
  refine F.ok scOwn (fun vs H Q E h => ?_) (fun cdv A outer s H vs Q E hr h => ?_)
  · obtain ⟨p, mn, m, rfl, _⟩ := h
    rfl
  · obtain ⟨p, mn, m, rfl, hP, hm, hmn, hmx, kq⟩ := h
    refine ⟨_, (pss_cons (ps_set (i := 2) scOwn.nd rfl (.inl rfl) (pe_call W.lots (hr.mono (by decide)) rfl W.gLots W.FLots.kp W.bLots .nil pass0 (pa_cons (pe_call W.nest (hr.mono (by decide)) rfl W.gNest W.FNest.kp W.bNest .nil pass0 (pa_cons (pe_call W.items (hr.mono (by decide)) rfl W.gItems W.FItems.kp W.bItems .nil pass0 (pa_cons (pv 0) (pa_cons (pv 1) pa_nil))) pa_nil)) pa_nil)))
      (pss_cons (ps_set (i := 3) scOwn.nd rfl (.inl rfl) (pe_call W.cutTo (hr.mono (by decide)) rfl W.gCutTo W.FCutTo.kp W.bCutTo .nil pass0 (pa_cons (pv 2) (pa_cons (pe_listRg rfl (by rfl) W.T.list (prg_1 (by rfl) W.T.range (pv 1))) pa_nil))))
      (pss_cons (ps_if (pt_cmpR (op_neD hr.units) (pv 3) (pv 2) (nomark _)) (pss_one (ps_ret pe_bl)) pss_nil)
      (pss_cons (ps_for PassesOwn.never rfl (pi_list (pv 3)) (pg_name (i := 4) scOwn.nd rfl (.inl rfl))
      (pss_one (ps_expr (pe_bm PySem.F.plainAttrs_list PySem.F.slot_list_append PySem.F.type_list_append mt_append (pv 4) (pa_cons pe_non pa_nil)))))
      (pss_cons (ps_expr (pe_bm PySem.F.plainAttrs_list PySem.F.slot_list_append PySem.F.type_list_append mt_append (pv 3) (pa_cons pe_non pa_nil)))
      (pss_one (ps_ret (pe_and (pe_cmpR (op_eqD hr.units) (pe_call W.cutTo (hr.mono (by decide)) rfl W.gCutTo W.FCutTo.kp W.bCutTo .nil pass0 (pa_cons (pv 2) (pa_cons (pe_listRg rfl (by rfl) W.T.list (prg_1 (by rfl) W.T.range (pv 1))) pa_nil))) (pv 2) (nomark _)) (pe_one (pe_cmpR op_eq (pe_callB call_len_seq (by rfl) W.T.len (by decide +kernel) (pa_cons (pv 2) pa_nil)) (pe_op op_sub (pv 1) pe_int) (nomark _))))))))))), ?_⟩
    refine ⟨_, rfl, _, rfl, p, mn, m, rfl, hP, by omega, hmn, hmx, fun l xs H1 hxl hb hP1 g1 n1 e1 => ?_⟩
    have x19 : xs.length ≤ 19 := by omega
    have ft := fit_nest hb x19
    have en : ((xs.length + 1 : Nat) : Int) = mn := by omega
    generalize ht : nestN xs xs.length = t at ft
    refine ⟨l, xs, rfl, SqL.of e1, x19, fun y H2 s2 nv => ?_⟩
    rw [ht] at nv
    refine ⟨y, t, rfl, nv, ft.ht, ft.sz, fun a cs H3 ecs s3 na nw ap top => ?_⟩
    have hP3 := hP1.same (s2.trans s3)
    have g3 : Gr p H H3 := g1.trans (s2.trans s3).gr
    refine ⟨_, rfl, _, rfl, mn, rfl, .of_le (by decide) (by omega) (by decide) (by omega), fun q1 hq1 => ?_⟩
    have eq : rgV 0 mn = (allP (xs.length + 1)).map V.int := by
      rw [rg_ints, ← en]
      rfl
    have al := all_some (n := xs.length + 1) (Nat.succ_pos _)
    have allen : (allP (xs.length + 1)).length = xs.length + 1 := by
      unfold allP
      rw [List.length_map, List.length_range]
    have ecut : cutR (cs.map (·.2)) (allP (xs.length + 1)) = t.lots := by rw [ecs, ft.cutR al (Nest.cut_all t ft.full.rng)]
    have rw3 : Rw K H3 a cs := rw_of nw top
    have csl : cs.length + 1 = xs.length + 1 := by
      have := ft.len
      rw [← ecs, List.length_map] at this
      exact this
    have pl : plist ((cs.length : Int) + 1) (allP (xs.length + 1)) = true := by
      rw [show ((cs.length : Int) + 1) = ((xs.length + 1 : Nat) : Int) by omega]
      exact plist_of al.up al.rng
    rw [eq]
    have gq : Grows H3 (upd H3 q1 (.lst ((allP (xs.length + 1)).map V.int))) := Grows.new hq1
    refine ⟨a, q1, cs, _, rfl, rw3.keep gq, by rw [ecs]; exact ft.rows, by rw [ecs]; exact ft.is, SqL.of upd_same, by omega, pl, al.ne, fun b ds H4 eds s4 nb nw4 ap4 top4 => ?_⟩
    rw [ecut] at eds
    have rw4 : Rw K H4 b ds := rw_of nw4 top4
    have rwl4 := (rw3.keep gq).keep s4
    refine ⟨_, rfl, _, rfl, _, _, rw4.dp, rwl4.dp, shaped_rows _, shaped_rows _, _, rfl, ?_⟩
    unfold rowD
    rw [eqv_rows, eds, ecs, decide_eq_true rfl]
    refine iteF ?_
    have hq : ∀ q, upd H3 q1 (.lst ((allP (xs.length + 1)).map V.int)) q = none → H3 q = none := fun q h => none_back gq h
    have dl : ds.length = t.lots.length := by
      have := congrArg List.length eds
      rw [List.length_map] at this
      exact this
    have tl := ft.len
    refine ⟨_, rfl, b, rfl, ⟨_, SqL.of top4⟩, for_list (K := K) (a := b) (xs := ds.map fun c => V.ref c.1) (fun i σ H' => ∃ o, σ = [some (.ref p), some (.int mn), some (.ref a), some (.ref b), o] ∧ Mine (upd H3 q1 (.lst ((allP (xs.length + 1)).map V.int))) H' ds (20 + i) ∧ H' b = some (.lst (ds.map fun c => V.ref c.1)))
      ⟨none, rfl, .of s4 nw4 fun r hr => (ft.row r (eds ▸ hr)).2, top4⟩ (fun i σ H' _ ⟨_, _, _, e⟩ => SqL.of e) (fun i x σ H' hx ⟨o, e, mi, eb⟩ => ?_) fun σ H' ⟨o, e, mi, eb⟩ => ?_⟩
    · subst e
      obtain ⟨il, ex⟩ := List.getElem?_eq_some_iff.mp hx
      rw [List.length_map] at il
      rw [List.getElem_map] at ex
      subst ex
      have mem : ds[i] ∈ ds := List.getElem_mem il
      obtain ⟨_, zs, ez, lz⟩ := mi.2 _ mem
      refine ⟨_, rfl, .inl ⟨rfl, _, SqL.of ez⟩, _, zs, _, rfl, rfl, ez, small1000 (by omega), _, rfl, mi.step mem ez _, ?_⟩
      rw [upd_ne (ap4 _ mem).symm]
      exact eb
    · subst e
      refine ⟨_, rfl, .inl ⟨rfl, _, SqL.of eb⟩, b, _, _, rfl, rfl, eb, small1000 (by rw [List.length_map]; omega), ?_⟩
      have g5 := grows_own mi.1 nb (.lst ((ds.map fun c => V.ref c.1) ++ [V.non]))
      have g35 := gq.trans g5
      refine ⟨_, rfl, _, rfl, mn, rfl, .of_le (by decide) (by omega) (by decide) (by omega), fun q2 hq2 => ?_⟩
      rw [eq]
      have g6 := g35.trans (Grows.new (o := .lst ((allP (xs.length + 1)).map V.int)) hq2)
      refine ⟨a, q2, cs, _, rfl, rw3.keep g6, by rw [ecs]; exact ft.rows, by rw [ecs]; exact ft.is, SqL.of upd_same, by omega, pl, al.ne, fun b2 ds2 H7 eds2 s7 nb2 nw7 ap7 top7 => ?_⟩
      rw [ecut] at eds2
      have rw7 : Rw K H7 b2 ds2 := rw_of nw7 top7
      have rwl7 := (rw3.keep g6).keep s7
      refine ⟨_, rfl, _, _, rw7.dp, rwl7.dp, shaped_rows _, shaped_rows _, _, rfl, ?_⟩
      unfold rowD
      rw [eqv_rows, eds2, ecs, decide_eq_true rfl]
      refine ⟨_, rfl, a, _, rfl, .inl rwl7.top, _, rfl, mn, 1, rfl, rfl, rfl, ?_⟩
      have fin : (V.int ((cs.map fun c => V.ref c.1).length : Nat) = V.int (mn - 1)) := by
        rw [List.length_map]
        exact congrArg V.int (by omega)
      rw [decide_eq_true fin]
      have g7 := g6.trans s7
      exact kq H7 ((hP3.same g7).le (by omega)) (g3.trans g7.gr)
end
end K03

namespace K03
open PySem PySem.Spec PyProof.Rows L2 SortR LcM RepA
/-- rows, as plain lists -/
structure Rl (H : Hp) (a : Addr) (cs : List (Addr × List Int)) : Prop where
  top : H a = some (.lst (cs.map fun c => V.ref c.1))
  each : ∀ c ∈ cs, H c.1 = some (.lst (c.2.map V.int))
theorem Rl.keep {H H' : Hp} {a : Addr} {cs : List (Addr × List Int)} (r : Rl H a cs) (g : Grows H H') : Rl H' a cs := ⟨g _ _ r.top, fun c m => g _ _ (r.each c m)⟩
theorem Rl.gr {H H' : Hp} {a p : Addr} {cs : List (Addr × List Int)} (r : Rl H a cs) (g : Gr p H H') (n : a ≠ p) (m : ∀ c ∈ cs, c.1 ≠ p) : Rl H' a cs := ⟨g _ _ n r.top, fun c mc => g _ _ (m c mc) (r.each c mc)⟩
theorem Rl.rw {K : PySem.W.Frag} {H : Hp} {a : Addr} {cs : List (Addr × List Int)} (r : Rl H a cs) : Rw K H a cs := ⟨SqL.of r.top, fun c m => SqL.of (r.each c m)⟩
theorem Pch.lst {H : Hp} {p : Addr} {m : Int} (h : Pch H p m) : ∃ zs, H p = some (.lst zs) := by
  obtain ⟨d, b, n, e, _⟩ := h
  exact ⟨_, e⟩
theorem NV.gr {K : PySem.W.Frag} {H H' : Hp} {x : V} {t : Nest} (n : NV K H x t) {p : Addr} {zs : List V} (e : H p = some (.lst zs)) (g : Gr p H H') : NV K H' x t := by
  induction n with
  | leaf i => exact .leaf i
  | node h _ _ a b =>
    refine .node (g _ _ (fun q => ?_) h) a b
    rw [q, e] at h
    cases h
theorem ints_dp {K : PySem.W.Frag} {H : Hp} {b : Addr} {ks : List Int} (e : SqL K H b (ks.map V.int)) : Dp K H (.ref b) (PyData.list (ks.map .int)) := .lst e (rows_dp ks)
theorem Some_.small {n : Nat} {ks : List Int} (k : Some_ n ks) (h : n ≤ 20) : Smalls ks := fun x hx => by
  have := k.rng x hx
  have : x.natAbs < 20 := by omega
  exact Nat.lt_trans this (by decide)
theorem Fit.brief {t : Nest} {n : Nat} (f : Fit t n) : Brief 20000 (PyData.list (rowD t.lots)) := by
  have b := brief_rows f.row
  have a := f.len
  have l := f.le
  refine ⟨b.sh, b.dp, b.lv, Nat.le_trans b.wt ?_⟩
  have : t.lots.length * (20 * 42 + 1) ≤ 19 * (20 * 42 + 1) := Nat.mul_le_mul_right _ (by omega)
  omega
theorem Some_.brief {n : Nat} {ks : List Int} (k : Some_ n ks) (h : n ≤ 20) (l : ks.length ≤ 20) : Brief 20000 (PyData.list (ks.map .int)) := by
  have b := brief_ints (k.small h)
  refine ⟨b.sh, b.dp, b.lv, Nat.le_trans b.wt ?_⟩
  omega
theorem pick_some {n : Nat} {ns ms : List Int} (k : Some_ n ns) (k2 : Some_ ns.length ms) : Some_ n (pick ns ms) := by
  have val : ∀ m ∈ ms, m.toNat < ns.length := fun m hm => by
    have := k2.rng m hm
    omega
  refine ⟨?_, fun x hx => ?_, fun z => k2.ne (List.map_eq_nil_iff.mp z)⟩
  · unfold pick
    rw [List.pairwise_map]
    refine k2.up.imp_of_mem fun {a b} ha hb l => ?_
    have r1 := k2.rng a ha
    have r2 := k2.rng b hb
    rw [getD_at (val a ha), getD_at (val b hb)]
    exact List.pairwise_iff_getElem.mp k.up _ _ (val a ha) (val b hb) (by omega)
  · unfold pick at hx
    obtain ⟨m, hm, e⟩ := List.mem_map.mp hx
    rw [getD_at (val m hm)] at e
    rw [← e]
    exact k.rng _ (List.getElem_mem _)
theorem eqv_rowD (rs qs : List (List Int)) : PyData.eqv (PyData.list (rowD rs)) (PyData.list (rowD qs)) = decide (rs = qs) := eqv_rows rs qs
theorem pick_len (ns ms : List Int) : (pick ns ms).length = ms.length := List.length_map _
section
variable {P : Program} {w : World} {K : PySem.W.Frag} {mg : Str → Option Value} {base : Heap}
theorem scRight : FnScope ["pouch", "many", "nest", "lots", "kept", "before", "due", "found", "lot", "again", "spot"] ["pouch", "many"] (defScope sRight) := ⟨rfl, rfl, rfl, by decide +kernel, rfl, by decide +kernel, by decide +kernel⟩
theorem ok_right {f : Addr} {fd : FuncData} (F : Fun K "_law_right" "_law_right" sRight f fd) (W : LawF K mg) : FnG P w K mg base CX0 24 f fd ["pouch", "many"] spTurn := by
  refine okG F scRight (fun vs H Q E h => ?_) (fun cdv A outer s H vs Q E hr noG h => ?_)
  · obtain ⟨p, mn, m, rfl, _⟩ := h
    rfl
  · obtain ⟨p, mn, m, rfl, hP, hm, hmn, hmx, kq⟩ := h
    refine ⟨_, (pss_cons (ps_set (i := 2) scRight.nd rfl (.inl rfl) (pe_call W.nest (hr.mono (by decide)) rfl W.gNest W.FNest.kp W.bNest .nil pass0 (pa_cons (pe_call W.items (hr.mono (by decide)) rfl W.gItems W.FItems.kp W.bItems .nil pass0 (pa_cons (pv 0) (pa_cons (pv 1) pa_nil))) pa_nil)))
      (pss_cons (ps_asg (pe_tup (pa_cons (pe_call W.lots (hr.mono (by decide)) rfl W.gLots W.FLots.kp W.bLots .nil pass0 (pa_cons (pv 2) pa_nil)) (pa_cons (pe_call W.kept (hr.mono (by decide)) rfl W.gKept W.FKept.kp W.bKept .nil pass0 (pa_cons (pv 0) (pa_cons (pv 1) pa_nil))) pa_nil))) (pg_tup (by rfl) (pgs_cons (pg_name (i := 3) scRight.nd rfl (.inl rfl)) (pgs_cons (pg_name (i := 4) scRight.nd rfl (.inr rfl)) pgs_nil))))
      (pss_cons (ps_par (i := 5) (j := 6) (by rfl) scRight.nd rfl rfl (by decide) rfl rfl (pa_cons (pe_callB (call_reprL noG hr.units) (by rfl) W.T.repr (by decide +kernel) (pa_cons (pe_lst (pa_cons (pv 3) (pa_cons (pv 4) pa_nil))) pa_nil)) (pa_cons (pe_call W.lots (hr.mono (by decide)) rfl W.gLots W.FLots.kp W.bLots .nil pass0 (pa_cons (pe_call W.cutL (hr.mono (by decide)) rfl W.gCutL W.FCutL.kp W.bCutL .nil pass0 (pa_cons (pv 2) (pa_cons (pv 4) pa_nil))) pa_nil)) pa_nil)) (by rfl))
      (pss_cons (ps_set (i := 7) scRight.nd rfl (.inl rfl) (pe_lst (pa_cons (pe_call W.cutTo (hr.mono (by decide)) rfl W.gCutTo W.FCutTo.kp W.bCutTo .nil pass0 (pa_cons (pv 3) (pa_cons (pv 4) pa_nil))) (pa_cons (pe_callKw W.cutTo (hr.mono (by decide)) rfl W.gCutTo W.FCutTo.kp W.kbCutTo pass0 (pk_cons (pv 4) (pk_cons (pv 3) pk_nil))) pa_nil))))
      (pss_cons (ps_if (PW.pt (pw_or (pt_cmpR op_ne (pe_callB (call_reprL noG hr.units) (by rfl) W.T.repr (by decide +kernel) (pa_cons (pv 7) pa_nil)) (pe_callB (call_reprL noG hr.units) (by rfl) W.T.repr (by decide +kernel) (pa_cons (pe_lst (pa_cons (pv 6) (pa_cons (pv 6) pa_nil))) pa_nil)) (nomark _)) (pw_or (pt_not (pt_val (pe_call W.is (hr.mono (by decide)) rfl W.Z.gIs W.Z.FIs.kp W.Z.bIs .nil pass0 (pa_cons (pe_ix (r := rIxL K) ix_list (pv 7) pe_int (fun _ _ => rfl)) pa_nil)))) (pw_or1 (pt_cmpR op_ne (pe_callB call_len_seq (by rfl) W.T.len (by decide +kernel) (pa_cons (pv 6) pa_nil)) (pe_op op_sub (pe_callB call_len_seq (by rfl) W.T.len (by decide +kernel) (pa_cons (pv 4) pa_nil)) pe_int) (nomark _)))))) (pss_one (ps_ret pe_bl)) pss_nil)
      (pss_cons (ps_expr (pe_bm PySem.F.plainAttrs_list PySem.F.slot_list_append PySem.F.type_list_append mt_append (pe_ix (r := rIxL K) ix_list (pv 7) pe_int (fun _ _ => rfl)) (pa_cons pe_non pa_nil)))
      (pss_cons (ps_for PassesOwn.never rfl (pi_list (pe_ix (r := rIxL K) ix_list (pv 7) pe_int (fun _ _ => rfl))) (pg_name (i := 8) scRight.nd rfl (.inl rfl))
      (pss_one (ps_expr (pe_bm PySem.F.plainAttrs_list PySem.F.slot_list_append PySem.F.type_list_append mt_append (pv 8) (pa_cons pe_non pa_nil)))))
      (pss_cons (ps_if (PW.pt (pw_or (pt_cmpR (op_neD hr.units) (pe_call W.cutTo (hr.mono (by decide)) rfl W.gCutTo W.FCutTo.kp W.bCutTo .nil pass0 (pa_cons (pv 3) (pa_cons (pv 4) pa_nil))) (pv 6) (nomark _)) (pw_or1 (pt_cmpR op_ne (pe_callB (call_reprL noG hr.units) (by rfl) W.T.repr (by decide +kernel) (pa_cons (pe_lst (pa_cons (pv 3) (pa_cons (pv 4) pa_nil))) pa_nil)) (pv 5) (nomark _))))) (pss_one (ps_ret pe_bl)) pss_nil)
      (pss_cons (ps_set (i := 9) scRight.nd rfl (.inl rfl) (pe_call W.kept (hr.mono (by decide)) rfl W.gKept W.FKept.kp W.bKept .nil pass0 (pa_cons (pv 0) (pa_cons (pe_callB call_len_seq (by rfl) W.T.len (by decide +kernel) (pa_cons (pv 4) pa_nil)) pa_nil))))
      (pss_one (ps_ret (pe_cmpR (op_eqD hr.units) (pe_call W.cutTo (hr.mono (by decide)) rfl W.gCutTo W.FCutTo.kp W.bCutTo .nil pass0 (pa_cons (pv 6) (pa_cons (pv 9) pa_nil))) (pe_call W.cutTo (hr.mono (by decide)) rfl W.gCutTo W.FCutTo.kp W.bCutTo .nil pass0 (pa_cons (pv 3) (pa_cons (pe_lc (own := [("spot", 10)]) (g := gName 10) (tt := tYes) rfl scRight.nd (pi_list (pv 9)) (blkOk_by (own := [("spot", 10)]) (N := ["pouch", "many", "nest", "lots", "kept", "before", "due", "found", "lot", "again", "spot"]) (sc := defScope sRight) (by decide +kernel)) (fun _ _ _ _ _ => pg_name (i := 10) scRight.nd rfl (Or.inl rfl)) (fun _ _ _ _ _ => pts_nil) (fun _ _ _ _ _ => (pe_ix (r := rIxL K) ix_list (pv 4) (pv 10) (fun _ _ => rfl)))) pa_nil))) (nomark _))))))))))))), ?_⟩
    refine ⟨_, rfl, _, rfl, p, mn, m, rfl, hP, by omega, hmn, hmx, fun l xs H1 hxl hb hP1 g1 n1 e1 => ?_⟩
    have x19 : xs.length ≤ 19 := by omega
    have ft := fit_nest hb x19
    have en : ((xs.length + 1 : Nat) : Int) = mn := by omega
    generalize ht : nestN xs xs.length = t at ft
    generalize hn : xs.length + 1 = n at ft en
    refine ⟨l, xs, rfl, SqL.of e1, x19, fun y H2 s2 nv => ?_⟩
    rw [ht] at nv
    have hP2 := hP1.same s2
    refine ⟨_, rfl, y, t, rfl, nv, ft.ht, ft.sz, fun a cs H3 ecs s3 na nw ap top => ?_⟩
    have hP3 := hP2.same s3
    have g3 : Gr p H H3 := g1.trans (s2.trans s3).gr
    refine ⟨_, rfl, _, rfl, p, mn, m + 100, rfl, hP3, by omega, hmn, hmx, fun b ks H4 kpl kne klen hP4 g4 nb eb => ?_⟩
    rw [← en] at kpl
    have hk := some_of kpl kne
    obtain ⟨u, ek, fu⟩ := ft.cut hk klen
    obtain ⟨pz, ep⟩ := hP3.lst
    have nap : a ≠ p := pch_ne hP2 na
    have ncp : ∀ c ∈ cs, c.1 ≠ p := fun c hc => pch_ne hP2 (nw.new c hc)
    have nbp : b ≠ p := pch_ne hP3 nb
    have rl3 : Rl H3 a cs := ⟨top, nw.lists⟩
    have rl4 := rl3.gr g4 nap ncp
    have nv4 := (nv.keep s3).gr ep g4
    refine ⟨(by show 2 ≤ sizeLine; decide), fun tp htp => ⟨tp, _, rfl, SqT.of upd_same, rfl, _, _, rfl, _, _, rfl, rfl, ?_⟩⟩
    have g45 : Grows H4 (upd H4 tp (.tup [V.ref a, .ref b])) := Grows.new htp
    have rl5 := rl4.keep g45
    have eb5 := g45 _ _ eb
    obtain ⟨b1, b2, b3⟩ := brief_two ft.brief (hk.brief ft.le klen) (by decide)
    refine ⟨_, rfl, _, rfl, (by show 2 ≤ sizeLine; decide), fun q6 hq6 => ⟨q6, _, [PyData.list (rowD t.lots), PyData.list (ks.map .int)], rfl, SqL.of upd_same, .of_dp (.cons (ecs ▸ (rl5.keep (Grows.new hq6)).rw.dp) (.cons (ints_dp (SqL.of (Grows.new hq6 _ _ eb5))) .nil)), b1, b2, b3, ?_⟩⟩
    have g46 := g45.trans (Grows.new (o := .lst [V.ref a, .ref b]) hq6)
    have rl6 := rl4.keep g46
    have eb6 := g46 _ _ eb
    have lenn := ft.len
    have csl : (cs.length : Int) + 1 = (n : Int) := by
      have := congrArg List.length ecs
      rw [List.length_map] at this
      omega
    have kpl' : plist ((cs.length : Int) + 1) ks = true := by rw [csl]; exact kpl
    have sz : Sz (cs.map (·.2)) := by rw [ecs]; exact ft.rows
    have isp : isP (cs.map (·.2)) = true := by rw [ecs]; exact ft.is
    have ecut : cutR (cs.map (·.2)) ks = u.lots := by rw [ecs, ft.cutR hk ek]
    -- due
    refine ⟨_, rfl, _, rfl, y, b, ks, t, rfl, nv4.keep g46, SqL.of eb6, ft.ht, fun z H7 s7 ov => ?_⟩
    rw [ek] at ov
    cases ov with | yes nv7 =>
    refine ⟨z, u, rfl, nv7, fu.ht, fu.sz, fun d es H8 ees s8 nd8 nw8 ap8 top8 => ⟨_, _, rfl, ?_⟩⟩
    have g48 := g46.trans (s7.trans s8)
    have rl8 := rl4.keep g48
    have eb8 := g48 _ _ eb
    have rd8 : Rl H8 d es := ⟨top8, nw8.lists⟩
    have esl : (es.length : Int) + 1 = (ks.length : Int) := by
      have a1 := congrArg List.length ees
      rw [List.length_map] at a1
      have a2 := fu.len
      omega
    -- found
    refine ⟨_, rfl, _, rfl, a, b, cs, ks, rfl, rl8.rw, sz, isp, SqL.of eb8, by omega, kpl', kne, fun f1 ds1 H9 eds1 s9 nf1 nw9 ap9 top9 => ?_⟩
    rw [ecut] at eds1
    have rl9 := rl8.keep s9
    have eb9 := s9 _ _ eb8
    refine ⟨_, rfl, _, rfl, a, b, cs, ks, rfl, rl9.rw, sz, isp, SqL.of eb9, by omega, kpl', kne, fun f2 ds2 H10 eds2 s10 nf2 nw10 ap10 top10 => ?_⟩
    rw [ecut] at eds2
    refine ⟨(by show 2 ≤ sizeLine; decide), fun fo hfo => ?_⟩
    have gfo : Grows H10 (upd H10 fo (.lst [V.ref f1, .ref f2])) := Grows.new hfo
    have r1 : Rl H10 f1 ds1 := (Rl.mk top9 nw9.lists).keep s10
    have r2 : Rl H10 f2 ds2 := ⟨top10, nw10.lists⟩
    have g8o : Grows H8 (upd H10 fo (.lst [V.ref f1, .ref f2])) := (s9.trans s10).trans gfo
    obtain ⟨c1, c2, c3⟩ := brief_two fu.brief fu.brief (by decide)
    have e1' : ∀ {G : Hp}, Grows (upd H10 fo (.lst [V.ref f1, .ref f2])) G → Dp K G (.ref f1) (PyData.list (rowD u.lots)) := fun g => eds1 ▸ ((r1.keep gfo).keep g).rw.dp
    have e2' : ∀ {G : Hp}, Grows (upd H10 fo (.lst [V.ref f1, .ref f2])) G → Dp K G (.ref f2) (PyData.list (rowD u.lots)) := fun g => eds2 ▸ ((r2.keep gfo).keep g).rw.dp
    have e3' : ∀ {G : Hp}, Grows H8 G → Dp K G (.ref d) (PyData.list (rowD u.lots)) := fun g => ees ▸ (rd8.keep g).rw.dp
    refine ⟨_, rfl, fo, _, [PyData.list (rowD u.lots), PyData.list (rowD u.lots)], rfl, SqL.of upd_same, .of_dp (.cons (e1' .refl) (.cons (e2' .refl) .nil)), c1, c2, c3, ?_⟩
    refine ⟨_, rfl, _, rfl, (by show 2 ≤ sizeLine; decide), fun q11 hq11 => ⟨q11, _, [PyData.list (rowD u.lots), PyData.list (rowD u.lots)], rfl, SqL.of upd_same, .of_dp (.cons (e3' (g8o.trans (Grows.new hq11))) (.cons (e3' (g8o.trans (Grows.new hq11))) .nil)), c1, c2, c3, rfl, _, rfl, ?_⟩⟩
    rw [decide_eq_true rfl]
    have gq11 : Grows (upd H10 fo (.lst [V.ref f1, .ref f2])) (upd (upd H10 fo (.lst [V.ref f1, .ref f2])) q11 (.lst [V.ref d, .ref d])) := Grows.new hq11
    have fo11 := gq11 _ _ upd_same
    refine iteF ⟨_, rfl, fo, _, 0, .ref f1, rfl, rfl, SqL.of fo11, rfl, f1, ds1, rfl, ((r1.keep gfo).keep gq11).rw, by rw [eds1]; exact fu.rows, fun H12 s12 => ?_⟩
    rw [eds1, fu.is]
    have g812 := (g8o.trans gq11).trans s12
    have rl12 := rl8.keep g812
    have rd12 := rd8.keep g812
    have eb12 := g812 _ _ eb8
    refine ⟨_, rfl, iteF ⟨_, rfl, d, _, rfl, .inl (SqL.of rd12.top), _, rfl, b, _, rfl, .inl (SqL.of eb12), _, _, rfl, rfl, rfl, _, rfl, ?_⟩⟩
    have elen : V.int ((es.map fun c => V.ref c.1).length : Nat) = V.int (((ks.map V.int).length : Nat) - 1) := by
      rw [List.length_map, List.length_map]
      exact congrArg V.int (by omega)
    rw [decide_eq_true elen]
    refine iteF ?_
    -- found[0].append
    have fo12 := s12 _ _ fo11
    have r1' := ((r1.keep gfo).keep gq11).keep s12
    have r2' := ((r2.keep gfo).keep gq11).keep s12
    have usz := fu.len
    have d1l : ds1.length = u.lots.length := by
      have := congrArg List.length eds1
      rw [List.length_map] at this
      exact this
    refine ⟨_, rfl, fo, _, 0, .ref f1, rfl, rfl, SqL.of fo12, rfl, .inl ⟨rfl, _, SqL.of r1'.top⟩, f1, _, _, rfl, rfl, r1'.top, small1000 (by rw [List.length_map]; omega), ?_⟩
    have ne_fo : fo ≠ f1 := fun z => by
      rw [z, r1.top] at hfo
      cases hfo
    have ne_f2 : f2 ≠ f1 := fun z => by
      rw [z, top9] at nf2
      cases nf2
    have ne_c : ∀ c ∈ ds2, c.1 ≠ f1 := fun c hc z => by
      have q := nw10.new c hc
      rw [z, top9] at q
      cases q
    have ap10' : ∀ c ∈ ds2, f2 ≠ c.1 := fun c hc => (ap10 c hc).symm
    have d2l : ds2.length = u.lots.length := by
      have := congrArg List.length eds2
      rw [List.length_map] at this
      exact this
    have hP8 : Pch H8 p (m + 100 + 100) := hP4.same g48
    refine ⟨_, rfl, fo, _, 1, .ref f2, rfl, rfl, SqL.of ((upd_ne ne_fo).trans fo12), rfl, f2, rfl, ⟨_, SqL.of ((upd_ne ne_f2).trans r2'.top)⟩, for_list (K := K) (a := f2) (xs := ds2.map fun c => V.ref c.1)
      (fun i σ H' => ∃ o, σ = [some (.ref p), some (.int mn), some y, some (.ref a), some (.ref b), some (.str (PyData.list [PyData.list (rowD t.lots), PyData.list (ks.map .int)]).shown), some (.ref d), some (.ref fo), o, none, none] ∧ Mine H8 H' ds2 (20 + i) ∧ H' f2 = some (.lst (ds2.map fun c => V.ref c.1)))
      ⟨none, rfl, ⟨grows_own g812 nf1 _, fun c hc => ⟨none_back s9 (nw10.new c hc), _, (upd_ne (ne_c c hc)).trans (r2'.each c hc), ?_⟩⟩, (upd_ne ne_f2).trans r2'.top⟩ (fun i σ H' _ ⟨_, _, _, e⟩ => SqL.of e) (fun i x σ H' hx ⟨o, e, mi, e2⟩ => ?_) fun σ H13 ⟨o, e, mi, e2⟩ => ?_⟩
    · rw [List.length_map]
      exact (fu.row _ (eds2 ▸ List.mem_map.mpr ⟨c, hc, rfl⟩)).2
    · subst e
      obtain ⟨il, ex⟩ := List.getElem?_eq_some_iff.mp hx
      rw [List.length_map] at il
      rw [List.getElem_map] at ex
      subst ex
      have mem : ds2[i] ∈ ds2 := List.getElem_mem il
      obtain ⟨_, zs, ez, lz⟩ := mi.2 _ mem
      refine ⟨_, rfl, .inl ⟨rfl, _, SqL.of ez⟩, _, zs, _, rfl, rfl, ez, small1000 (by omega), _, rfl, mi.step mem ez _, ?_⟩
      rw [upd_ne (ap10' _ mem)]
      exact e2
    · subst e
      have g813 := mi.1
      have rl13 := rl8.keep g813
      have rd13 := rd8.keep g813
      have eb13 := g813 _ _ eb8
      refine ⟨_, rfl, _, rfl, a, b, cs, ks, rfl, rl13.rw, sz, isp, SqL.of eb13, by omega, kpl', kne, fun f3 ds3 H14 eds3 s14 nf3 nw14 ap14 top14 => ⟨_, rfl, _, _, (Rl.mk top14 nw14.lists).rw.dp, (rd13.keep s14).rw.dp, shaped_rows _, shaped_rows _, _, rfl, ?_⟩⟩
      rw [ecut] at eds3
      rw [eqv_rowD, eds3, ees, decide_eq_true rfl]
      have g814 := g813.trans s14
      refine iteF ⟨_, rfl, _, rfl, (by show 2 ≤ sizeLine; decide), fun q15 hq15 => ⟨q15, _, [PyData.list (rowD t.lots), PyData.list (ks.map .int)], rfl, SqL.of upd_same, .of_dp (.cons (ecs ▸ (rl8.keep (g814.trans (Grows.new hq15))).rw.dp) (.cons (ints_dp (SqL.of (Grows.new hq15 _ _ (g814 _ _ eb8)))) .nil)), b1, b2, b3, _, rfl, rfl, _, rfl, ?_⟩⟩
      rw [decide_eq_true rfl]
      have g815 := g814.trans (Grows.new (o := .lst [V.ref a, .ref b]) hq15)
      have hP15 := hP8.same g815
      have klen0 : 1 ≤ ks.length := by
        rcases Nat.eq_zero_or_pos ks.length with z | z
        · exact absurd (List.length_eq_zero_iff.mp z) kne
        · exact z
      refine iteF ⟨_, rfl, _, rfl, b, _, rfl, .inl (SqL.of (g815 _ _ eb8)), p, _, m + 100 + 100, rfl, hP15, by omega, ?_, ?_, fun g ms H16 mpl mne mlen hP16 g16 ng eg => ?_⟩
      · rw [List.length_map]
        omega
      · rw [List.length_map]
        omega
      rw [List.length_map] at mpl
      have hm2 := some_of mpl mne
      obtain ⟨v, ev, fv⟩ := fu.cut hm2 mlen
      have hP7 : Pch H7 p (m + 100 + 100) := hP4.same (g46.trans s7)
      have ndp : d ≠ p := pch_ne hP7 nd8
      have nep : ∀ c ∈ es, c.1 ≠ p := fun c hc => pch_ne hP7 (nw8.new c hc)
      have rl16 := (rl8.keep g815).gr g16 nap ncp
      have rd16 := (rd8.keep g815).gr g16 ndp nep
      have eb16 := g16 _ _ nbp (g815 _ _ eb8)
      have ecut1 : cutR (es.map (·.2)) ms = v.lots := by rw [ees, fu.cutR hm2 ev]
      have ev2 : t.cut (pick ks ms) = some v := by
        rw [Nest.cut_cut hk hm2 t, ek]
        exact ev
      have hpk := pick_some hk hm2
      have ecut2 : cutR (cs.map (·.2)) (pick ks ms) = v.lots := by rw [ecs, ft.cutR hpk ev2]
      refine ⟨_, rfl, _, rfl, d, g, es, ms, rfl, rd16.rw, by rw [ees]; exact fu.rows, by rw [ees]; exact fu.is, SqL.of eg, by omega, by rw [esl]; exact mpl, mne, fun f4 ds4 H17 eds4 s17 nf4 nw17 ap17 top17 => ?_⟩
      rw [ecut1] at eds4
      have eg17 := s17 _ _ eg
      have eb17 := s17 _ _ eb16
      refine ⟨_, rfl, _, rfl, g, rfl, ⟨_, SqL.of eg17⟩, fun D hD => lc_listM (K := K) (fun i => V.int (ks.getD (ms.getD i 0).toNat 0)) hD (SqL.of eg17) (by rw [List.length_map]; omega) (fun i x H' R hx sm kR => ?_) fun H18 sm eD => ?_⟩
      · have il := (List.getElem?_eq_some_iff.mp hx).1
        rw [List.length_map] at il
        obtain rfl := at_map (d := 0) hx
        have rg := hm2.rng (ms.getD i 0) (by rw [getD_at il]; exact List.getElem_mem il)
        have jl : (ms.getD i 0).toNat < ks.length := by omega
        have at' : atI (ks.map V.int) (ms.getD i 0) = some (V.int (ks.getD (ms.getD i 0).toNat 0)) := by
          have q : (ks.map V.int)[(ms.getD i 0).toNat]? = some (V.int (ks.getD (ms.getD i 0).toNat 0)) := by
            rw [List.getElem?_map, List.getElem?_eq_getElem jl, getD_at jl]
            rfl
          have q2 := atI_nat q
          rw [Int.toNat_of_nonneg rg.1] at q2
          exact q2
        exact ⟨rfl, _, rfl, _, rfl, b, _, _, _, rfl, rfl, SqL.of (sm _ _ eb17), at', kR _ .refl⟩
      · rw [List.length_map] at eD
        have epk : (List.range ms.length).map (fun i => V.int (ks.getD (ms.getD i 0).toNat 0)) = (pick ks ms).map V.int := by
          unfold pick
          rw [List.map_map]
          exact rng_map ms 0 fun m => V.int (ks.getD m.toNat 0)
        rw [epk] at eD
        have rl18 := (rl16.keep s17).keep sm
        refine ⟨a, D, cs, _, rfl, rl18.rw, sz, isp, SqL.of eD, by rw [pick_len]; omega, by rw [csl]; exact plist_of hpk.up hpk.rng, hpk.ne, fun f5 ds5 H19 eds5 s19 nf5 nw19 ap19 top19 => ?_⟩
        rw [ecut2] at eds5
        refine ⟨_, _, (((Rl.mk top17 nw17.lists).keep sm).keep s19).rw.dp, (Rl.mk top19 nw19.lists).rw.dp, shaped_rows _, shaped_rows _, ?_⟩
        rw [eqv_rowD, eds4, eds5, decide_eq_true rfl]
        have gl := (s17.trans sm).trans s19
        exact kq H19 ((hP16.same gl).le (by omega)) ((g3.trans g4).trans ((g48.trans g815).gr.trans (g16.trans gl.gr)))
end
end K03

namespace K03
open PySem PySem.Spec PyProof.Rows L2 SortR LcM RepA
abbrev sLaw : Stmt := top (21 + 11)
def spLaw (K : PySem.W.Frag) : Sp := fun vs H Q _ => ∃ (a : Addr) (ns : List Int), vs = [.ref a] ∧ SqL K H a (ns.map V.int) ∧ ns.length ≤ 63 ∧ ∀ H', Q (.bl true) H'
theorem gr_grows {p : Addr} {H0 H1 H2 : Hp} (g : Grows H0 H1) (n : H0 p = none) (r : Gr p H1 H2) : Grows H0 H2 := fun b o e => r b o (fun z => by rw [z, n] at e; cases e) (g b o e)
abbrev four : List (List Int) := [[0, 1], [0, 1, 2, 3], [2, 3]]
theorem cut_lit {rs : List (List Int)} {ns : List Int} {qs : List (List Int)} (e : firsts (fun i => two (meet ns (rs.getD i []))) (fun i => meet ns (rs.getD i [])) rs.length = qs) (up : qs.Pairwise (· ≤ ·)) : cutR rs ns = qs := by
  unfold cutR
  rw [e]
  exact List.mergeSort_of_pairwise (up.imp fun {a b} h => decide_eq_true h)
theorem cut_ex1 : cutR four [0, 2, 3] = [[0, 1, 2], [1, 2]] := cut_lit (by decide +kernel) (by decide +kernel)
theorem cut_ex2 : cutR four [1, 2] = [[0, 1]] := cut_lit (by decide +kernel) (by decide +kernel)
theorem cut_ex3 : cutR four [3] = [] := cut_lit (by decide +kernel) (by decide +kernel)
theorem cut_ex4 : cutR [] [0] = [] := cut_lit (by decide +kernel) (by decide +kernel)
theorem pl_ex1 : plist 4 [0, 2, 3] = true := by decide +kernel
theorem pl_ex2 : plist 4 [1, 2] = true := by decide +kernel
theorem pl_ex3 : plist 4 [3] = true := by decide +kernel
theorem pl_ex4 : plist 1 [0] = true := by decide +kernel
theorem is_four : isP four = true := by decide +kernel
theorem is_nil : isP [] = true := by decide +kernel
theorem sz_four : Sz four := ⟨by decide, by decide +kernel⟩
theorem sz_nil : Sz [] := ⟨by decide, fun _ h => nomatch h⟩
abbrev dueD : PyData := .list [.list (rowD [[0, 1, 2], [1, 2]]), .list (rowD [[0, 1]]), .list (rowD []), .list (rowD [])]
theorem due_eq : PyData.eqv dueD dueD = true := by decide +kernel
theorem due_shaped : SeqAt.shaped dueD = true := by decide +kernel
theorem mm (k : Int) : ∃ J : Int, 1 ≤ J ∧ J ≤ 4 ∧ (if (if k < 4 then k else 4) > 1 then (if k < 4 then k else 4) else 1) = J := by
  refine ⟨_, ?_, ?_, rfl⟩
  · split <;> omega
  · split <;> split <;> omega
section
variable {P : Program} {w : World} {K : PySem.W.Frag} {mg : Str → Option Value} {base : Heap}
theorem scLaw : FnScope ["script", "at", "pouch", "many", "four", "found"] ["script"] (defScope sLaw) := ⟨rfl, rfl, rfl, by decide +kernel, rfl, by decide +kernel, by decide +kernel⟩
theorem ok_law {f fR fO : Addr} {fd dR dO : FuncData} (F : Fun K "law" "law" sLaw f fd) (W : LawF K mg) (FR : Fun K "_law_right" "_law_right" sRight fR dR) (gR : mg "_law_right" = some (.ref fR)) (bR : Binds K dR ["pouch", "many"] []) (FO : Fun K "_law_own_right" "_law_own_right" sOwn fO dO) (gO : mg "_law_own_right" = some (.ref fO)) (bO : Binds K dO ["pouch", "many"] []) : FnG P w K mg base CX0 25 f fd ["script"] (spLaw K) := by
  have GR : FnG P w K mg base CX0 24 fR dR ["pouch", "many"] spTurn := ok_right FR W
  have GO : FnOk P w K mg base CX0 24 fO dO ["pouch", "many"] spTurn := ok_own FO W
  refine okG F scLaw (fun vs H Q E h => ?_) (fun cdv A outer s H vs Q E hr noG h => ?_)
  · obtain ⟨a, ns, rfl, _⟩ := h
    rfl
  · obtain ⟨a, ns, rfl, hS, hl, kq⟩ := h
    refine ⟨_, (pss_cons (ps_for PassesOwn.never rfl (pi_range1 (by rfl) W.T.range (pa_cons (pe_callB (call_max2 rfl) (by rfl) W.T.max (by decide +kernel) (pa_cons pe_int (pa_cons (pe_callB (call_min2 rfl) (by rfl) W.T.min (by decide +kernel) (pa_cons pe_int (pa_cons (pe_callB call_len_seq (by rfl) W.T.len (by decide +kernel) (pa_cons (pv 0) pa_nil)) pa_nil))) pa_nil))) pa_nil)) (pg_name (i := 1) scLaw.nd rfl (.inl rfl))
      (pss_cons (ps_set (i := 2) scLaw.nd rfl (.inl rfl) (pe_call W.pouch (hr.mono (by decide)) rfl W.gPouch W.FPouch.kp W.bPouch .nil pass0 (pa_cons (pv 0) (pa_cons (pv 1) pa_nil))))
      (pss_one (ps_for PassesOwn.never rfl (pi_tup (pe_tup (pa_cons pe_int (pa_cons pe_int (pa_cons pe_int (pa_cons (pe_op op_add pe_int (pe_call W.dip (hr.mono (by decide)) rfl W.gDip W.FDip.kp W.bDip .nil pass0 (pa_cons (pv 2) (pa_cons pe_int pa_nil)))) (pa_cons (pe_op op_add pe_int (pe_call W.dip (hr.mono (by decide)) rfl W.gDip W.FDip.kp W.bDip .nil pass0 (pa_cons (pv 2) (pa_cons pe_int pa_nil)))) pa_nil))))))) (pg_name (i := 3) scLaw.nd rfl (.inl rfl))
      (pss_one (ps_if (PW.pt (pw_or (pt_not (pt_val (pe_callG GR (hr.mono (by decide)) noG rfl gR FR.kp bR .nil pass0 (pa_cons (pv 2) (pa_cons (pv 3) pa_nil))))) (pw_or1 (pt_not (pt_val (pe_call GO (hr.mono (by decide)) rfl gO FO.kp bO .nil pass0 (pa_cons (pv 2) (pa_cons (pv 3) pa_nil)))))))) (pss_one (ps_ret pe_bl)) pss_nil))))))
      (pss_cons (ps_set (i := 4) scLaw.nd rfl (.inl rfl) (pe_lst (pa_cons (pe_lst (pa_cons pe_int (pa_cons pe_int pa_nil))) (pa_cons (pe_lst (pa_cons pe_int (pa_cons pe_int (pa_cons pe_int (pa_cons pe_int pa_nil))))) (pa_cons (pe_lst (pa_cons pe_int (pa_cons pe_int pa_nil))) pa_nil)))))
      (pss_cons (ps_set (i := 5) scLaw.nd rfl (.inl rfl) (pe_lst (pa_cons (pe_call W.cutTo (hr.mono (by decide)) rfl W.gCutTo W.FCutTo.kp W.bCutTo .nil pass0 (pa_cons (pv 4) (pa_cons (pe_lst (pa_cons pe_int (pa_cons pe_int (pa_cons pe_int pa_nil)))) pa_nil))) (pa_cons (pe_call W.cutTo (hr.mono (by decide)) rfl W.gCutTo W.FCutTo.kp W.bCutTo .nil pass0 (pa_cons (pv 4) (pa_cons (pe_lst (pa_cons pe_int (pa_cons pe_int pa_nil))) pa_nil))) (pa_cons (pe_call W.cutTo (hr.mono (by decide)) rfl W.gCutTo W.FCutTo.kp W.bCutTo .nil pass0 (pa_cons (pv 4) (pa_cons (pe_lst (pa_cons pe_int pa_nil)) pa_nil))) (pa_cons (pe_call W.cutTo (hr.mono (by decide)) rfl W.gCutTo W.FCutTo.kp W.bCutTo .nil pass0 (pa_cons (pe_lst pa_nil) (pa_cons (pe_lst (pa_cons pe_int pa_nil)) pa_nil))) pa_nil))))))
      (pss_one (ps_ret (pe_cmpR (op_eqD hr.units) (pv 5) (pe_lst (pa_cons (pe_lst (pa_cons (pe_lst (pa_cons pe_int (pa_cons pe_int (pa_cons pe_int pa_nil)))) (pa_cons (pe_lst (pa_cons pe_int (pa_cons pe_int pa_nil))) pa_nil))) (pa_cons (pe_lst (pa_cons (pe_lst (pa_cons pe_int (pa_cons pe_int pa_nil))) pa_nil)) (pa_cons (pe_lst pa_nil) (pa_cons (pe_lst pa_nil) pa_nil))))) (nomark _))))))), ?_⟩
    obtain ⟨J, J1, J4, eJ⟩ := mm ((ns.map V.int).length : Nat)
    refine ⟨_, rfl, a, _, rfl, .inl hS, 4, _, rfl, 1, _, rfl, J, congrArg (fun z => [V.int z]) eJ, by omega, by omega, for_range (fun i σ H' => ∃ o1 o2 o3, σ = [some (.ref a), o1, o2, o3, none, none] ∧ Grows H H') ⟨none, none, none, rfl, .refl⟩ (fun i σ H1 hi ⟨o1, o2, o3, e, g1⟩ => ?_) fun σ H1 ⟨o1, o2, o3, e, g1⟩ => ?_⟩
    · subst e
      refine ⟨_, rfl, _, rfl, a, _, ns, rfl, g1.seq hS, by omega, by omega, fun p H2 np g2 hP2 => ?_⟩
      have Hp0 : H p = none := none_back g1 np
      have g2' := g1.trans g2
      refine ⟨_, rfl, p, 20, 0, rfl, hP2, by decide, by decide, by decide, fun v H3 v0 v1 hP3 but3 => ⟨_, _, rfl, rfl, _, rfl, p, 8, 0 + 1, rfl, hP3, by decide, by decide, by decide, fun v' H4 v0' v1' hP4 but4 => ⟨_, _, rfl, rfl, (by show 5 ≤ sizeLine; decide), fun tp htp => ?_⟩⟩⟩
      have g4 : Grows H H4 := gr_grows g2' Hp0 ((but_gr but3).trans (but_gr but4))
      have ntp : tp ≠ p := pch_ne hP4 htp
      have g5 : Grows H (upd H4 tp (.tup [V.int 1, V.int 2, V.int 20, V.int (1 + v), V.int (1 + v')])) := g4.trans (Grows.new htp)
      have mems : ∀ x ∈ [V.int 1, V.int 2, V.int 20, V.int (1 + v), V.int (1 + v')], ∃ mn : Int, x = .int mn ∧ 1 ≤ mn ∧ mn ≤ 20 := by
        intro x hx
        simp only [List.mem_cons, List.not_mem_nil, or_false] at hx
        rcases hx with rfl | rfl | rfl | rfl | rfl
        · exact ⟨_, rfl, by decide, by decide⟩
        · exact ⟨_, rfl, by decide, by decide⟩
        · exact ⟨_, rfl, by decide, by decide⟩
        · exact ⟨_, rfl, by omega, by omega⟩
        · exact ⟨_, rfl, by omega, by omega⟩
      refine ⟨tp, rfl, ⟨_, SqT.of upd_same⟩, for_tup (K := K) (a := tp) (xs := [V.int 1, V.int 2, V.int 20, V.int (1 + v), V.int (1 + v')]) (fun j σ H' => ∃ o, σ = [some (.ref a), some (.int (0 + (i : Nat))), some (.ref p), o, none, none] ∧ Grows H H' ∧ Pch H' p (10 + 800 * j) ∧ H' tp = some (.tup [V.int 1, V.int 2, V.int 20, V.int (1 + v), V.int (1 + v')]))
        ⟨_, rfl, g5, (hP4.same (.new htp)).le (by omega), upd_same⟩ (fun j σ H' _ ⟨_, _, _, _, e⟩ => SqT.of e) (fun j x σ H' hx ⟨o, e, g, hp, et⟩ => ?_) fun σ H' ⟨o, e, g, _, _⟩ => ⟨_, _, _, e, g⟩⟩
      subst e
      obtain ⟨mn, rfl, m1, m20⟩ := mems x (List.mem_of_getElem? hx)
      have jl : j < 5 := (List.getElem?_eq_some_iff.mp hx).1
      refine ⟨_, rfl, _, rfl, p, mn, _, rfl, hp, by omega, m1, m20, fun H5 hP5 g5 => ⟨_, rfl, iteF ⟨_, rfl, _, rfl, p, mn, _, rfl, hP5, by omega, m1, m20, fun H6 hP6 g6 => ⟨_, rfl, iteF ⟨_, rfl, gr_grows g Hp0 (g5.trans g6), hP6.le (by omega), g6 _ _ ntp (g5 _ _ ntp et)⟩⟩⟩⟩⟩
    · subst e
      refine ⟨(by show 2 ≤ sizeLine; decide), fun x1 h1 => ⟨(by show 4 ≤ sizeLine; decide), fun x2 h2 => ⟨(by show 2 ≤ sizeLine; decide), fun x3 h3 => ⟨(by show 3 ≤ sizeLine; decide), fun x4 h4 => ?_⟩⟩⟩⟩
      have r4 : Rl (upd (upd (upd (upd H1 x1 (.lst [V.int 0, V.int 1])) x2 (.lst [V.int 0, V.int 1, V.int 2, V.int 3])) x3 (.lst [V.int 2, V.int 3])) x4 (.lst [V.ref x1, V.ref x2, V.ref x3])) x4 [(x1, [0, 1]), (x2, [0, 1, 2, 3]), (x3, [2, 3])] := by
        refine ⟨upd_same, fun c hc => ?_⟩
        have a1 := (((Grows.new (o := .lst [V.int 0, V.int 1, V.int 2, V.int 3]) h2).trans (Grows.new (o := .lst [V.int 2, V.int 3]) h3)).trans (Grows.new (o := .lst [V.ref x1, V.ref x2, V.ref x3]) h4)) x1 _ upd_same
        have a2 := ((Grows.new (o := .lst [V.int 2, V.int 3]) h3).trans (Grows.new (o := .lst [V.ref x1, V.ref x2, V.ref x3]) h4)) x2 _ upd_same
        have a3 := (Grows.new (o := .lst [V.ref x1, V.ref x2, V.ref x3]) h4) x3 _ upd_same
        simp only [List.mem_cons, List.not_mem_nil, or_false] at hc
        rcases hc with rfl | rfl | rfl
        · exact a1
        · exact a2
        · exact a3
      refine ⟨_, rfl, (by show 3 ≤ sizeLine; decide), fun y1 k1 => ⟨x4, y1, _, [0, 2, 3], rfl, (r4.keep (Grows.new k1)).rw, sz_four, is_four, SqL.of upd_same, by decide, pl_ex1, (fun z => nomatch z), fun f1 ds1 H5 e1 s1 n1 nw1 ap1 top1 => ?_⟩⟩
      have r5 := (r4.keep (Grows.new (o := .lst [V.int 0, V.int 2, V.int 3]) k1)).keep s1
      refine ⟨_, rfl, (by show 2 ≤ sizeLine; decide), fun y2 k2 => ⟨x4, y2, _, [1, 2], rfl, (r5.keep (Grows.new k2)).rw, sz_four, is_four, SqL.of upd_same, by decide, pl_ex2, (fun z => nomatch z), fun f2 ds2 H6 e2 s2 n2 nw2 ap2 top2 => ?_⟩⟩
      have g56 := (Grows.new (o := .lst [V.int 1, V.int 2]) k2).trans s2
      have r6 := r5.keep g56
      refine ⟨_, rfl, (by show 1 ≤ sizeLine; decide), fun y3 k3 => ⟨x4, y3, _, [3], rfl, (r6.keep (Grows.new k3)).rw, sz_four, is_four, SqL.of upd_same, by decide, pl_ex3, (fun z => nomatch z), fun f3 ds3 H7 e3 s3 n3 nw3 ap3 top3 => ?_⟩⟩
      have g67 := (Grows.new (o := .lst [V.int 3]) k3).trans s3
      refine ⟨(by show 0 ≤ sizeLine; decide), fun y4 k4 => ⟨(by show 1 ≤ sizeLine; decide), fun y5 k5 => ⟨y4, y5, [], [0], rfl, (Rl.mk (cs := []) (Grows.new k5 _ _ upd_same) fun _ h => nomatch h).rw, sz_nil, is_nil, SqL.of upd_same, by decide, pl_ex4, (fun z => nomatch z), fun f4 ds4 H8 e4 s4 n4 nw4 ap4 top4 => ?_⟩⟩⟩
      have g78 := ((Grows.new (o := .lst []) k4).trans (Grows.new (o := .lst [V.int 0]) k5)).trans s4
      refine ⟨(by show 4 ≤ sizeLine; decide), fun fo k6 => ⟨_, rfl, ?_⟩⟩
      have go : Grows H8 (upd H8 fo (.lst [V.ref f1, V.ref f2, V.ref f3, V.ref f4])) := Grows.new k6
      have q1 := (((Rl.mk top1 nw1.lists).keep g56).keep g67).keep (g78.trans go)
      have q2 := ((Rl.mk top2 nw2.lists).keep g67).keep (g78.trans go)
      have q3 := (Rl.mk top3 nw3.lists).keep (g78.trans go)
      have q4 := (Rl.mk top4 nw4.lists).keep go
      replace e1 : ds1.map (·.2) = [[0, 1, 2], [1, 2]] := e1.trans cut_ex1
      replace e2 : ds2.map (·.2) = [[0, 1]] := e2.trans cut_ex2
      replace e3 : ds3.map (·.2) = [] := e3.trans cut_ex3
      replace e4 : ds4.map (·.2) = [] := e4.trans cut_ex4
      refine ⟨(by show 3 ≤ sizeLine; decide), fun z1 j1 => ⟨(by show 2 ≤ sizeLine; decide), fun z2 j2 => ⟨(by show 2 ≤ sizeLine; decide), fun z3 j3 => ⟨(by show 2 ≤ sizeLine; decide), fun z4 j4 => ⟨(by show 1 ≤ sizeLine; decide), fun z5 j5 => ⟨(by show 0 ≤ sizeLine; decide), fun z6 j6 => ⟨(by show 0 ≤ sizeLine; decide), fun z7 j7 => ⟨(by show 4 ≤ sizeLine; decide), fun z8 j8 => ⟨dueD, dueD, ?_, ?_, due_shaped, due_shaped, ?_⟩⟩⟩⟩⟩⟩⟩⟩⟩
      · have g := ((((((Grows.new (o := .lst [V.int 0, V.int 1, V.int 2]) j1).trans (Grows.new (o := .lst [V.int 1, V.int 2]) j2)).trans (Grows.new (o := .lst [V.ref z1, V.ref z2]) j3)).trans (Grows.new (o := .lst [V.int 0, V.int 1]) j4)).trans (Grows.new (o := .lst [V.ref z4]) j5)).trans (Grows.new (o := .lst []) j6)).trans ((Grows.new (o := .lst []) j7).trans (Grows.new (o := .lst [V.ref z3, V.ref z5, V.ref z6, V.ref z7]) j8))
        refine .lst (SqL.of (g _ _ upd_same)) (.cons ?_ (.cons ?_ (.cons ?_ (.cons ?_ .nil))))
        · exact e1 ▸ (q1.keep g).rw.dp
        · exact e2 ▸ (q2.keep g).rw.dp
        · exact e3 ▸ (q3.keep g).rw.dp
        · exact e4 ▸ (q4.keep g).rw.dp
      · have g7 := Grows.new (o := .lst [V.ref z3, V.ref z5, V.ref z6, V.ref z7]) j8
        have g6 := (Grows.new (o := .lst []) j7).trans g7
        have g5 := (Grows.new (o := .lst []) j6).trans g6
        have g4 := (Grows.new (o := .lst [V.ref z4]) j5).trans g5
        have g3 := (Grows.new (o := .lst [V.int 0, V.int 1]) j4).trans g4
        have g2 := (Grows.new (o := .lst [V.ref z1, V.ref z2]) j3).trans g3
        have g1' := (Grows.new (o := .lst [V.int 1, V.int 2]) j2).trans g2
        have p3 : Rl _ z3 [(z1, [0, 1, 2]), (z2, [1, 2])] := ⟨g3 _ _ upd_same, fun c hc => by
          simp only [List.mem_cons, List.not_mem_nil, or_false] at hc
          rcases hc with rfl | rfl
          · exact g1' _ _ upd_same
          · exact g2 _ _ upd_same⟩
        have p5 : Rl _ z5 [(z4, [0, 1])] := ⟨g5 _ _ upd_same, fun c hc => by
          simp only [List.mem_cons, List.not_mem_nil, or_false] at hc
          subst hc
          exact g4 _ _ upd_same⟩
        have p6 : Rl _ z6 [] := ⟨g6 _ _ upd_same, fun _ h => nomatch h⟩
        have p7 : Rl _ z7 [] := ⟨g7 _ _ upd_same, fun _ h => nomatch h⟩
        exact .lst (SqL.of upd_same) (.cons p3.rw.dp (.cons p5.rw.dp (.cons p6.rw.dp (.cons p7.rw.dp .nil))))
      · rw [due_eq]
        exact kq _
end
end K03

namespace K03
open PySem PySem.Spec PyProof.Rows L2 SortR LcM RepA
theorem vals_rev : ∀ {xs : List V} {us : List Value}, Vals xs us → Vals xs.reverse us.reverse
  | _, _, .nil => .nil
  | _, _, .cons r t => by
    rw [List.reverse_cons, List.reverse_cons]
    exact (vals_rev t).append (.cons r .nil)
theorem kb_two {K : PySem.W.Frag} {fd : FuncData} (h2 : ∀ (s : Shared) (a b : Value), BindsTo s fd ⟨[], [("some", a), ("parting", b)]⟩ [("parting", b), ("some", a)]) (h1 : ∀ (s : Shared) (a b : Value), BindsTo s fd ⟨[b], [("some", a)]⟩ [("parting", b), ("some", a)]) (h0 : ∀ (s : Shared) (a b : Value), BindsTo s fd ⟨[b, a], []⟩ [("parting", b), ("some", a)]) :
    KBinds K fd ["parting", "some"] ["some", "parting"] (fun us ws => us ++ ws.reverse) (fun vs zs => vs ++ zs.reverse) := by
  refine ⟨fun s us ws _ h => ?_, fun r r2 => r.append (vals_rev r2)⟩
  have e : us.length + ws.length = 2 := by simpa using h
  match us, ws, e with
  | [], [_, _], _ => exact h2 _ _ _
  | [_], [_], _ => exact h1 _ _ _
  | [_, _], [], _ => exact h0 _ _ _
  | [], [], e => simp at e
  | [], [_], e => simp at e
  | [], _ :: _ :: _ :: _, e => simp only [List.length_cons, List.length_nil] at e; omega
  | [_], [], e => simp at e
  | [_], _ :: _ :: _, e => simp only [List.length_cons, List.length_nil] at e; omega
  | [_, _], _ :: _, e => simp only [List.length_cons, List.length_nil] at e; omega
  | _ :: _ :: _ :: _, _, e => simp only [List.length_cons, List.length_nil] at e; omega
theorem all_mk {l : PySem.W.OpenLaw} {w : World} {K : PySem.W.Frag} {h : Heap} {mg : Str → Option Value} {fa fNum fPer fAsc fPL fGr fMask fCross fAny fIs fPs fPouch fDip fItems fFolk fPut fNest fLots fCutL fKept fCut fCutTo fR fO fL : Addr} (X : K.In h) (G : h.Ns mainGlobals mg) (hfa : mg "law" = some (.ref fa))
    {odNum anNum odPer anPer odAsc anAsc odPL anPL odGr anGr odMask anMask odCross anCross odAny anAny odIs anIs odPs anPs odPouch anPouch odDip anDip odItems anItems odFolk anFolk odPut anPut odNest anNest odLots anLots odCutL anCutL odKept anKept odCut anCut odCutTo anCutTo odR anR odO anO odL anL : Option Addr} {slNum slPer slAsc slPL slGr slMask slCross slAny slIs slPs slPouch slDip slItems slFolk slPut slNest slLots slCutL slKept slCut slCutTo slR slO slL : Array (Option Value)} {ocNum kVNum dcNum pmNum cvNum ctNum ocPer kVPer dcPer pmPer cvPer ctPer ocAsc kVAsc dcAsc pmAsc cvAsc ctAsc ocPL kVPL dcPL pmPL cvPL ctPL ocGr kVGr dcGr pmGr cvGr ctGr ocMask kVMask dcMask pmMask cvMask ctMask ocCross kVCross dcCross pmCross cvCross ctCross ocAny kVAny dcAny pmAny cvAny ctAny ocIs kVIs dcIs pmIs cvIs ctIs ocPs kVPs dcPs pmPs cvPs ctPs ocPouch kVPouch dcPouch pmPouch cvPouch ctPouch ocDip kVDip dcDip pmDip cvDip ctDip ocItems kVItems dcItems pmItems cvItems ctItems ocFolk kVFolk dcFolk pmFolk cvFolk ctFolk ocPut kVPut dcPut pmPut cvPut ctPut ocNest kVNest dcNest pmNest cvNest ctNest ocLots kVLots dcLots pmLots cvLots ctLots ocCutL kVCutL dcCutL pmCutL cvCutL ctCutL ocKept kVKept dcKept pmKept cvKept ctKept ocCut kVCut dcCut pmCut cvCut ctCut ocCutTo kVCutTo dcCutTo pmCutTo cvCutTo ctCutTo ocR kVR dcR pmR cvR ctR ocO kVO dcO pmO cvO ctO ocL kVL dcL pmL cvL ctL : Value} {mtok : Tok}
    (aNum : PySem.W.nsIn K mainGlobals "is_number" = some (some (.ref fNum))) (lNum : K.lookup fNum = some ⟨ocNum, odNum, .func (PySem.W.fnOf "is_number" "is_number" (defArgs sNumber) (defBody sNumber) (defScope sNumber) .none kVNum dcNum pmNum anNum cvNum ctNum), slNum⟩) (xNum : PySem.W.codeIn K cvNum "is_number" = true) (kNum : PySem.W.keepIn K (.ref fNum) = true)
    (aPer : PySem.W.nsIn K mainGlobals "is_person" = some (some (.ref fPer))) (lPer : K.lookup fPer = some ⟨ocPer, odPer, .func (PySem.W.fnOf "is_person" "is_person" (defArgs sPerson) (defBody sPerson) (defScope sPerson) .none kVPer dcPer pmPer anPer cvPer ctPer), slPer⟩) (xPer : PySem.W.codeIn K cvPer "is_person" = true) (kPer : PySem.W.keepIn K (.ref fPer) = true)
    (aAsc : PySem.W.nsIn K mainGlobals "is_ascending" = some (some (.ref fAsc))) (lAsc : K.lookup fAsc = some ⟨ocAsc, odAsc, .func (PySem.W.fnOf "is_ascending" "is_ascending" (defArgs sAsc) (defBody sAsc) (defScope sAsc) .none kVAsc dcAsc pmAsc anAsc cvAsc ctAsc), slAsc⟩) (xAsc : PySem.W.codeIn K cvAsc "is_ascending" = true) (kAsc : PySem.W.keepIn K (.ref fAsc) = true)
    (aPL : PySem.W.nsIn K mainGlobals "is_person_list" = some (some (.ref fPL))) (lPL : K.lookup fPL = some ⟨ocPL, odPL, .func (PySem.W.fnOf "is_person_list" "is_person_list" (defArgs sPList) (defBody sPList) (defScope sPList) .none kVPL dcPL pmPL anPL cvPL ctPL), slPL⟩) (xPL : PySem.W.codeIn K cvPL "is_person_list" = true) (kPL : PySem.W.keepIn K (.ref fPL) = true)
    (aGr : PySem.W.nsIn K mainGlobals "is_group" = some (some (.ref fGr))) (lGr : K.lookup fGr = some ⟨ocGr, odGr, .func (PySem.W.fnOf "is_group" "is_group" (defArgs sGroup) (defBody sGroup) (defScope sGroup) .none kVGr dcGr pmGr anGr cvGr ctGr), slGr⟩) (xGr : PySem.W.codeIn K cvGr "is_group" = true) (kGr : PySem.W.keepIn K (.ref fGr) = true)
    (aMask : PySem.W.nsIn K mainGlobals "mask_of" = some (some (.ref fMask))) (lMask : K.lookup fMask = some ⟨ocMask, odMask, .func (PySem.W.fnOf "mask_of" "mask_of" (defArgs sMask) (defBody sMask) (defScope sMask) .none kVMask dcMask pmMask anMask cvMask ctMask), slMask⟩) (xMask : PySem.W.codeIn K cvMask "mask_of" = true) (kMask : PySem.W.keepIn K (.ref fMask) = true)
    (aCross : PySem.W.nsIn K mainGlobals "masks_cross" = some (some (.ref fCross))) (lCross : K.lookup fCross = some ⟨ocCross, odCross, .func (PySem.W.fnOf "masks_cross" "masks_cross" (defArgs sCross) (defBody sCross) (defScope sCross) .none kVCross dcCross pmCross anCross cvCross ctCross), slCross⟩) (xCross : PySem.W.codeIn K cvCross "masks_cross" = true) (kCross : PySem.W.keepIn K (.ref fCross) = true)
    (aAny : PySem.W.nsIn K mainGlobals "any_cross" = some (some (.ref fAny))) (lAny : K.lookup fAny = some ⟨ocAny, odAny, .func (PySem.W.fnOf "any_cross" "any_cross" (defArgs sAny) (defBody sAny) (defScope sAny) .none kVAny dcAny pmAny anAny cvAny ctAny), slAny⟩) (xAny : PySem.W.codeIn K cvAny "any_cross" = true) (kAny : PySem.W.keepIn K (.ref fAny) = true)
    (aIs : PySem.W.nsIn K mainGlobals "is_parting" = some (some (.ref fIs))) (lIs : K.lookup fIs = some ⟨ocIs, odIs, .func (PySem.W.fnOf "is_parting" "is_parting" (defArgs sParting) (defBody sParting) (defScope sParting) .none kVIs dcIs pmIs anIs cvIs ctIs), slIs⟩) (xIs : PySem.W.codeIn K cvIs "is_parting" = true) (kIs : PySem.W.keepIn K (.ref fIs) = true)
    (aPs : PySem.W.nsIn K mainGlobals "persons_of" = some (some (.ref fPs))) (lPs : K.lookup fPs = some ⟨ocPs, odPs, .func (PySem.W.fnOf "persons_of" "persons_of" (defArgs sPersons) (defBody sPersons) (defScope sPersons) .none kVPs dcPs pmPs anPs cvPs ctPs), slPs⟩) (xPs : PySem.W.codeIn K cvPs "persons_of" = true) (kPs : PySem.W.keepIn K (.ref fPs) = true)
    (aPouch : PySem.W.nsIn K mainGlobals "_law_pouch" = some (some (.ref fPouch))) (lPouch : K.lookup fPouch = some ⟨ocPouch, odPouch, .func (PySem.W.fnOf "_law_pouch" "_law_pouch" (defArgs sPouch) (defBody sPouch) (defScope sPouch) .none kVPouch dcPouch pmPouch anPouch cvPouch ctPouch), slPouch⟩) (xPouch : PySem.W.codeIn K cvPouch "_law_pouch" = true) (kPouch : PySem.W.keepIn K (.ref fPouch) = true)
    (aDip : PySem.W.nsIn K mainGlobals "_law_dip" = some (some (.ref fDip))) (lDip : K.lookup fDip = some ⟨ocDip, odDip, .func (PySem.W.fnOf "_law_dip" "_law_dip" (defArgs sDip) (defBody sDip) (defScope sDip) .none kVDip dcDip pmDip anDip cvDip ctDip), slDip⟩) (xDip : PySem.W.codeIn K cvDip "_law_dip" = true) (kDip : PySem.W.keepIn K (.ref fDip) = true)
    (aItems : PySem.W.nsIn K mainGlobals "_law_items" = some (some (.ref fItems))) (lItems : K.lookup fItems = some ⟨ocItems, odItems, .func (PySem.W.fnOf "_law_items" "_law_items" (defArgs sItems) (defBody sItems) (defScope sItems) .none kVItems dcItems pmItems anItems cvItems ctItems), slItems⟩) (xItems : PySem.W.codeIn K cvItems "_law_items" = true) (kItems : PySem.W.keepIn K (.ref fItems) = true)
    (aFolk : PySem.W.nsIn K mainGlobals "_law_folk" = some (some (.ref fFolk))) (lFolk : K.lookup fFolk = some ⟨ocFolk, odFolk, .func (PySem.W.fnOf "_law_folk" "_law_folk" (defArgs sFolk) (defBody sFolk) (defScope sFolk) .none kVFolk dcFolk pmFolk anFolk cvFolk ctFolk), slFolk⟩) (xFolk : PySem.W.codeIn K cvFolk "_law_folk" = true) (kFolk : PySem.W.keepIn K (.ref fFolk) = true)
    (aPut : PySem.W.nsIn K mainGlobals "_law_put" = some (some (.ref fPut))) (lPut : K.lookup fPut = some ⟨ocPut, odPut, .func (PySem.W.fnOf "_law_put" "_law_put" (defArgs sPut) (defBody sPut) (defScope sPut) .none kVPut dcPut pmPut anPut cvPut ctPut), slPut⟩) (xPut : PySem.W.codeIn K cvPut "_law_put" = true) (kPut : PySem.W.keepIn K (.ref fPut) = true)
    (aNest : PySem.W.nsIn K mainGlobals "_law_nest" = some (some (.ref fNest))) (lNest : K.lookup fNest = some ⟨ocNest, odNest, .func (PySem.W.fnOf "_law_nest" "_law_nest" (defArgs sNest) (defBody sNest) (defScope sNest) .none kVNest dcNest pmNest anNest cvNest ctNest), slNest⟩) (xNest : PySem.W.codeIn K cvNest "_law_nest" = true) (kNest : PySem.W.keepIn K (.ref fNest) = true)
    (aLots : PySem.W.nsIn K mainGlobals "_law_lots" = some (some (.ref fLots))) (lLots : K.lookup fLots = some ⟨ocLots, odLots, .func (PySem.W.fnOf "_law_lots" "_law_lots" (defArgs sLots) (defBody sLots) (defScope sLots) .none kVLots dcLots pmLots anLots cvLots ctLots), slLots⟩) (xLots : PySem.W.codeIn K cvLots "_law_lots" = true) (kLots : PySem.W.keepIn K (.ref fLots) = true)
    (aCutL : PySem.W.nsIn K mainGlobals "_law_cut" = some (some (.ref fCutL))) (lCutL : K.lookup fCutL = some ⟨ocCutL, odCutL, .func (PySem.W.fnOf "_law_cut" "_law_cut" (defArgs sCutL) (defBody sCutL) (defScope sCutL) .none kVCutL dcCutL pmCutL anCutL cvCutL ctCutL), slCutL⟩) (xCutL : PySem.W.codeIn K cvCutL "_law_cut" = true) (kCutL : PySem.W.keepIn K (.ref fCutL) = true)
    (aKept : PySem.W.nsIn K mainGlobals "_law_kept" = some (some (.ref fKept))) (lKept : K.lookup fKept = some ⟨ocKept, odKept, .func (PySem.W.fnOf "_law_kept" "_law_kept" (defArgs sKept) (defBody sKept) (defScope sKept) .none kVKept dcKept pmKept anKept cvKept ctKept), slKept⟩) (xKept : PySem.W.codeIn K cvKept "_law_kept" = true) (kKept : PySem.W.keepIn K (.ref fKept) = true)
    (aCut : PySem.W.nsIn K mainGlobals "cut" = some (some (.ref fCut))) (lCut : K.lookup fCut = some ⟨ocCut, odCut, .func (PySem.W.fnOf "cut" "cut" (defArgs sCut) (defBody sCut) (defScope sCut) .none kVCut dcCut pmCut anCut cvCut ctCut), slCut⟩) (xCut : PySem.W.codeIn K cvCut "cut" = true) (kCut : PySem.W.keepIn K (.ref fCut) = true)
    (aCutTo : PySem.W.nsIn K mainGlobals "cut_to" = some (some (.ref fCutTo))) (lCutTo : K.lookup fCutTo = some ⟨ocCutTo, odCutTo, .func (PySem.W.fnOf "cut_to" "cut_to" (defArgs sCutTo) (defBody sCutTo) (defScope sCutTo) .none kVCutTo dcCutTo pmCutTo anCutTo cvCutTo ctCutTo), slCutTo⟩) (xCutTo : PySem.W.codeIn K cvCutTo "cut_to" = true) (kCutTo : PySem.W.keepIn K (.ref fCutTo) = true)
    (aR : PySem.W.nsIn K mainGlobals "_law_right" = some (some (.ref fR))) (lR : K.lookup fR = some ⟨ocR, odR, .func (PySem.W.fnOf "_law_right" "_law_right" (defArgs sRight) (defBody sRight) (defScope sRight) .none kVR dcR pmR anR cvR ctR), slR⟩) (xR : PySem.W.codeIn K cvR "_law_right" = true) (kR : PySem.W.keepIn K (.ref fR) = true)
    (aO : PySem.W.nsIn K mainGlobals "_law_own_right" = some (some (.ref fO))) (lO : K.lookup fO = some ⟨ocO, odO, .func (PySem.W.fnOf "_law_own_right" "_law_own_right" (defArgs sOwn) (defBody sOwn) (defScope sOwn) .none kVO dcO pmO anO cvO ctO), slO⟩) (xO : PySem.W.codeIn K cvO "_law_own_right" = true) (kO : PySem.W.keepIn K (.ref fO) = true)
    (aL : PySem.W.nsIn K mainGlobals "law" = some (some (.ref fL))) (lL : K.lookup fL = some ⟨ocL, odL, .func (PySem.W.fnOf "law" "law" (defArgs sLaw) (defBody sLaw) (defScope sLaw) .none kVL dcL pmL anL cvL ctL), slL⟩) (xL : PySem.W.codeIn K cvL "law" = true) (kL : PySem.W.keepIn K (.ref fL) = true)
    (y_isinstance : PySem.W.nsIn K mainGlobals "isinstance" = some none)
    (y_int : PySem.W.nsIn K mainGlobals "int" = some none)
    (y_bool : PySem.W.nsIn K mainGlobals "bool" = some none)
    (y_list : PySem.W.nsIn K mainGlobals "list" = some none)
    (y_len : PySem.W.nsIn K mainGlobals "len" = some none)
    (y_all : PySem.W.nsIn K mainGlobals "all" = some none)
    (y_any : PySem.W.nsIn K mainGlobals "any" = some none)
    (y_sum : PySem.W.nsIn K mainGlobals "sum" = some none)
    (y_zip : PySem.W.nsIn K mainGlobals "zip" = some none)
    (y_sorted : PySem.W.nsIn K mainGlobals "sorted" = some none)
    (y_tuple : PySem.W.nsIn K mainGlobals "tuple" = some none)
    (y_range : PySem.W.nsIn K mainGlobals "range" = some none)
    (y_enumerate : PySem.W.nsIn K mainGlobals "enumerate" = some none)
    (y_abs : PySem.W.nsIn K mainGlobals "abs" = some none)
    (y_max : PySem.W.nsIn K mainGlobals "max" = some none)
    (y_min : PySem.W.nsIn K mainGlobals "min" = some none)
    (y_repr : PySem.W.nsIn K mainGlobals "repr" = some none)
    (zComb : PySem.W.nsIn K mainGlobals "combinations" = some (some (.type "itertools.combinations"))) (zMost : PySem.W.nsIn K mainGlobals "MOST_PERSONS" = some (some (.int 20 mtok))) :
    ∃ fd : FuncData, (∀ (s : Shared) (v : Value), BindsTo s fd ⟨[v], []⟩ [("script", v)]) ∧ ∀ base : Heap, K.In base → base.Ns mainGlobals mg → FnG l.prog w K mg base CX0 25 fa fd ["script"] (spLaw K) := by
  have e := hfa.symm.trans (PySem.W.mg_of X G aL)
  cases e
  have FNum := fun_mk (st := sNumber) lNum xNum kNum
  have bNum := FNum.binds (ps := ["thing"]) fun _ _ _ _ _ _ us hl => match us, hl with | [_], _ => rfl
  have FPer := fun_mk (st := sPerson) lPer xPer kPer
  have bPer := FPer.binds (ps := ["thing", "persons"]) fun _ _ _ _ _ _ us hl => match us, hl with | [_, _], _ => rfl
  have FAsc := fun_mk (st := sAsc) lAsc xAsc kAsc
  have bAsc := FAsc.binds (ps := ["items"]) fun _ _ _ _ _ _ us hl => match us, hl with | [_], _ => rfl
  have FPL := fun_mk (st := sPList) lPL xPL kPL
  have bPL := FPL.binds (ps := ["thing", "persons"]) fun _ _ _ _ _ _ us hl => match us, hl with | [_, _], _ => rfl
  have FGr := fun_mk (st := sGroup) lGr xGr kGr
  have bGr := FGr.binds (ps := ["thing", "persons"]) fun _ _ _ _ _ _ us hl => match us, hl with | [_, _], _ => rfl
  have FMask := fun_mk (st := sMask) lMask xMask kMask
  have bMask := FMask.binds (ps := ["group"]) fun _ _ _ _ _ _ us hl => match us, hl with | [_], _ => rfl
  have FCross := fun_mk (st := sCross) lCross xCross kCross
  have bCross := FCross.binds (ps := ["one", "other"]) fun _ _ _ _ _ _ us hl => match us, hl with | [_, _], _ => rfl
  have FAny := fun_mk (st := sAny) lAny xAny kAny
  have bAny := FAny.binds (ps := ["groups"]) fun _ _ _ _ _ _ us hl => match us, hl with | [_], _ => rfl
  have FIs := fun_mk (st := sParting) lIs xIs kIs
  have bIs := FIs.binds (ps := ["thing"]) fun _ _ _ _ _ _ us hl => match us, hl with | [_], _ => rfl
  have FPs := fun_mk (st := sPersons) lPs xPs kPs
  have bPs := FPs.binds (ps := ["parting"]) fun _ _ _ _ _ _ us hl => match us, hl with | [_], _ => rfl
  have FPouch := fun_mk (st := sPouch) lPouch xPouch kPouch
  have bPouch := FPouch.binds (ps := ["script", "at"]) fun _ _ _ _ _ _ us hl => match us, hl with | [_, _], _ => rfl
  have FDip := fun_mk (st := sDip) lDip xDip kDip
  have bDip := FDip.binds (ps := ["pouch", "wide"]) fun _ _ _ _ _ _ us hl => match us, hl with | [_, _], _ => rfl
  have FItems := fun_mk (st := sItems) lItems xItems kItems
  have bItems := FItems.binds (ps := ["pouch", "many"]) fun _ _ _ _ _ _ us hl => match us, hl with | [_, _], _ => rfl
  have FFolk := fun_mk (st := sFolk) lFolk xFolk kFolk
  have bFolk := FFolk.binds (ps := ["nest"]) fun _ _ _ _ _ _ us hl => match us, hl with | [_], _ => rfl
  have FPut := fun_mk (st := sPut) lPut xPut kPut
  have bPut := FPut.binds (ps := ["nest", "item", "fresh"]) fun _ _ _ _ _ _ us hl => match us, hl with | [_, _, _], _ => rfl
  have FNest := fun_mk (st := sNest) lNest xNest kNest
  have bNest := FNest.binds (ps := ["items"]) fun _ _ _ _ _ _ us hl => match us, hl with | [_], _ => rfl
  have FLots := fun_mk (st := sLots) lLots xLots kLots
  have bLots := FLots.binds (ps := ["nest"]) fun _ _ _ _ _ _ us hl => match us, hl with | [_], _ => rfl
  have FCutL := fun_mk (st := sCutL) lCutL xCutL kCutL
  have bCutL := FCutL.binds (ps := ["nest", "kept"]) fun _ _ _ _ _ _ us hl => match us, hl with | [_, _], _ => rfl
  have FKept := fun_mk (st := sKept) lKept xKept kKept
  have bKept := FKept.binds (ps := ["pouch", "many"]) fun _ _ _ _ _ _ us hl => match us, hl with | [_, _], _ => rfl
  have FCut := fun_mk (st := sCut) lCut xCut kCut
  have bCut := FCut.binds (ps := ["parting", "some"]) fun _ _ _ _ _ _ us hl => match us, hl with | [_, _], _ => rfl
  have FCutTo := fun_mk (st := sCutTo) lCutTo xCutTo kCutTo
  have bCutTo := FCutTo.binds (ps := ["parting", "some"]) fun _ _ _ _ _ _ us hl => match us, hl with | [_, _], _ => rfl
  have FR := fun_mk (st := sRight) lR xR kR
  have bR := FR.binds (ps := ["pouch", "many"]) fun _ _ _ _ _ _ us hl => match us, hl with | [_, _], _ => rfl
  have FO := fun_mk (st := sOwn) lO xO kO
  have bO := FO.binds (ps := ["pouch", "many"]) fun _ _ _ _ _ _ us hl => match us, hl with | [_, _], _ => rfl
  have FL := fun_mk (st := sLaw) lL xL kL
  have bL := FL.binds (ps := ["script"]) fun _ _ _ _ _ _ us hl => match us, hl with | [_], _ => rfl
  have Tp : TxtP mg := ⟨PySem.W.mg_none_of X G y_isinstance, PySem.W.mg_none_of X G y_int, PySem.W.mg_none_of X G y_bool, PySem.W.mg_none_of X G y_list, PySem.W.mg_none_of X G y_len, PySem.W.mg_none_of X G y_all, PySem.W.mg_none_of X G y_any, PySem.W.mg_none_of X G y_sum, PySem.W.mg_none_of X G y_zip, PySem.W.mg_none_of X G y_sorted, PySem.W.mg_none_of X G y_tuple, PySem.W.mg_none_of X G y_range, PySem.W.mg_none_of X G y_enumerate⟩
  have T : TxtW mg := { toTxtP := Tp, abs := PySem.W.mg_none_of X G y_abs, max := PySem.W.mg_none_of X G y_max, min := PySem.W.mg_none_of X G y_min, repr := PySem.W.mg_none_of X G y_repr }
  have Z : ProgF K mg := { fNum := fNum, dNum := _, FNum := FNum, gNum := PySem.W.mg_of X G aNum, bNum := bNum, fPer := fPer, dPer := _, FPer := FPer, gPer := PySem.W.mg_of X G aPer, bPer := bPer, fAsc := fAsc, dAsc := _, FAsc := FAsc, gAsc := PySem.W.mg_of X G aAsc, bAsc := bAsc, fPL := fPL, dPL := _, FPL := FPL, gPL := PySem.W.mg_of X G aPL, bPL := bPL, fGr := fGr, dGr := _, FGr := FGr, gGr := PySem.W.mg_of X G aGr, bGr := bGr, fMask := fMask, dMask := _, FMask := FMask, gMask := PySem.W.mg_of X G aMask, bMask := bMask, fCross := fCross, dCross := _, FCross := FCross, gCross := PySem.W.mg_of X G aCross, bCross := bCross, fAny := fAny, dAny := _, FAny := FAny, gAny := PySem.W.mg_of X G aAny, bAny := bAny, fIs := fIs, dIs := _, FIs := FIs, gIs := PySem.W.mg_of X G aIs, bIs := bIs, fPs := fPs, dPs := _, FPs := FPs, gPs := PySem.W.mg_of X G aPs, bPs := bPs, gComb := PySem.W.mg_of X G zComb, mostT := _, gMost := PySem.W.mg_of X G zMost }
  have W : LawF K mg := { Z := Z, T := T, fPouch := fPouch, dPouch := _, FPouch := FPouch, gPouch := PySem.W.mg_of X G aPouch, bPouch := bPouch, fDip := fDip, dDip := _, FDip := FDip, gDip := PySem.W.mg_of X G aDip, bDip := bDip, fItems := fItems, dItems := _, FItems := FItems, gItems := PySem.W.mg_of X G aItems, bItems := bItems, fFolk := fFolk, dFolk := _, FFolk := FFolk, gFolk := PySem.W.mg_of X G aFolk, bFolk := bFolk, fPut := fPut, dPut := _, FPut := FPut, gPut := PySem.W.mg_of X G aPut, bPut := bPut, fNest := fNest, dNest := _, FNest := FNest, gNest := PySem.W.mg_of X G aNest, bNest := bNest, fLots := fLots, dLots := _, FLots := FLots, gLots := PySem.W.mg_of X G aLots, bLots := bLots, fCutL := fCutL, dCutL := _, FCutL := FCutL, gCutL := PySem.W.mg_of X G aCutL, bCutL := bCutL, fKept := fKept, dKept := _, FKept := FKept, gKept := PySem.W.mg_of X G aKept, bKept := bKept, fCut := fCut, dCut := _, FCut := FCut, gCut := PySem.W.mg_of X G aCut, bCut := bCut, fCutTo := fCutTo, dCutTo := _, FCutTo := FCutTo, gCutTo := PySem.W.mg_of X G aCutTo, bCutTo := bCutTo, kbCutTo := kb_two (fun s a b => .of_eq rfl) (fun s a b => .of_eq rfl) (fun s a b => .of_eq rfl) }
  refine ⟨PySem.W.fnOf "law" "law" (defArgs sLaw) (defBody sLaw) (defScope sLaw) .none kVL dcL pmL anL cvL ctL, fun s v => .of_eq rfl, fun base _ _ => ?_⟩
  exact ok_law FL W FR (PySem.W.mg_of X G aR) bR FO (PySem.W.mg_of X G aO) bO
theorem walk {l : PySem.W.OpenLaw} {q : Program} {loose : List Str} {XP : (Str → Option Value) → Heap → Prop} {YP : World → Heap → Prop} {d : DefRec} {K : Params → PySem.W.Frag} (hn : l.most = some 63) (hdf : d.params.defaults = [])
    (hY : ∀ (w : World) (h : Heap), YP w h → (K w.params).In h)
    (F : ∀ (w : World) (mg : Str → Option Value) (fa : Addr) (h : Heap), (K w.params).In h → h.Ns mainGlobals mg → mg d.name = some (.ref fa) →
      ∃ fd : FuncData, (∀ (s : Shared) (u : Value), BindsTo s fd ⟨[u], []⟩ [("script", u)]) ∧ ∀ base : Heap, (K w.params).In base → base.Ns mainGlobals mg → FnG l.prog w (K w.params) mg base CX0 25 fa fd ["script"] (spLaw (K w.params))) :
    PySem.W.WalkO q loose XP YP l.row.toRowW d [] (fun f vs => PySem.call f vs) :=
  walk_ofG (n := 63) (lv := 25) (x := "script") (cx := fun _ => CX0) (prom := fun w => spLaw (K w.params)) hn (by decide) hdf ⟨rfl, by decide, by decide⟩ hY F (fun _ _ a ns hl _ _ hS => ⟨a, ns, rfl, hS, hl, fun _ => rfl⟩) fun _ _ _ _ _ z => z
end K03


open PySem PySem.W PyProof.Rows in
set_option maxRecDepth 100000 in
set_option maxHeartbeats 0 in
theorem PySem.Challenge.cw_twopartings_k03_partings_cut_holds : PySem.Challenge.rw_twopartings_k03_partings_cut.Holds := by
  w_on; o_law; k_head; (case hw => w_witness2)
  k_fill
  refine K03.walk (l := PySem.Challenge.rw_twopartings_k03_partings_cut) rfl rfl (fun w h Y => PySem.W.kIn_of Y) ?F
  case F =>
    intro w mg fa h KX G hmg
    refine' K03.all_mk KX G hmg ?aNum ?lNum ?xNum ?kNum ?aPer ?lPer ?xPer ?kPer ?aAsc ?lAsc ?xAsc ?kAsc ?aPL ?lPL ?xPL ?kPL ?aGr ?lGr ?xGr ?kGr ?aMask ?lMask ?xMask ?kMask ?aCross ?lCross ?xCross ?kCross ?aAny ?lAny ?xAny ?kAny ?aIs ?lIs ?xIs ?kIs ?aPs ?lPs ?xPs ?kPs ?aPouch ?lPouch ?xPouch ?kPouch ?aDip ?lDip ?xDip ?kDip ?aItems ?lItems ?xItems ?kItems ?aFolk ?lFolk ?xFolk ?kFolk ?aPut ?lPut ?xPut ?kPut ?aNest ?lNest ?xNest ?kNest ?aLots ?lLots ?xLots ?kLots ?aCutL ?lCutL ?xCutL ?kCutL ?aKept ?lKept ?xKept ?kKept ?aCut ?lCut ?xCut ?kCut ?aCutTo ?lCutTo ?xCutTo ?kCutTo ?aR ?lR ?xR ?kR ?aO ?lO ?xO ?kO ?aL ?lL ?xL ?kL ?y_isinstance ?y_int ?y_bool ?y_list ?y_len ?y_all ?y_any ?y_sum ?y_zip ?y_sorted ?y_tuple ?y_range ?y_enumerate ?y_abs ?y_max ?y_min ?y_repr ?zComb ?zMost
    (case aNum => k_is)
    (case lNum => k_is)
    (case xNum => k_is)
    (case kNum => k_is)
    (case aPer => k_is)
    (case lPer => k_is)
    (case xPer => k_is)
    (case kPer => k_is)
    (case aAsc => k_is)
    (case lAsc => k_is)
    (case xAsc => k_is)
    (case kAsc => k_is)
    (case aPL => k_is)
    (case lPL => k_is)
    (case xPL => k_is)
    (case kPL => k_is)
    (case aGr => k_is)
    (case lGr => k_is)
    (case xGr => k_is)
    (case kGr => k_is)
    (case aMask => k_is)
    (case lMask => k_is)
    (case xMask => k_is)
    (case kMask => k_is)
    (case aCross => k_is)
    (case lCross => k_is)
    (case xCross => k_is)
    (case kCross => k_is)
    (case aAny => k_is)
    (case lAny => k_is)
    (case xAny => k_is)
    (case kAny => k_is)
    (case aIs => k_is)
    (case lIs => k_is)
    (case xIs => k_is)
    (case kIs => k_is)
    (case aPs => k_is)
    (case lPs => k_is)
    (case xPs => k_is)
    (case kPs => k_is)
    (case aPouch => k_is)
    (case lPouch => k_is)
    (case xPouch => k_is)
    (case kPouch => k_is)
    (case aDip => k_is)
    (case lDip => k_is)
    (case xDip => k_is)
    (case kDip => k_is)
    (case aItems => k_is)
    (case lItems => k_is)
    (case xItems => k_is)
    (case kItems => k_is)
    (case aFolk => k_is)
    (case lFolk => k_is)
    (case xFolk => k_is)
    (case kFolk => k_is)
    (case aPut => k_is)
    (case lPut => k_is)
    (case xPut => k_is)
    (case kPut => k_is)
    (case aNest => k_is)
    (case lNest => k_is)
    (case xNest => k_is)
    (case kNest => k_is)
    (case aLots => k_is)
    (case lLots => k_is)
    (case xLots => k_is)
    (case kLots => k_is)
    (case aCutL => k_is)
    (case lCutL => k_is)
    (case xCutL => k_is)
    (case kCutL => k_is)
    (case aKept => k_is)
    (case lKept => k_is)
    (case xKept => k_is)
    (case kKept => k_is)
    (case aCut => k_is)
    (case lCut => k_is)
    (case xCut => k_is)
    (case kCut => k_is)
    (case aCutTo => k_is)
    (case lCutTo => k_is)
    (case xCutTo => k_is)
    (case kCutTo => k_is)
    (case aR => k_is)
    (case lR => k_is)
    (case xR => k_is)
    (case kR => k_is)
    (case aO => k_is)
    (case lO => k_is)
    (case xO => k_is)
    (case kO => k_is)
    (case aL => k_is)
    (case lL => k_is)
    (case xL => k_is)
    (case kL => k_is)
    (case y_isinstance => k_is)
    (case y_int => k_is)
    (case y_bool => k_is)
    (case y_list => k_is)
    (case y_len => k_is)
    (case y_all => k_is)
    (case y_any => k_is)
    (case y_sum => k_is)
    (case y_zip => k_is)
    (case y_sorted => k_is)
    (case y_tuple => k_is)
    (case y_range => k_is)
    (case y_enumerate => k_is)
    (case y_abs => k_is)
    (case y_max => k_is)
    (case y_min => k_is)
    (case y_repr => k_is)
    (case zComb => k_is)
    (case zMost => k_is)
