import PyProof.Rows.All
import Wide.All
import OpenK.AllK
import Wide.FinOn
import PySem.Challenge.RW_twopartings_k02_parts_makers_and_depths
import HandS.ForMost
import HandS.Wide
import HandS.WideBits
import PyProof.ReprRoads
import HandS.EndBits
import PyProof.ZipIter
import PyProof.CallType
import PyProof.Walk
import PyProof.WalkLemmas
import PyProof.RangeIter
import PyProof.RulesTry
import PyProof.TupleOfSeq
import KE.SortData
import KE.DataCmp
import HandS.DictComp
import HandS.Conv
import PyProof.Rows.BitMore
import PyProof.ReprLen
import KE.KMinBuiltin
import HandS.IsInst
import HandS.Deep
set_option Elab.async false
set_option linter.all false
set_option maxRecDepth 100000
set_option maxHeartbeats 4000000
namespace RepA
open PySem PySem.Spec PyProof.Rows L2

/-! ### data without a dict -/
mutual
theorem dp_nodict {K : PySem.W.Frag} {H : Hp} : ∀ (d : PyData) (v : V), Dp K H v d → d.hasDict = false
  | .none, _, _ => by simp only [PyData.hasDict]
  | .bool _, _, _ => by simp only [PyData.hasDict]
  | .int _, _, _ => by simp only [PyData.hasDict]
  | .str _, _, _ => by simp only [PyData.hasDict]
  | .list ds, _, h => by
    cases h with
    | lst hs ha =>
      simp only [PyData.hasDict]
      exact dpAll_nodict ds _ ha
  | .tuple ds, _, h => by
    cases h with
    | tup hs ha =>
      simp only [PyData.hasDict]
      exact dpAll_nodict ds _ ha
  | .dict _, _, h => by cases h
theorem dpAll_nodict {K : PySem.W.Frag} {H : Hp} : ∀ (ds : List PyData) (vs : List V), DpAll K H vs ds → PyData.hasDictAll ds = false
  | [], _, _ => by simp only [PyData.hasDictAll]
  | d :: ds, _, h => by
    cases h with
    | cons h1 h2 => simp only [PyData.hasDictAll, dp_nodict d _ h1, dpAll_nodict ds _ h2, Bool.or_self]
end

/-! ### an item: data, or an empty dict -/
def Dd (K : PySem.W.Frag) (H : Hp) (v : V) (d : PyData) : Prop := Dp K H v d ∨ ∃ a, v = .ref a ∧ H a = some (.dK []) ∧ d = .dict []
inductive DdAll (K : PySem.W.Frag) (H : Hp) : List V → List PyData → Prop
  | nil : DdAll K H [] []
  | cons {v : V} {vs : List V} {d : PyData} {ds : List PyData} : Dd K H v d → DdAll K H vs ds → DdAll K H (v :: vs) (d :: ds)
theorem DdAll.of_dp {K : PySem.W.Frag} {H : Hp} : ∀ {vs : List V} {ds : List PyData}, DpAll K H vs ds → DdAll K H vs ds
  | _, _, .nil => .nil
  | _, _, .cons h r => .cons (.inl h) (.of_dp r)

section
variable {X : Cx} {pins : List (Addr × Obj)} {σ : L2.St} {H : Hp} {s : Shared}
theorem dd_reads (I : Inv X pins σ H s) {v : V} {u : Value} {d : PyData} (h : Dd X.K H v d) (r : RelV v u) : ∃ as, Reads s.heap u d as ∧ (d.hasDict = true → sysModules ∉ as) := by
  rcases h with h | ⟨a, rfl, ha, rfl⟩
  · obtain ⟨as, q⟩ := Dp.reads I d v u h r
    exact ⟨as, q, fun e => by rw [dp_nodict d v h] at e; cases e⟩
  · obtain rfl : u = Value.ref a := r
    obtain ⟨_, hn, vs, rel, dd⟩ := dk_of I.hok ha
    obtain ⟨o, es, ep, e1, e2, e3, e4⟩ := dd
    cases rel
    have hes : es.toList = [] := by
      have q := e4.2.1
      generalize es.toList = l at q
      cases q
      rfl
    refine ⟨[a], ?_, fun _ hm => ?_⟩
    · refine Reads.dict (as := []) (bs := []) e1 e2.1 e3 ?_ ?_
      · rw [hes]
        exact ReadsAll.nil
      · rw [hes]
        exact ReadsAll.nil
    · rcases List.mem_cons.mp hm with q | q
      · rw [q] at hn
        rw [beq_self_eq_true] at hn
        cases hn
      · cases q

/-- all items, each by itself -/
theorem dd_all (I : Inv X pins σ H s) : ∀ {vs : List V} {ds : List PyData} {us : List Value}, DdAll X.K H vs ds → Vals vs us → PyData.showableAll ds = true → (∀ t ∈ PyData.shownAll ds, t.length ≤ sizeLine) →
    (∃ as, ReadsAll s.heap us ds as) ∧ ∃ bs, ReadAtMost s.heap (PyData.depthAll ds) bs ∧ ReprAllK X.prog X.w bs s.heap (PyData.depthAll ds) us (PyData.shownAll ds)
  | _, _, _, .nil, .nil, _, _ => ⟨⟨_, .nil⟩, [], (fun _ h => nomatch h), by simp only [PyData.shownAll]; exact .nil⟩
  | _, _, _, .cons (d := d) (ds := ds) h hr, .cons r rr, hs, hz => by
    obtain ⟨s1, s2⟩ : d.showable = true ∧ PyData.showableAll ds = true := by simpa [PyData.showableAll] using hs
    obtain ⟨a1, q1, n1⟩ := dd_reads I h r
    obtain ⟨b1, m1, k1⟩ := ReprK.of_reads (prog := X.prog) (w := X.w) q1 s1 n1 (hz _ (by simp only [PyData.shownAll]; exact List.mem_cons_self ..))
    obtain ⟨⟨a2, q2⟩, b2, m2, k2⟩ := dd_all I hr rr s2 fun t ht => hz t (by simp only [PyData.shownAll]; exact List.mem_cons_of_mem _ ht)
    have l1 : d.depth ≤ PyData.depthAll (d :: ds) := by simp only [PyData.depthAll]; omega
    have l2 : PyData.depthAll ds ≤ PyData.depthAll (d :: ds) := by simp only [PyData.depthAll]; omega
    refine ⟨⟨_, .cons q1 q2⟩, b1 ++ b2, fun b hb => ?_, ?_⟩
    · rcases List.mem_append.mp hb with hb | hb
      · obtain ⟨d', as', r', z⟩ := m1 b hb
        exact ⟨d', as', r', Nat.le_trans z l1⟩
      · obtain ⟨d', as', r', z⟩ := m2 b hb
        exact ⟨d', as', r', Nat.le_trans z l2⟩
    · simp only [PyData.shownAll]
      exact .cons ((k1.more fun b hb => List.mem_append.mpr (.inl hb)).level_le l1) (k2.more_le (fun b hb => List.mem_append.mpr (.inr hb)) l2)

/-- repr of a list of data and empty dicts, where no guard stands -/
theorem call_reprL (hg : X.A.guards = some []) (hu : X.A.units + 64 < cLine) : CallR X (.builtin "repr") (fun xs H Q => ∃ a ys ds, xs = [V.ref a] ∧ SqL X.K H a ys ∧ DdAll X.K H ys ds ∧ PyData.showableAll ds = true ∧ PyData.depthAll ds ≤ 40 ∧
    (listText (PyData.shownAll ds)).length ≤ sizeLine ∧ Q (.str (PyData.list ds).shown) H) := by
  intro pins s σ H xs us Q I r h
  obtain ⟨a, ys, ds, rfl, hs, hd, hw, hdp, hz, q⟩ := h
  obtain ⟨u, rfl, ru⟩ := vals1 r
  obtain rfl : u = Value.ref a := ru
  obtain ⟨its, rv, ⟨o, n, ho, hc, hne, hda⟩, hsz⟩ := I.list hs
  obtain ⟨⟨as, hR⟩, bs, hb, hk⟩ := dd_all I hd rv hw fun t ht => Nat.le_trans (listText_mem_le ht) hz
  have rd : Reads s.heap (.ref a) (.list ds) (a :: as) := .list ho hc hda hR
  have hna : a ∉ bs := not_mem_of_deeper rd (by simp only [PyData.depth]; omega) hb
  have fin : ∀ (t tk : Nat) (h' : Heap), (∀ b o, s.heap.get? b = some o → h'.get? b = some o) → EP X pins σ Q (.str (listText (PyData.shownAll ds)) t) { s with heap := h', toks := tk } := fun t tk h' k =>
    ⟨.str _, H, I.kept k, ⟨t, rfl⟩, by simpa only [PyData.shown] using q⟩
  refine call_repr_slot (by omega) ⟨o, ho, hc⟩ F.slot_list_repr.toG ?_
  obtain ⟨l⟩ : ∃ l, l = its := ⟨_, rfl⟩
  cases its with
  | nil =>
    cases hR
    exact call_list_repr_empty ⟨o, ho, hc⟩ ho hda ⟨_, _, rfl, by simpa only [PyData.shownAll, listText_nil] using fin s.toks (s.toks + 1) s.heap fun _ _ e => e⟩
  | cons x l =>
    refine call_list_reprK (h₀ := s.heap) ho hc hda hna (by simpa using hk.length_eq) (fun i y e => hk.item i y (by simpa using e)) hg (fun b _ => Clear.nil b) (by show X.A.units + 1 + (PyData.depthAll ds + 1) < cLine; omega) (fun _ _ e => e) (fun h' t tk k => ⟨_, _, rfl, fin t tk h' k⟩) hz
end
end RepA

namespace RepA
open PySem PySem.Spec PyProof.Rows L2

/-! ### the promise of a def that is called where no guard stands -/
structure FnG (Pg : Program) (wd : World) (Kf : PySem.W.Frag) (gl : Str → Option Value) (bs : Heap) (cx : CXT) (lv : Nat) (fa : Addr) (dat : FuncData) (names : List Str) (prom : Sp) : Prop where
  cnt : ∀ xs G Qv Ex, prom xs G Qv Ex → xs.length = names.length
  go : ∀ (Ar : Around) (fr : List Env) (sh : Shared) (G : Hp) (ar : Args) (us : List Value) (xs : List V) (Qv : VK) (Ex : XK), Room lv Ar → Ar.guards = some [] →
    Env0 Pg wd Kf gl bs Ar fr sh G → BindsTo sh dat ar (names.zip us) → Vals xs us → prom xs G Qv Ex →
    codeAny (model Pg wd) Ar (.call (.ref fa) ar) (CR cx fr Pg wd G sh Qv Ex) sh

theorem FnG.of {Pg : Program} {wd : World} {Kf : PySem.W.Frag} {gl : Str → Option Value} {bs : Heap} {cx : CXT} {lv : Nat} {fa : Addr} {dat : FuncData} {names : List Str} {prom : Sp}
    (f : FnOk Pg wd Kf gl bs cx lv fa dat names prom) : FnG Pg wd Kf gl bs cx lv fa dat names prom :=
  ⟨f.len, fun Ar fr sh G ar us xs Qv Ex r _ e b v p => f.run Ar fr sh G ar us xs Qv Ex r e b v p⟩

/-- a def of the text by its body, where no guard stands -/
theorem okG {Pg : Program} {wd : World} {Kf : PySem.W.Frag} {gl : Str → Option Value} {bs : Heap} {nm qn : Str} {st : Stmt} {fa : Addr} {dat : FuncData} {slots names : List Str} {lv : Nat} {prom : Sp}
    (F : Fun Kf nm qn st fa dat) (S : FnScope slots names (defScope st)) (cnt : ∀ xs G Qv Ex, prom xs G Qv Ex → xs.length = names.length)
    (body : ∀ (cd : Value) (Ar : Around) (fr : List Env) (sh : Shared) (G : Hp) (xs : List V) (Qv : VK) (Ex : XK), Room lv (Ar.deeper (envOfC qn (defScope st) sh.heap.objs.size fa cd)) → Ar.guards = some [] → prom xs G Qv Ex →
      ∃ t, PSs (cxOf CX0 Pg wd Kf gl bs slots qn (defScope st) fa cd Ar fr sh G Ex).nox (defBody st) t ∧ t { nx := fun _ G' => Qv .non G', rt := Qv } (start slots xs) G) :
    FnG Pg wd Kf gl bs CX0 (lv + 1) fa dat names prom := by
  obtain ⟨oc, od, kV, doc, pm, an, cd, ct, osl, rfl, look, code⟩ := F.ex
  refine ⟨cnt, fun Ar fr sh G ar us xs Qv Ex room noG env bind vals hp => ?_⟩
  have sz := cnt _ _ _ _ hp
  have inK : Kf.In sh.heap := env.mod.kin.keeps fun b o q => (env.bs b o q).1
  have noL : sh.heap.NoLimit := env.mod.nolimit.keeps fun b o q => (env.bs b o q).1
  have kinds : ∀ y ∈ names.zip us, (defScope st).names.lookup y.1 = some .local ∨ ((defScope st).names.lookup y.1 = some .cell ∧ ((cellsFrom (sh.heap.objs.size + 1) (defScope st).names []).lookup y.1).isSome = true) := by
    rintro ⟨n, v⟩ hy
    rcases S.par n (List.of_mem_zip hy).1 with z | z
    · exact .inl z
    · exact .inr ⟨z, PySem.W.cellsFrom_some _ _ _ (.inl z)⟩
  refine codeAny_call_function room.depth (inK _ _ look) rfl S.co S.gen rfl (PySem.W.codeRec_of inK code) (bind _ _ _ _ ?_)
  refine wpAny_newFunctionEnv_cells S.kind kinds fun en hen sh1 inC => ?_
  subst hen
  refine ⟨noL.keeps inC.toInCall.keep, codeAny_func ?_⟩
  obtain ⟨t, walk, read⟩ := body cd Ar fr sh G xs Qv Ex (room.deeper _) noG hp
  have I0 := inv_start (CX := CX0) (P := Pg) (w := wd) (K := Kf) (mg := gl) (base := bs) (E := Ex) S room.hd env sz vals inC
  refine wpAny_mono (walk.nox.run [] sh1 _ G _ I0 read) (fun fl sh2 out => ?_) fun _ _ x => x
  cases fl with
  | ret u =>
    obtain ⟨v, σ2, G2, J, rel, q⟩ := out
    exact ⟨v, G2, J.os, J.bare, J.base, J.hok, rel, q⟩
  | next =>
    obtain ⟨σ2, G2, J, q⟩ := out
    exact ⟨V.non, G2, J.os, J.bare, J.base, J.hok, (rfl : RelV V.non Value.none), q⟩
  | brk => exact out.elim fun _ z => z.elim fun _ z => z.2.elim
  | cont => exact out.elim fun _ z => z.elim fun _ z => z.2.elim

section
variable {X : Cx} {x : Str} {p pos : Pos} {e : Expr} {es : List Expr} {t : TA} {CX : CXT} {k : Nat} {f : Addr} {fd : FuncData} {ps : List Str} {sp : Sp} {ds : List Value} {dvs : List V} {E : XK}
/-- f(e, ..), f such a def -/
theorem pe_callG (F : FnG X.prog X.w X.K X.mg X.base CX k f fd ps sp) (room : Room k X.A) (noG : X.A.guards = some []) (hg : Gl X x) (hm : X.mg x = some (.ref f)) (kp : PySem.W.keepIn X.K (.ref f) = true) (bd : Binds X.K fd ps ds) (dv : Vals dvs ds) (ps' : Passes CX X E)
    (args : PA X (e :: es) t) (hdb : (x == ("__debug__" : Str)) = false := by decide) (h1 : starEach (e :: es) X.env = (false, eval e X.env) :: starEach es X.env := by rfl) (h2 : (backTo pos (starEach es X.env)).any (·.1) = false := by rfl) :
    PE X (.Call (.Name x p) (e :: es) [] pos) (tCall sp dvs E t) := by
  refine ⟨fun pins s σ H Q I rd => ?_⟩
  refine wpAny_Call_Name_kw (ld_glob I hg hm ?_ hdb)
  refine PySem.W.callWith_K (h₀ := X.base) I.ok.mod.kin kp (thn (args.run pos pins s σ H _ I rd) fun us s1 ⟨vs, H1, I1, rv, q⟩ => ⟨I1.kIn, ?_⟩) h1 h2
  have rv2 : Vals (vs ++ dvs) (us ++ ds) := rv.append dv
  have sz : (us ++ ds).length = ps.length := rv2.length.symm.trans (F.cnt _ _ _ _ q)
  refine wpAny_call (codeAny_mono (F.go X.A X.stack s1 H1 ⟨us, []⟩ _ _ Q E room noG I1.env0 (bd s1 us I1.kIn sz) rv2 q) fun r s2 out => ?_)
  match r, out with
  | .error er, out => exact ps' pins σ H1 s1 er s2 I1 out
  | .ok (.ret u), out => exact I1.after out
  | .ok .next, out => exact out.elim
  | .ok .brk, out => exact out.elim
  | .ok .cont, out => exact out.elim
end
end RepA

namespace RepA
open PySem PySem.Spec PyProof.Rows L2

/-- the law's call from the caller, over an abstract heap that holds at most the script -/
theorem from_caller {Pg : Program} {wd : World} {Kf : PySem.W.Frag} {gl mb : Str → Option Value} {cx : CXT} {lv : Nat} {fa a : Addr} {dat : FuncData} {x : Str} {prom : Sp} {sh : Shared} {ob : Obj} {n0 : Nat} {vals : Array Value}
    (inK : Kf.In sh.heap) (nG : sh.heap.Ns mainGlobals gl) (nB : sh.heap.Ns builtinsNs mb) (isB : ∀ y : Str, y ≠ "__name__" → mb y = bootBuiltins y) (noL : sh.heap.NoLimit) (noGen : sh.gens = #[]) (at_a : sh.heap.get? a = some ob) (list_a : ob.data = .seq vals n0)
    (room : Room lv callerA) (F : ∀ bs : Heap, Kf.In bs → bs.Ns mainGlobals gl → FnG Pg wd Kf gl bs cx lv fa dat [x] prom) (bd : ∀ (s : Shared) (u : Value), BindsTo s dat ⟨[u], []⟩ [(x, u)])
    (noX : ∀ G e s', cx [] G sh (fun _ _ _ => False) e s' → False) (G : Hp) (only : Only G) (keeps : HOk Pg wd G sh.heap) (justA : ∀ b, G b ≠ none → b = a) (notK : G a ≠ none → Kf.lookup a = none)
    (hp : prom [.ref a] G (fun v _ => v = .bl true) fun _ _ _ => False) :
    codeAny (model Pg wd) callerA (.call (.ref fa) ⟨[.ref a], []⟩) (fun r s' => r = .ok (.ret (.bool true)) ∧ OldK sh.heap s'.heap ∧ s'.os = sh.os ∧ AllBare s'.gens) sh := by
  have free : ∀ {b : Addr}, b ≠ a → G b = none := fun {b} ne => Classical.byContradiction fun z => ne (justA b z)
  have hides : ∀ {b : Addr} {o : Obj}, sh.heap.get? b = some o → G b = none → (hidT sh.heap G).get? b = some o := fun q z => hidT_get q z
  have ns : ∀ {b : Addr} {m : Str → Option Value}, sh.heap.Ns b m → (hidT sh.heap G).Ns b m := fun {b m} h => by
    obtain ⟨o, es, ep, q, dd, rest⟩ := h
    refine ⟨o, es, ep, hides q (free fun z => ?_), dd, rest⟩
    rw [z, at_a] at q
    cases q
    rw [list_a] at dd
    cases dd
  have inK' : Kf.In (hidT sh.heap G) := fun b o q => hides (inK b o q) (by
    rcases Option.eq_none_or_eq_some (G b) with z | ⟨u, z⟩
    · exact z
    · have ne : G b ≠ none := by rw [z]; exact fun c => nomatch c
      have ba := justA b ne
      rw [ba] at q ne
      rw [notK ne] at q
      cases q)
  have md : Mod Kf gl (hidT sh.heap G) := ⟨inK', ns nG, ⟨mb, ns nB, isB⟩, let ⟨mc, z1, z2⟩ := noL; ⟨mc, ns z1, z2⟩⟩
  have env : Env0 Pg wd Kf gl (hidT sh.heap G) callerA [] sh G := ⟨rfl, md, fun _ _ q => of_hidT q, Nat.le_of_eq (hidT_size _ _), trivial, (fun b hb => nomatch hb), keeps, .of_eq noGen⟩
  refine codeAny_mono ((F _ inK' (ns nG)).go callerA [] sh G ⟨[.ref a], []⟩ [.ref a] [.ref a] _ _ room rfl env (bd sh (.ref a)) (.cons rfl .nil) hp) fun r s' out => ?_
  match r, out with
  | .error er, out => exact (noX G er s' out).elim
  | .ok .next, out => exact out.elim
  | .ok .brk, out => exact out.elim
  | .ok .cont, out => exact out.elim
  | .ok (.ret u), out =>
    obtain ⟨v, G', hos, hbare, un, keeps', rel, ev⟩ := out
    have ev' : v = .bl true := ev
    subst ev'
    obtain rfl : u = Value.bool true := rel
    refine ⟨rfl, OldK.of_keep fun b o q => ?_, hos, hbare⟩
    rcases only b with z | ⟨o2, ys, z⟩
    · exact un.keep b o q z (fun c => nomatch c) (fun c => nomatch c)
    · obtain ⟨w1, _⟩ := keeps b _ z
      obtain ⟨w2, _⟩ := keeps' b _ (un.frzs b o2 _ z)
      rw [q] at w1
      cases w1
      exact w2

theorem law_callG {Pg : Program} {wd : World} {Kf : PySem.W.Frag} {gl mb : Str → Option Value} {cx : CXT} {lv : Nat} {fa a : Addr} {dat : FuncData} {x : Str} {prom : Sp} {sh : Shared} {vals : List Value} {ns : List Int}
    (inK : Kf.In sh.heap) (nG : sh.heap.Ns mainGlobals gl) (nB : sh.heap.Ns builtinsNs mb) (isB : ∀ y : Str, y ≠ "__name__" → mb y = bootBuiltins y) (noL : sh.heap.NoLimit) (noGen : sh.gens = #[])
    (at_a : sh.heap.get? a = some { cls := .type "list", data := .seq vals.toArray }) (inz : IntsAre vals ns) (short : ns.length ≤ sizeLine) (room : Room lv callerA)
    (F : ∀ bs : Heap, Kf.In bs → bs.Ns mainGlobals gl → FnG Pg wd Kf gl bs cx lv fa dat [x] prom) (bd : ∀ (s : Shared) (u : Value), BindsTo s dat ⟨[u], []⟩ [(x, u)])
    (hp : ∀ G : Hp, Only G → SqL Kf G a (ns.map V.int) → prom [.ref a] G (fun v _ => v = .bl true) fun _ _ _ => False) (noX : ∀ G e s', cx [] G sh (fun _ _ _ => False) e s' → False) :
    codeAny (model Pg wd) callerA (.call (.ref fa) ⟨[.ref a], []⟩) (fun r s' => r = .ok (.ret (.bool true)) ∧ OldK sh.heap s'.heap ∧ s'.os = sh.os ∧ AllBare s'.gens) sh := by
  have rv := vals_ints inz
  rcases Option.eq_none_or_eq_some (Kf.lookup a) with nk | ⟨o, isK⟩
  · let G : Hp := fun b => if b = a then some (.frz { cls := .type "list", data := .seq vals.toArray } (.lst (ns.map V.int))) else none
    have ga : G a = some (.frz { cls := .type "list", data := .seq vals.toArray } (.lst (ns.map V.int))) := if_pos rfl
    have gb : ∀ {b : Addr}, b ≠ a → G b = none := fun ne => if_neg ne
    have justA : ∀ b, G b ≠ none → b = a := fun b z => Classical.byContradiction fun ne => z (gb ne)
    have only : Only G := fun b => by
      by_cases ne : b = a
      · subst ne
        exact .inr ⟨_, _, ga⟩
      · exact .inl (gb ne)
    refine from_caller inK nG nB isB noL noGen at_a rfl room F bd noX G only (fun b u z => ?_) justA (fun _ => nk) (hp G only (.inl (.inr ⟨_, ga⟩)))
    have ba := justA b (by rw [z]; exact fun c => nomatch c)
    subst ba
    rw [ga] at z
    cases z
    exact ⟨at_a, by rw [List.length_map]; exact short, vals, _, rv, at_a⟩
  · have e := inK a o isK
    rw [at_a] at e
    cases e
    exact from_caller inK nG nB isB noL noGen at_a rfl room F bd noX (fun _ => none) (fun _ => .inl rfl) (fun b u z => nomatch z) (fun b z => absurd rfl z) (fun z => absurd rfl z)
      (hp _ (fun _ => .inl rfl) (.inr ⟨_, vals.toArray, _, isK, rfl, rfl, rfl, by rw [List.size_toArray, inz.length]; exact short, by simpa using rv⟩))

/-- the end of a law row, for a law that asks where no guard stands; the script's bits told -/
theorem walk_ofG {l : PySem.W.OpenLaw} {n lv : Nat} {q : Program} {loose : List Str} {XP : (Str → Option Value) → Heap → Prop} {YP : World → Heap → Prop} {d : DefRec} {K : Params → PySem.W.Frag} {cx : World → CXT} {prom : World → Sp} {x : Str}
    (most : l.most = some n) (short : n ≤ sizeLine) (noD : d.params.defaults = []) (room : Room lv callerA) (hY : ∀ (w : World) (h : Heap), YP w h → (K w.params).In h)
    (F : ∀ (w : World) (gl : Str → Option Value) (fa : Addr) (h : Heap), (K w.params).In h → h.Ns mainGlobals gl → gl d.name = some (.ref fa) →
      ∃ dat : FuncData, (∀ (s : Shared) (u : Value), BindsTo s dat ⟨[u], []⟩ [(x, u)]) ∧ ∀ bs : Heap, (K w.params).In bs → bs.Ns mainGlobals gl → FnG l.prog w (K w.params) gl bs (cx w) lv fa dat [x] (prom w))
    (hp : ∀ (w : World) (G : Hp) (a : Addr) (ns : List Int), ns.length ≤ n → (∀ z ∈ ns, Builtin.Int.intBits z ≤ 1048576) → Only G → SqL (K w.params) G a (ns.map V.int) → prom w [.ref a] G (fun v _ => v = .bl true) fun _ _ _ => False)
    (noX : ∀ (w : World) (G : Hp) (s : Shared) (e : Value) (s' : Shared), cx w [] G s (fun _ _ _ => False) e s' → False) :
    PySem.W.WalkO q loose XP YP l.row.toRowW d [] (fun f vs => PySem.call f vs) := by
  refine Att.attach_callB most noD fun w _ sh gl mb fa _ _ _ _ a vals ns gr y _ _ _ named at_a inz few bits noGen => ?_
  obtain ⟨dat, bd, FG⟩ := F w gl fa _ (hY w _ y) gr.T.g named
  exact law_callG (hY w _ y) gr.T.g gr.T.b gr.T.builtins gr.T.nolimit noGen at_a inz (Nat.le_trans few short) room FG bd (fun G o s => hp w G a ns few bits o s) fun G e s' => noX w G sh e s'
end RepA

/-! itertools.combinations(list, 2), made and drawn. -/
namespace Comb
open PySem PySem.Spec
open Sem (wp)
abbrev cName : String := "itertools.combinations"
theorem cMro : mroOf (.type "itertools.combinations") = pure [.type "itertools.combinations", .type "object"] := by rw [mroOf_type]; kernel_rfl
theorem cNew : typeLookup (.type "itertools.combinations") "__new__" = pure (some (.builtin "itertools.combinations.__new__")) := by rw [typeLookup_type, builtinLookup_eq_fast]; kernel_rfl
theorem cInit : Slot "itertools.combinations" "__init__" "object.__init__" :=
  .of (owner := "object") (n := "__init__") (by rw [typeLookup_type, builtinLookup_eq_fast]; kernel_rfl) (by decide +kernel) (by decide +kernel) (by decide +kernel) (by first | exact .inl (by decide +kernel) | exact .inr (by decide +kernel)) (by rw [isSubtype_type]; kernel_rfl)
theorem cSub : isSubtype (.type "itertools.combinations") (.type "itertools.combinations") = pure true := by rw [isSubtype_type]; kernel_rfl
theorem cCalled : TypeCalled "itertools.combinations" "itertools.combinations.__new__" "object.__init__" :=
  ⟨by decide +kernel, by decide +kernel, ⟨_, _, cMro⟩, madeBy_type cMro cNew (by decide +kernel), by decide +kernel, cSub, cInit⟩
theorem cType2 (a b : Value) : checkTypeCall "itertools.combinations" ⟨[a, b], []⟩ = pure () := by kernel_rfl
theorem cNew2 (a b : Value) : checkBuiltinCall "itertools.combinations.__new__" ⟨[.type "itertools.combinations", a, b], []⟩ = pure () := by kernel_rfl
theorem cEntryNew : entryFor table "itertools.combinations.__new__" = some Builtin.«itertools.combinations.__new__» := entryFor_of_tree (by kernel_rfl)
theorem cEntryNext : entryFor table "itertools.combinations.__next__" = some Builtin.«itertools.combinations.__next__» := entryFor_of_tree (by kernel_rfl)
theorem cEntryIter : entryFor table "itertools.combinations.__iter__" = some Builtin.«dict_keyiterator.__iter__» :=
  entryFor_alias (id' := "dict_keyiterator.__iter__") (by kernel_rfl) (by first | rfl | decide +kernel | (unfold String.splitOn; simp +decide [String.splitOnAux])) (by decide +kernel) (by kernel_rfl)
theorem cIter : Slot "itertools.combinations" "__iter__" "itertools.combinations.__iter__" :=
  .of (owner := "itertools.combinations") (n := "__iter__") (by rw [typeLookup_type, builtinLookup_eq_fast]; kernel_rfl) (by decide +kernel) (by decide +kernel) (by decide +kernel) (by first | exact .inl (by decide +kernel) | exact .inr (by decide +kernel)) cSub
theorem cNext : Slot "itertools.combinations" "__next__" "itertools.combinations.__next__" :=
  .of (owner := "itertools.combinations") (n := "__next__") (by rw [typeLookup_type, builtinLookup_eq_fast]; kernel_rfl) (by decide +kernel) (by decide +kernel) (by decide +kernel) (by first | exact .inl (by decide +kernel) | exact .inr (by decide +kernel)) cSub
theorem cOwner : Manifest.owners.lookup (String.ofList "snoitanibmoc.slootreti".toList.reverse) = some Manifest.sig_itertools_combinations := by kernel_rfl
theorem cArgsIter (a : Value) : argsOk "itertools.combinations.__iter__" ⟨[a], []⟩ := by
  unfold argsOk
  rw [signature?_of (id := "itertools.combinations.__iter__") (n := ['_', '_', 'r', 'e', 't', 'i', '_', '_']) (o := "snoitanibmoc.slootreti".toList) (by kernel_rfl) cOwner]
  kernel_rfl
theorem cArgsNext (a : Value) : argsOk "itertools.combinations.__next__" ⟨[a], []⟩ := by
  unfold argsOk
  rw [signature?_of (id := "itertools.combinations.__next__") (n := ['_', '_', 't', 'x', 'e', 'n', '_', '_']) (o := "snoitanibmoc.slootreti".toList) (by kernel_rfl) cOwner]
  kernel_rfl
theorem cNoDict : typeHasDict (.type "itertools.combinations") = false := by decide +kernel

/-- such an object: its pool, its state, what it handed out last, its places -/
def recC (pool : Addr) (st : Int) (last : Value) (i j : Int) : Obj := { cls := .type "itertools.combinations", dict := none, data := .fields #[.ref pool, rawInt st, last, rawInt i, rawInt j], slots := #[] }
abbrev IsC (h : Heap) (it pool : Addr) (st : Int) (last : Value) (i j : Int) : Prop := h.get? it = some (recC pool st last i j)
def tupO (xs : Array Value) : Obj := { cls := .type "tuple", data := .seq xs }

end Comb

namespace Comb
open PySem PySem.Spec
open Sem (wp)
theorem joinName : "itertools." ++ "combinations" = "itertools.combinations" := by decide
theorem new_meets (l : Addr) (o : Obj) (items : Array Value) (n : Nat) (t : Tok) (hc : o.cls = .type "list") (hd : o.data = .seq items n) (hsz : items.size ≤ sizeLine) :
    Meets (Builtin.«itertools.combinations.__new__» ⟨[.type "itertools.combinations", .ref l, .int 2 t], []⟩)
      (fun _ R s => s.heap.get? l = some o ∧ ∀ h' : Heap, (∀ b u, s.heap.get? b = some u → h'.get? b = some u) → R (.ok (.ret (.ref (h'.objs.size + 1)))) { s with heap := (h'.push (tupO items)).push (recC h'.objs.size (if 2 > items.size then 2 else 0) .none 0 1) }) :=
  .of_wp fun prog w A R s h => by
    obtain ⟨hp, g, dd, tk, os⟩ := s
    obtain ⟨at_l, h⟩ := h
    have hsub := cSub
    have hdic := cNoDict
    have hT : Shared.TypeIs ⟨hp, g, dd, tk, os⟩ (.ref l) "list" := ⟨o, at_l, hc⟩
    unfold Builtin.«itertools.combinations.__new__»
    repeat (first
      | (with_reducible refine wpAny_collect_seq (hsz := hsz) l (.inl rfl) at_l hc hd fun h' keep => ?_)
      | wp_step
      | (rw [joinName]))
    refine ⟨_, rfl, ?_⟩
    have e1 : items.toList.toArray = items := by simp
    have e2 : (h'.push (tupO items)).objs.size = h'.objs.size + 1 := Heap.size_push ..
    have e3 : items.toList.length = items.size := by simp
    rw [e1, e3]
    have q := h h' keep
    rw [← e2] at q
    exact q

end Comb

namespace Comb
open PySem PySem.Spec
open Sem (wp)
section
variable {prog : Program} {w : World} {A : Around} {E : Value → Shared → Prop} {s : Shared}
/-- combinations(l, 2): the heap grows by what is kept, then by the pool and the record -/
theorem call_comb {l : Addr} {o : Obj} {items : Array Value} {n : Nat} {t : Tok} {Q : Value → Shared → Prop} (at_l : s.heap.get? l = some o) (hc : o.cls = .type "list") (hd : o.data = .seq items n) (hsz : items.size ≤ sizeLine)
    (h : ∀ h1 : Heap, (∀ b u, s.heap.get? b = some u → h1.get? b = some u) → Q (.ref (h1.objs.size + 1)) { s with heap := (h1.push (tupO items)).push (recC h1.objs.size (if 2 > items.size then 2 else 0) .none 0 1) }) :
    wpAny (model prog w) A (call (.type "itertools.combinations") [.ref l, .int 2 t]) Q E s := by
  refine callType_new cCalled (by decide +kernel) (cType2 _ _) (cNew2 _ _) (fun obj => F.args_object_init_3 obj _ _) cEntryNew (new_meets l o items n t hc hd hsz) ?_
  refine ⟨at_l, fun h1 keep => ⟨⟨recC h1.objs.size (if 2 > items.size then 2 else 0) .none 0 1, ?_, rfl⟩, h h1 keep⟩⟩
  have sz : (h1.push (tupO items)).objs.size = h1.objs.size + 1 := Heap.size_push ..
  show Heap.get? _ (h1.objs.size + 1) = some (recC h1.objs.size (if 2 > items.size then 2 else 0) .none 0 1)
  rw [← sz]
  exact Heap.get?_push_size _ rfl
theorem iter_comb {it pool : Addr} {st i j : Int} {last : Value} {Q : Value → Shared → Prop} (hit : IsC s.heap it pool st last i j) (h : Q (.ref it) s) : wpAny (model prog w) A (pyIter (.ref it)) Q E s := by
  have hT : s.TypeIs (.ref it) "itertools.combinations" := ⟨_, hit, rfl⟩
  refine wpAny_pyIter_slot hT cIter (wpAny_call_entry cIter hT cEntryIter ?_ (cArgsIter _))
  show wpAny _ _ (ret (.ref it)) _ _ s
  exact wpAny_pure ⟨_, rfl, "itertools.combinations", _, hT, cNext.lookup, h⟩

theorem apart {h : Heap} {it pool : Addr} {st i j : Int} {last : Value} {items : Array Value} (hit : IsC h it pool st last i j) (hp : h.get? pool = some (tupO items)) : it ≠ pool := fun e => by
  rw [e] at hit
  have z : Value.type "tuple" = Value.type "itertools.combinations" := congrArg Obj.cls (Option.some.inj (hp.symm.trans hit))
  exact absurd (Value.type.inj z) (by decide)
/-- what is handed out is laid, then held by the record -/
theorem handed {h U : Heap} {it pool : Addr} {last : Value} {i j : Int} {xs : Array Value} (hU : IsC U it pool 1 last i j) (keep : ∀ b, b ≠ it → U.get? b = h.get? b) (sz : U.objs.size = h.objs.size) :
    (∀ b, b ≠ it → ∀ u, h.get? b = some u → ((U.push (tupO xs)).update it (Obj.mapFields fun x => x.setIfInBounds 2 (.ref U.objs.size))).get? b = some u) ∧
    ((U.push (tupO xs)).update it (Obj.mapFields fun x => x.setIfInBounds 2 (.ref U.objs.size))).get? h.objs.size = some (tupO xs) ∧
    IsC ((U.push (tupO xs)).update it (Obj.mapFields fun x => x.setIfInBounds 2 (.ref U.objs.size))) it pool 1 (.ref h.objs.size) i j := by
  have lt : it < U.objs.size := Heap.lt_size hU
  refine ⟨fun b ne u q => ?_, ?_, ?_⟩
  · exact (Heap.get?_update_other _ _ ne.symm).trans (Heap.get?_push_of_some _ ((keep b ne).trans q))
  · rw [← sz]
    exact (Heap.get?_update_other _ _ (Nat.ne_of_lt lt)).trans (Heap.get?_push_size _ rfl)
  · rw [← sz]
    exact Heap.get?_update_self _ (Heap.get?_push_of_some _ hU) rfl
theorem next_first {it pool : Addr} {last : Value} {items : Array Value} {n : Nat} {Q : Option Value → Shared → Prop} (hit : IsC s.heap it pool 0 last 0 1) (hp : s.heap.get? pool = some (tupO items)) (h2 : 2 ≤ items.size)
    (hQ : ∀ h', (∀ b, b ≠ it → ∀ u, s.heap.get? b = some u → h'.get? b = some u) → h'.get? s.heap.objs.size = some (tupO #[items.getD 0 .none, items.getD 1 .none]) → IsC h' it pool 1 (.ref s.heap.objs.size) 0 1 → Q (some (.ref s.heap.objs.size)) { s with heap := h' }) :
    wpAny (model prog w) A (pyNext (.ref it)) Q E s := by
  have hT : s.TypeIs (.ref it) "itertools.combinations" := ⟨_, hit, rfl⟩
  unfold pyNext
  refine wpAny_bind (wpAny_attempt (wpAny_callSpecial?_slot (name := Str.ofString "__next__") hT cNext (wpAny_call_entry cNext hT cEntryNext ?_ (cArgsNext _))))
  unfold Builtin.«itertools.combinations.__next__»
  have nip := apart hit hp
  have hp1 : (s.heap.update it (Obj.mapFields fun x => x.setIfInBounds 1 (rawInt 1))).get? pool = some (tupO items) := (Heap.get?_update_other _ _ nip).trans hp
  have hit1 : IsC (s.heap.update it (Obj.mapFields fun x => x.setIfInBounds 1 (rawInt 1))) it pool 1 last 0 1 := Heap.get?_update_self _ hit rfl
  repeat wp_step
  obtain ⟨q1, q2, q3⟩ := handed (xs := #[items.getD 0 .none, items.getD 1 .none]) hit1 (h := s.heap) (fun b ne => Heap.get?_update_other _ _ ne.symm) (Heap.size_update ..)
  refine ⟨_, rfl, wpAny_pure ?_⟩
  have z := hQ _ q1 q2 q3
  rw [show (s.heap.update it (Obj.mapFields fun x => x.setIfInBounds 1 (rawInt 1))).objs.size = s.heap.objs.size from Heap.size_update ..] at z ⊢
  exact z
end
end Comb

namespace Comb
open PySem PySem.Spec
open Sem (wp)
section
variable {prog : Program} {w : World} {A : Around} {E : Value → Shared → Prop} {s : Shared}
theorem next_more {it pool : Addr} {last : Value} {items : Array Value} {i j i' j' : Nat} {Q : Option Value → Shared → Prop} (hit : IsC s.heap it pool 1 last i j) (hp : s.heap.get? pool = some (tupO items))
    (hn : (match (List.range 2).reverse.find? fun k => [i, j].getD k 0 != k + items.size - 2 with | none => none | some k => some ([i, j].take k ++ (List.range (2 - k)).map ([i, j].getD k 0 + 1 + ·))) = some [i', j'])
    (hQ : ∀ h', (∀ b, b ≠ it → ∀ u, s.heap.get? b = some u → h'.get? b = some u) → h'.get? s.heap.objs.size = some (tupO #[items.getD i' .none, items.getD j' .none]) → IsC h' it pool 1 (.ref s.heap.objs.size) i' j' → Q (some (.ref s.heap.objs.size)) { s with heap := h' }) :
    wpAny (model prog w) A (pyNext (.ref it)) Q E s := by
  have hT : s.TypeIs (.ref it) "itertools.combinations" := ⟨_, hit, rfl⟩
  unfold pyNext
  refine wpAny_bind (wpAny_attempt (wpAny_callSpecial?_slot (name := Str.ofString "__next__") hT cNext (wpAny_call_entry cNext hT cEntryNext ?_ (cArgsNext _))))
  unfold Builtin.«itertools.combinations.__next__»
  repeat wp_step
  split
  · rename_i next hnx
    obtain rfl : next = [i', j'] := Option.some.inj (hnx.symm.trans hn)
    have nip := apart hit hp
    have hp1 : (s.heap.update it (Obj.mapFields fun x => x.extract 0 3 ++ (List.map (fun (n : Nat) => rawInt n) [i', j']).toArray)).get? pool = some (tupO items) := (Heap.get?_update_other _ _ nip).trans hp
    have hit1 : IsC (s.heap.update it (Obj.mapFields fun x => x.extract 0 3 ++ (List.map (fun (n : Nat) => rawInt n) [i', j']).toArray)) it pool 1 last i' j' := Heap.get?_update_self _ hit rfl
    repeat wp_step
    obtain ⟨q1, q2, q3⟩ := handed (xs := #[items.getD i' .none, items.getD j' .none]) hit1 (h := s.heap) (fun b ne => Heap.get?_update_other _ _ ne.symm) (Heap.size_update ..)
    refine ⟨_, rfl, wpAny_pure ?_⟩
    have z := hQ _ q1 q2 q3
    rw [show (s.heap.update it (Obj.mapFields fun x => x.extract 0 3 ++ (List.map (fun (n : Nat) => rawInt n) [i', j']).toArray)).objs.size = s.heap.objs.size from Heap.size_update ..] at z ⊢
    exact z
  · rename_i hnx
    cases hnx.symm.trans hn
theorem next_end {it pool : Addr} {last : Value} {items : Array Value} {i j : Nat} {Q : Option Value → Shared → Prop} (hh : A.handled = none) (hit : IsC s.heap it pool 1 last i j) (hp : s.heap.get? pool = some (tupO items))
    (hn : (match (List.range 2).reverse.find? fun k => [i, j].getD k 0 != k + items.size - 2 with | none => none | some k => some ([i, j].take k ++ (List.range (2 - k)).map ([i, j].getD k 0 + 1 + ·))) = none)
    (hQ : ∀ h', Heap.ExtBut it s.heap h' → Q none { s with heap := h' }) : wpAny (model prog w) A (pyNext (.ref it)) Q E s := by
  have hT : s.TypeIs (.ref it) "itertools.combinations" := ⟨_, hit, rfl⟩
  unfold pyNext
  refine wpAny_bind (wpAny_attempt (wpAny_callSpecial?_slot (name := Str.ofString "__next__") hT cNext (wpAny_call_entry cNext hT cEntryNext ?_ (cArgsNext _))))
  unfold Builtin.«itertools.combinations.__next__»
  repeat wp_step
  split
  · rename_i next hnx
    cases hn.symm.trans hnx
  · repeat wp_step
    simp only [raiseNew]; refine wpAny_bind (wpAny_handled ?_); rw [show A.in1.handled = none from hh]
    refine wpAny_bind (wpAny_pure (wpAny_throw ?_)); refine wpAny_bind (wpAny_isInstance (T := "StopIteration") (b := true) ⟨_, Heap.get?_push_size _ rfl, rfl⟩ isSubtype_stop ?_)
    exact wpAny_pure (hQ _ (fun b u ne q => Heap.get?_push_of_some _ (Heap.get?_push_of_some _ ((Heap.get?_update_other _ _ (Ne.symm ne)).trans q))))
theorem next_none {it pool : Addr} {last : Value} {items : Array Value} {i j : Nat} {Q : Option Value → Shared → Prop} (hh : A.handled = none) (hit : IsC s.heap it pool 2 last i j) (hp : s.heap.get? pool = some (tupO items))
    (hQ : ∀ h', Heap.ExtBut it s.heap h' → Q none { s with heap := h' }) : wpAny (model prog w) A (pyNext (.ref it)) Q E s := by
  have hT : s.TypeIs (.ref it) "itertools.combinations" := ⟨_, hit, rfl⟩
  unfold pyNext
  refine wpAny_bind (wpAny_attempt (wpAny_callSpecial?_slot (name := Str.ofString "__next__") hT cNext (wpAny_call_entry cNext hT cEntryNext ?_ (cArgsNext _))))
  unfold Builtin.«itertools.combinations.__next__»
  repeat wp_step
  simp only [raiseNew]; refine wpAny_bind (wpAny_handled ?_); rw [show A.in1.handled = none from hh]
  refine wpAny_bind (wpAny_pure (wpAny_throw ?_)); refine wpAny_bind (wpAny_isInstance (T := "StopIteration") (b := true) ⟨_, Heap.get?_push_size _ rfl, rfl⟩ isSubtype_stop ?_)
  exact wpAny_pure (hQ _ (((Heap.ExtBut.refl it s.heap).push _).push _))
end
end Comb

namespace Comb
open PySem PySem.Spec PyProof.Rows L2
/-! ### the pairs of places, in their sequence -/
def rows : Nat → Nat → List (Nat × Nat)
  | 0, _ => []
  | k + 1, i => (List.range (k + 1)).map (fun d => (i, i + 1 + d)) ++ rows k (i + 1)
def prs (n : Nat) : List (Nat × Nat) := rows (n - 1) 0
def nx (n i j : Nat) : Option (Nat × Nat) := if j + 1 < n then some (i, j + 1) else if i + 2 < n then some (i + 1, i + 2) else none
theorem rows_zero (k i : Nat) : (rows (k + 1) i)[0]? = some (i, i + 1) := by
  unfold rows
  rw [List.getElem?_append_left (by rw [List.length_map, List.length_range]; omega), List.getElem?_map, List.getElem?_range (Nat.succ_pos k)]
  rfl
theorem rows_step : ∀ (k i t a b : Nat), (rows k i)[t]? = some (a, b) → a < b ∧ b < i + 1 + k ∧ (rows k i)[t + 1]? = nx (i + 1 + k) a b
  | 0, _, _, _, _, h => by
    unfold rows at h
    rw [List.getElem?_nil] at h
    cases h
  | k + 1, i, t, a, b, h => by
    unfold rows at h ⊢
    have len : ((List.range (k + 1)).map (fun d => (i, i + 1 + d))).length = k + 1 := by rw [List.length_map, List.length_range]
    rcases Nat.lt_or_ge t (k + 1) with lt | ge
    · rw [List.getElem?_append_left (by omega), List.getElem?_map, List.getElem?_range lt] at h
      have h' : (i, i + 1 + t) = (a, b) := Option.some.inj h
      obtain ⟨rfl, rfl⟩ := Prod.mk.inj h'
      refine ⟨by omega, by omega, ?_⟩
      rcases Nat.lt_or_ge (t + 1) (k + 1) with l2 | g2
      · rw [List.getElem?_append_left (by omega), List.getElem?_map, List.getElem?_range l2]
        unfold nx
        rw [if_pos (by omega)]
        rfl
      · have et : t = k := by omega
        subst et
        rw [List.getElem?_append_right (by omega), len, Nat.sub_self]
        unfold nx
        rw [if_neg (by omega)]
        cases t with
        | zero =>
          rw [if_neg (by omega)]
          rfl
        | succ m =>
          rw [if_pos (by omega)]
          exact rows_zero m (i + 1)
    · rw [List.getElem?_append_right (by omega), len] at h
      obtain ⟨h1, h2, h3⟩ := rows_step k (i + 1) (t - (k + 1)) a b h
      refine ⟨h1, by omega, ?_⟩
      rw [List.getElem?_append_right (by omega), len, show t + 1 - (k + 1) = t - (k + 1) + 1 by omega, h3]
      congr 1
      omega
theorem prs_step {n t a b : Nat} (h : (prs n)[t]? = some (a, b)) : a < b ∧ b < n ∧ (prs n)[t + 1]? = nx n a b := by
  obtain ⟨h1, h2, h3⟩ := rows_step (n - 1) 0 t a b h
  have hn : 0 + 1 + (n - 1) = n := by omega
  rw [hn] at h2 h3
  exact ⟨h1, h2, h3⟩
theorem rows_mem : ∀ (k i a b : Nat), (a, b) ∈ rows k i ↔ i ≤ a ∧ a < b ∧ b < i + 1 + k
  | 0, i, a, b => by
    unfold rows
    constructor
    · intro h
      cases h
    · rintro ⟨h1, h2, h3⟩
      omega
  | k + 1, i, a, b => by
    unfold rows
    rw [List.mem_append, rows_mem k (i + 1) a b, List.mem_map]
    constructor
    · rintro (⟨d, hd, e⟩ | h)
      · have := List.mem_range.mp hd
        obtain ⟨rfl, rfl⟩ := Prod.mk.inj e
        omega
      · omega
    · rintro ⟨h1, h2, h3⟩
      rcases Nat.eq_or_lt_of_le h1 with e | l
      · exact .inl ⟨b - (i + 1), List.mem_range.mpr (by omega), by rw [← e]; congr 1; omega⟩
      · exact .inr ⟨l, h2, by omega⟩
theorem prs_mem {n a b : Nat} : (a, b) ∈ prs n ↔ a < b ∧ b < n := by
  unfold prs
  rw [rows_mem]
  omega
theorem rows_len : ∀ k i, (rows k i).length ≤ k * k
  | 0, i => Nat.zero_le _
  | k + 1, i => by
    unfold rows
    rw [List.length_append, List.length_map, List.length_range]
    have := rows_len k (i + 1)
    have e : (k + 1) * (k + 1) = k * k + k + (k + 1) := by rw [Nat.succ_mul, Nat.mul_succ]
    omega
theorem prs_none {n : Nat} (h : n < 2) : prs n = [] := by
  unfold prs
  rw [show n - 1 = 0 by omega]
  rfl
theorem prs_zero {n : Nat} (h : 2 ≤ n) : (prs n)[0]? = some (0, 1) := by
  unfold prs
  obtain ⟨m, rfl⟩ : ∃ m, n = m + 2 := ⟨n - 2, by omega⟩
  exact rows_zero m 0
/-- the model's own step is this one -/
theorem nx_some {n i j a b : Nat} (hi : i < j) (hj : j < n) (h : nx n i j = some (a, b)) :
    (match (List.range 2).reverse.find? fun k => [i, j].getD k 0 != k + n - 2 with | none => none | some k => some ([i, j].take k ++ (List.range (2 - k)).map ([i, j].getD k 0 + 1 + ·))) = some [a, b] := by
  have e : (List.range 2).reverse = [1, 0] := rfl
  rw [e]
  unfold nx at h
  by_cases h1 : j + 1 < n
  · rw [if_pos h1] at h
    cases h
    have z : ([i, j].getD 1 0 != 1 + n - 2) = true := by
      show (j != 1 + n - 2) = true
      rw [bne_iff_ne]
      omega
    rw [List.find?_cons_of_pos (p := fun k => [i, j].getD k 0 != k + n - 2) (a := 1) z]
    rfl
  · rw [if_neg h1] at h
    have z : ¬ ([i, j].getD 1 0 != 1 + n - 2) = true := by
      show ¬ (j != 1 + n - 2) = true
      rw [bne_iff_ne]
      omega
    by_cases h2 : i + 2 < n
    · rw [if_pos h2] at h
      cases h
      have z2 : ([i, j].getD 0 0 != 0 + n - 2) = true := by
        show (i != 0 + n - 2) = true
        rw [bne_iff_ne]
        omega
      rw [List.find?_cons_of_neg (p := fun k => [i, j].getD k 0 != k + n - 2) (a := 1) z, List.find?_cons_of_pos (p := fun k => [i, j].getD k 0 != k + n - 2) (a := 0) z2]
      rfl
    · rw [if_neg h2] at h
      cases h
theorem nx_none {n i j : Nat} (hi : i < j) (hj : j < n) (h : nx n i j = none) :
    (match (List.range 2).reverse.find? fun k => [i, j].getD k 0 != k + n - 2 with | none => none | some k => some ([i, j].take k ++ (List.range (2 - k)).map ([i, j].getD k 0 + 1 + ·))) = none := by
  have e : (List.range 2).reverse = [1, 0] := rfl
  rw [e]
  unfold nx at h
  by_cases h1 : j + 1 < n
  · rw [if_pos h1] at h
    cases h
  · rw [if_neg h1] at h
    by_cases h2 : i + 2 < n
    · rw [if_pos h2] at h
      cases h
    · have z : ¬ ([i, j].getD 1 0 != 1 + n - 2) = true := by
        show ¬ (j != 1 + n - 2) = true
        rw [bne_iff_ne]
        omega
      have z2 : ¬ ([i, j].getD 0 0 != 0 + n - 2) = true := by
        show ¬ (i != 0 + n - 2) = true
        rw [bne_iff_ne]
        omega
      rw [List.find?_cons_of_neg (p := fun k => [i, j].getD k 0 != k + n - 2) (a := 1) z, List.find?_cons_of_neg (p := fun k => [i, j].getD k 0 != k + n - 2) (a := 0) z2]
      rfl
end Comb

namespace Comb
open PySem PySem.Spec PyProof.Rows L2
/-- the pairs of these values, as new tuples -/
def Itcb (xs : List V) : It :=
  ⟨fun t _ => t < (prs xs.length).length,
    fun t H v H' => ∃ T i j x y, v = .ref T ∧ H T = none ∧ H' = upd H T (.tup [x, y]) ∧ (prs xs.length)[t]? = some (i, j) ∧ xs[i]? = some x ∧ xs[j]? = some y,
    fun t _ => (prs xs.length).length ≤ t⟩
def Stt (it pool : Addr) (items : Array Value) (t : Nat) (h : Heap) : Prop :=
  h.get? pool = some (tupO items) ∧ ((t = 0 ∧ IsC h it pool (if 2 > items.size then 2 else 0) .none 0 1) ∨ ∃ (u i j : Nat) (last : Value), t = u + 1 ∧ (prs items.size)[u]? = some (i, j) ∧ IsC h it pool 1 last i j)
theorem turn_comb {P : Program} {w : World} {K : PySem.W.Frag} {tg : Expr} {xs : List V} {its : List Value} (rv : Vals xs its) (it pool : Addr) (lt : pool < it) : Turn P w K tg (Itcb xs) [it, pool] it (Stt it pool its.toArray) where
  mem := by simp
  obj := fun t h st b hb => by
    obtain ⟨hp, st⟩ := st
    have e : b = it ∨ b = pool := by simpa using hb
    rcases e with e | e
    · rw [e]
      rcases st with ⟨_, c⟩ | ⟨_, _, _, _, _, _, c⟩ <;> exact ⟨_, c, fun v q => nomatch q⟩
    · rw [e]
      exact ⟨_, hp, fun v q => nomatch q⟩
  keep := fun t h h' st k => by
    obtain ⟨hp, st⟩ := st
    refine ⟨k pool (by simp) _ hp, ?_⟩
    rcases st with ⟨e, c⟩ | ⟨u, i, j, last, e, hu, c⟩
    · exact .inl ⟨e, k it (by simp) _ c⟩
    · exact .inr ⟨u, i, j, last, e, hu, k it (by simp) _ c⟩
  item := by
    intro X hP hw hK hc t pins s σ H E I hf st hg
    subst hP hw hK
    obtain ⟨hp, st⟩ := st
    have len := rv.length
    have sz : its.toArray.size = xs.length := by rw [List.size_toArray, len]
    -- what comes of the pair (i, j)
    have out : ∀ (i j : Nat) (h' : Heap), (prs xs.length)[t]? = some (i, j) → (∀ b, b ≠ it → ∀ u, s.heap.get? b = some u → h'.get? b = some u) → h'.get? s.heap.objs.size = some (tupO #[its.toArray.getD i .none, its.toArray.getD j .none]) →
        IsC h' it pool 1 (.ref s.heap.objs.size) i j → ∃ u, some (Value.ref s.heap.objs.size) = some u ∧
        wpAny (model X.prog X.w) X.A (letOwnedTupleGo tg (.ref it) u) (fun _ s2 => ∃ x H', Inv X pins σ H' s2 ∧ RelV x u ∧ (Itcb xs).yld t H x H' ∧ Stt it pool its.toArray (t + 1) s2.heap ∧ ∀ b ∈ [it, pool], H' b = none) E { s with heap := h' } := by
      intro i j h' ht keep new rec
      obtain ⟨l1, l2, _⟩ := prs_step ht
      have hx : xs[i]? = some xs[i] := List.getElem?_eq_getElem (by omega)
      have hy : xs[j]? = some xs[j] := List.getElem?_eq_getElem (by omega)
      obtain ⟨u1, hu1, r1⟩ := rv.get hx
      obtain ⟨u2, hu2, r2⟩ := rv.get hy
      have g1 : its.toArray.getD i .none = u1 := by
        rw [Array.getD_eq_getD_getElem?, List.getElem?_toArray, hu1]
        rfl
      have g2 : its.toArray.getD j .none = u2 := by
        rw [Array.getD_eq_getD_getElem?, List.getElem?_toArray, hu2]
        rfl
      rw [g1, g2] at new
      have obj : ObjOk X.prog X.w (upd H s.heap.objs.size (.tup [xs[i], xs[j]])) h' s.heap.objs.size (.tup [xs[i], xs[j]]) :=
        ⟨by show 2 ≤ sizeLine; decide, [u1, u2], .cons r1 (.cons r2 .nil), ⟨_, new, rfl, _, rfl⟩⟩
      have I1 : Inv X pins σ (upd H s.heap.objs.size (.tup [xs[i], xs[j]])) { s with heap := h' } :=
        I.turnedNew (t' := s.toks) (ch := [it, pool]) (fun c o hb q => keep c (fun z => hb (by simp [z])) o q) hf (Nat.le_refl _) obj
      refine ⟨_, rfl, go_of (s := { s with heap := h' }) rec rfl rfl (by decide) ⟨.ref s.heap.objs.size, _, I1, rfl, ⟨_, i, j, _, _, rfl, I.hok.fresh (Nat.le_refl _), rfl, ht, hx, hy⟩, ⟨keep pool (Nat.ne_of_lt lt) _ hp, .inr ⟨t, i, j, _, rfl, by rw [sz]; exact ht, rec⟩⟩, fun c hcm => ?_⟩⟩
      have small : c < s.heap.objs.size := by
        have e : c = it ∨ c = pool := by simpa using hcm
        have hit : it < s.heap.objs.size := by
          rcases st with ⟨_, c⟩ | ⟨_, _, _, _, _, _, c⟩ <;> exact Heap.lt_size c
        rcases e with e | e
        · rw [e]; exact hit
        · rw [e]; exact Nat.lt_trans lt hit
      rw [upd_ne (Nat.ne_of_lt small)]
      exact (hf c hcm).1
    have hg' : t < (prs xs.length).length := hg
    obtain ⟨⟨i, j⟩, hij⟩ : ∃ q, (prs xs.length)[t]? = some q := ⟨_, List.getElem?_eq_getElem hg'⟩
    rcases st with ⟨e, c⟩ | ⟨u, i0, j0, last, e, hu, c⟩
    · subst e
      have h2 : 2 ≤ xs.length := by
        rcases Nat.lt_or_ge xs.length 2 with z | z
        · rw [prs_none z] at hg'
          cases hg'
        · exact z
      rw [prs_zero h2] at hij
      cases hij
      rw [sz, if_neg (by omega)] at c
      exact next_first (n := 0) c hp (by rw [sz]; exact h2) fun h' k new rec => out 0 1 h' (prs_zero h2) k new rec
    · subst e
      rw [sz] at hu
      obtain ⟨l1, l2, l3⟩ := prs_step hu
      refine next_more c hp (nx_some l1 (by rw [sz]; exact l2) (by rw [sz, ← l3]; exact hij)) fun h' k new rec => out i j h' hij k new rec
  done := by
    intro X hP hw hK hc t pins s σ H E I hf st hg
    subst hP hw hK
    obtain ⟨hp, st⟩ := st
    have len := rv.length
    have sz : its.toArray.size = xs.length := by rw [List.size_toArray, len]
    have hg' : (prs xs.length).length ≤ t := hg
    obtain ⟨f0, f1, f2, f3, f4, f5⟩ := hf it (by simp)
    have fin : ∀ h', Heap.ExtBut it s.heap h' → (none : Option Value) = none ∧ Inv X pins σ H { s with heap := h' } := fun h' eb => ⟨rfl, I.turned (t' := s.toks) (fun b o hb e => eb b o hb e) f0 f1 f3 f4 f5⟩
    rcases st with ⟨e, c⟩ | ⟨u, i0, j0, last, e, hu, c⟩
    · subst e
      have h2 : xs.length < 2 := by
        rcases Nat.lt_or_ge xs.length 2 with z | z
        · exact z
        · have := prs_zero z
          rw [List.getElem?_eq_none hg'] at this
          cases this
      rw [sz, if_pos (by omega)] at c
      exact next_none (i := 0) (j := 1) (I.ok.hd hc) c hp fin
    · subst e
      rw [sz] at hu
      obtain ⟨l1, l2, l3⟩ := prs_step hu
      rw [List.getElem?_eq_none hg'] at l3
      exact next_end (I.ok.hd hc) c hp (nx_none l1 (by rw [sz]; exact l2) (by rw [sz]; exact l3.symm)) fin
  self := fun A t s Q E st h => by
    obtain ⟨hp, st⟩ := st
    rcases st with ⟨_, c⟩ | ⟨_, _, _, _, _, _, c⟩ <;> exact iter_comb c h

section
variable {X : Cx} {tg : Expr}
def iComb (K : PySem.W.Frag) (ta : TA) : TI := fun σ H R => ta σ H fun vs H1 => ∃ a xs, vs = [.ref a, .int 2] ∧ SqL K H1 a xs ∧ R (Itcb xs) H1
theorem pi_comb {x : Str} {e e2 : Expr} {ta : TA} {p pos : Pos} (hg : Gl X x) (hm : X.mg x = some (.type "itertools.combinations")) (ha : PA X [e, e2] ta) (hdb : (x == ("__debug__" : Str)) = false := by decide)
    (hs : starEach [e, e2] X.env = (false, eval e X.env) :: starEach [e2] X.env := by rfl) (hpl : (backTo pos (starEach [e2] X.env)).any (·.1) = false := by rfl) :
    PI X tg (.Call (.Name x p) [e, e2] [] pos) (iComb X.K ta) := by
  refine ⟨fun pins s σ H R I h => ?_⟩
  refine wpAny_Call_Name_kw (ld_glob I hg hm ?_ hdb)
  refine PyProof.Rows.callWith_type1 (thn (ha.run pos pins s σ H _ I h) fun us s1 ⟨vs, H1, I1, r1, q1⟩ => ?_) hs hpl
  obtain ⟨a, xs, rfl, hq, q⟩ := q1
  obtain ⟨u1, u2, rfl, e1, ⟨t, rfl⟩⟩ := vals2 r1
  obtain rfl : u1 = Value.ref a := e1
  obtain ⟨its, rv, ⟨o, n, ho, hcl, hne, hda⟩, hz⟩ := I1.list hq
  have len := rv.length
  refine call_comb ho hcl hda (by rw [List.size_toArray, ← len]; exact hz) fun h1 keep => ?_
  have J0 : Inv X pins σ H1 { s1 with heap := h1 } := I1.kept (t' := s1.toks) keep
  have sz1 : (h1.push (tupO its.toArray)).objs.size = h1.objs.size + 1 := Heap.size_push ..
  have g1 : ((h1.push (tupO its.toArray)).push (recC h1.objs.size (if 2 > its.toArray.size then 2 else 0) .none 0 1)).get? h1.objs.size = some (tupO its.toArray) := Heap.get?_push_of_some _ (Heap.get?_push_size _ rfl)
  have g2 : ((h1.push (tupO its.toArray)).push (recC h1.objs.size (if 2 > its.toArray.size then 2 else 0) .none 0 1)).get? (h1.objs.size + 1) = some (recC h1.objs.size (if 2 > its.toArray.size then 2 else 0) .none 0 1) := by
    rw [← sz1]
    exact Heap.get?_push_size _ rfl
  refine iter_comb (s := { s1 with heap := _ }) g2 ?_
  have J1 : Inv X pins σ H1 { s1 with heap := (h1.push (tupO its.toArray)).push (recC h1.objs.size (if 2 > its.toArray.size then 2 else 0) .none 0 1) } :=
    I1.kept (t' := s1.toks) fun b o z => Heap.get?_push_of_some _ (Heap.get?_push_of_some _ (keep b o z))
  refine ⟨h1.objs.size + 1, [h1.objs.size + 1, h1.objs.size], _, _, H1, rfl, J1, turn_comb rv (h1.objs.size + 1) h1.objs.size (Nat.lt_succ_self _), ⟨g1, .inl ⟨rfl, g2⟩⟩, fun b hb => ?_, q⟩
  have low : h1.objs.size ≤ b := by
    have e : b = h1.objs.size + 1 ∨ b = h1.objs.size := by simpa using hb
    rcases e with e | e
    · rw [e]; exact Nat.le_succ _
    · rw [e]; exact Nat.le_refl _
  exact J0.fpOk low (J0.hok.fresh low)

/-- a comprehension over the pairs -/
theorem lc_comb {xs : List V} {g : TG} {tt : TT} {te : TE} {vs : List Nat} {σ : L2.St} {H1 : Hp} {D : Addr} {Qd : Hp → Prop} (Pv : Nat → Hp → Prop) (h0 : Pv 0 (upd H1 D (.lst [])))
    (hs : ∀ (t i j : Nat) (x y : V) (T : Addr) (H : Hp), (prs xs.length)[t]? = some (i, j) → xs[i]? = some x → xs[j]? = some y → Pv t H → H T = none → g (.ref T) (wipe σ vs) (upd H T (.tup [x, y])) fun σ2 H2 => wipe σ2 vs = wipe σ vs ∧ tt σ2 H2 fun b H3 =>
      if b = true then te σ2 H3 fun y H4 => ∃ acc, H4 D = some (.lst acc) ∧ acc.length < sizeLine ∧ Pv (t + 1) (upd H4 D (.lst (acc ++ [y]))) else Pv (t + 1) H3) (hd : ∀ H, Pv (prs xs.length).length H → Qd H) :
    ∃ W : Nat → Nat → Hp → Prop, (∃ m, W 0 m (upd H1 D (.lst []))) ∧ ∀ t m H, W t m H →
      ((Itcb xs).stop t H ∧ Qd H) ∨ ((Itcb xs).go t H ∧ ∃ Nx : Hp → Prop, (∀ H', Nx H' → ∃ m', m' < m ∧ W (t + 1) m' H') ∧ ∀ x H', (Itcb xs).yld t H x H' → g x (wipe σ vs) H' fun σ2 H2 => wipe σ2 vs = wipe σ vs ∧ tt σ2 H2 fun b H3 =>
        if b = true then te σ2 H3 fun y H4 => ∃ acc, H4 D = some (.lst acc) ∧ acc.length < sizeLine ∧ Nx (upd H4 D (.lst (acc ++ [y]))) else Nx H3) := by
  refine ⟨fun t m H => m = (prs xs.length).length - t ∧ t ≤ (prs xs.length).length ∧ Pv t H, ⟨_, rfl, Nat.zero_le _, h0⟩, ?_⟩
  rintro t m H ⟨rfl, ht, pv⟩
  rcases Nat.lt_or_ge t (prs xs.length).length with lt | ge
  · refine .inr ⟨lt, Pv (t + 1), fun H' p' => ⟨(prs xs.length).length - (t + 1), by omega, rfl, lt, p'⟩, fun v H' y => ?_⟩
    obtain ⟨T, i, j, a, b, rfl, hT, rfl, h1, h2, h3⟩ := y
    exact hs t i j a b T H h1 h2 h3 pv hT
  · have e : t = (prs xs.length).length := by omega
    subst e
    exact .inl ⟨Nat.le_refl _, hd H pv⟩
end
end Comb

namespace SortR
open PySem PySem.Spec PyProof.Rows L2 PySem.W
/-- lists of ints by their sequence -/
def rowLe (p q : Addr × List Int) : Bool := decide (p.2 ≤ q.2)
theorem enc_alike (p q : Addr × List Int) : alike (PyData.list (p.2.map .int)) (PyData.list (q.2.map .int)) = true := by
  simp only [alike]
  exact alike_ints p.2 q.2
theorem rows_dp {K : PySem.W.Frag} {H : Hp} : ∀ ns : List Int, DpAll K H (ns.map V.int) (ns.map PyData.int)
  | [] => .nil
  | n :: ns => .cons (.int n) (rows_dp ns)
theorem vals_each {h : Heap} {K : PySem.W.Frag} {H : Hp} {P : Addr × List Int → Prop} : ∀ {bs : List (Addr × List Int)} {us : List Value}, Vals (bs.map fun b => V.ref b.1) us → (∀ b ∈ bs, P b) → EachIs (fun v b => v = Value.ref b.1 ∧ P b) us bs
  | [], us, r, _ => by
    cases r
    exact .nil
  | b :: bs, us, r, hp => by
    cases r with
    | cons r1 r2 =>
      have e : _ = Value.ref b.1 := r1
      exact .cons ⟨e, hp b List.mem_cons_self⟩ (vals_each (h := h) (K := K) (H := H) r2 fun c hc => hp c (List.mem_cons_of_mem _ hc))
theorem each_back {P : Addr × List Int → Prop} : ∀ {us : List Value} {bs : List (Addr × List Int)}, EachIs (fun v b => v = Value.ref b.1 ∧ P b) us bs → Vals (bs.map fun b => V.ref b.1) us
  | _, _, .nil => .nil
  | _, _, .cons h t => .cons h.1 (each_back t)
theorem each_mono {α β : Type} {R S : α → β → Prop} : ∀ {as : List α} {bs : List β}, EachIs R as bs → (∀ a b, R a b → S a b) → EachIs S as bs
  | _, _, .nil, _ => .nil
  | _, _, .cons h t, f => .cons (f _ _ h) (each_mono t f)
section
variable {X : Cx}
/-- sorted(xs), xs a list of lists of ints, of any length -/
theorem call_sortedR (hu : X.A.units + 64 < cLine) : CallR X (.builtin "sorted") (fun xs H Q => ∃ (a : Addr) (bs : List (Addr × List Int)), xs = [V.ref a] ∧ SqL X.K H a (bs.map fun b => V.ref b.1) ∧ (∀ b ∈ bs, SqL X.K H b.1 (b.2.map V.int)) ∧
    ∀ p, H p = none → Q (.ref p) (upd H p (.lst ((bs.mergeSort rowLe).map fun b => V.ref b.1)))) := by
  intro pins s σ H xs us Q I r h
  obtain ⟨a, bs, rfl, hs, hb, q⟩ := h
  obtain ⟨u, rfl, ru⟩ := vals1 r
  obtain rfl : u = Value.ref a := ru
  obtain ⟨its, rv, hl, hz⟩ := I.list hs
  have each : EachIs (fun v b => v = Value.ref b.1 ∧ SqL X.K H b.1 (b.2.map V.int)) its bs := vals_each (h := s.heap) (K := X.K) (H := H) rv hb
  have len : its.length = bs.length := by rw [← rv.length, List.length_map]
  have each2 : EachIs (fun v (b : Addr × List Int) => ∃ as, Reads s.heap v (PyData.list (b.2.map .int)) as) its bs := each_mono each fun v b ⟨e, hq⟩ => by
    rw [e]
    exact Dp.reads I (PyData.list (b.2.map .int)) (.ref b.1) (.ref b.1) (.lst hq (rows_dp b.2)) rfl
  have le : dataLe false (fun b : Addr × List Int => PyData.list (b.2.map .int)) = rowLe := dataLe_rows (fun b : Addr × List Int => b.2)
  refine sorted_data (enc := fun b : Addr × List Int => PyData.list (b.2.map .int)) hl.isList each each2 (AllAlike.of enc_alike) (Sortable.others fun b => ⟨(fun z => nomatch z), fun xs z => nomatch z⟩) (by rw [← len]; rw [List.length_map] at hz; rw [len]; exact hz) (fun b _ => by
    have d : (PyData.list (b.2.map .int)).depth = 1 := by
      simp only [PyData.depth, depth_ints]
    rw [d]
    omega) fun out ho each3 => ?_
  rw [le] at each3
  have back := each_back each3
  obtain ⟨n, hn⟩ := sortedAll_at s.heap its out.toArray
  refine ⟨.ref (s.heap.objs.size + 1), upd H (s.heap.objs.size + 1) (.lst ((bs.mergeSort rowLe).map fun b => V.ref b.1)), I.laid (t' := s.toks) (fun b o e => sortedAll_old e) (Nat.le_succ _) ⟨?_, out, n, back, hn⟩, rfl, q _ (I.hok.fresh (Nat.le_succ _))⟩
  rw [List.length_map, List.length_mergeSort]
  rw [List.length_map] at hz
  exact hz
end
end SortR

namespace SortR
open PySem PySem.Spec PyProof.Rows L2 PySem.W
section
variable {X : Cx}
def rLtR (K : PySem.W.Frag) : R2 := fun x y H Q => ∃ (a b : Addr) (ns ms : List Int), x = .ref a ∧ y = .ref b ∧ SqL K H a (ns.map V.int) ∧ SqL K H b (ms.map V.int) ∧ Q (.bl (decide (ns < ms))) H
/-- xs < ys, two lists of ints -/
theorem op_ltR (hu : X.A.units + 64 < cLine) : OpR X (compareOp .Lt) (rLtR X.K) := by
  intro pins s σ H x y v u Q I rx ry h
  obtain ⟨a, b, ns, ms, rfl, rfl, hs, hm, q⟩ := h
  obtain ⟨as, r1⟩ := Dp.reads I (PyData.list (ns.map .int)) (.ref a) v (.lst hs (rows_dp ns)) rx
  obtain ⟨bs, r2⟩ := Dp.reads I (PyData.list (ms.map .int)) (.ref b) u (.lst hm (rows_dp ms)) ry
  have dep : (PyData.list (ns.map .int)).depth = 1 := by simp only [PyData.depth, depth_ints]
  have lt := rcLt_alike (PyData.list (ns.map .int)) (PyData.list (ms.map .int)) X.A s v u as bs r1 r2 (enc_alike (a, ns) (b, ms)) (fun z => nomatch z) (by rw [dep]; omega)
  have e : dataLt (PyData.list (ns.map .int)) (PyData.list (ms.map .int)) = decide (ns < ms) := by
    rw [dataLt_list]
    exact dataLt_ints ns ms
  rw [e] at lt
  exact lt _ _ _ _ ⟨.bl _, H, I, rfl, q⟩
/-- a comprehension over zip of two lists that stand still -/
theorem lc_zipL {K : PySem.W.Frag} {a b : Addr} {xs ys : List V} {g : TG} {tt : TT} {te : TE} {vs : List Nat} {σ : L2.St} {H1 : Hp} {D : Addr} {Qd : Hp → Prop} (Pv : Nat → Hp → Prop) (h0 : Pv 0 (upd H1 D (.lst []))) (hl : ∀ i H, Pv i H → SqL K H a xs ∧ SqL K H b ys)
    (hs : ∀ (i : Nat) (x y : V) (T : Addr) (H : Hp), xs[i]? = some x → ys[i]? = some y → Pv i H → H T = none → g (.ref T) (wipe σ vs) (upd H T (.tup [x, y])) fun σ2 H2 => wipe σ2 vs = wipe σ vs ∧ tt σ2 H2 fun b H3 =>
      if b = true then te σ2 H3 fun y H4 => ∃ acc, H4 D = some (.lst acc) ∧ acc.length < sizeLine ∧ Pv (i + 1) (upd H4 D (.lst (acc ++ [y]))) else Pv (i + 1) H3) (hd : ∀ H, Pv (min xs.length ys.length) H → Qd H) :
    ∃ W : Nat → Nat → Hp → Prop, (∃ m, W 0 m (upd H1 D (.lst []))) ∧ ∀ i m H, W i m H →
      ((Itz K a b).stop i H ∧ Qd H) ∨ ((Itz K a b).go i H ∧ ∃ Nx : Hp → Prop, (∀ H', Nx H' → ∃ m', m' < m ∧ W (i + 1) m' H') ∧ ∀ x H', (Itz K a b).yld i H x H' → g x (wipe σ vs) H' fun σ2 H2 => wipe σ2 vs = wipe σ vs ∧ tt σ2 H2 fun b H3 =>
        if b = true then te σ2 H3 fun y H4 => ∃ acc, H4 D = some (.lst acc) ∧ acc.length < sizeLine ∧ Nx (upd H4 D (.lst (acc ++ [y]))) else Nx H3) := by
  refine ⟨fun i m H => m = min xs.length ys.length - i ∧ i ≤ min xs.length ys.length ∧ Pv i H, ⟨_, rfl, Nat.zero_le _, h0⟩, ?_⟩
  rintro i m H ⟨rfl, hi, pv⟩
  obtain ⟨qx, qy⟩ := hl i H pv
  rcases Nat.lt_or_ge i (min xs.length ys.length) with lt | ge
  · have ex : xs[i]? = some xs[i] := List.getElem?_eq_getElem (by omega)
    have ey : ys[i]? = some ys[i] := List.getElem?_eq_getElem (by omega)
    refine .inr ⟨⟨xs, ys, _, _, qx, qy, ex, ey⟩, Pv (i + 1), fun H' p' => ⟨min xs.length ys.length - (i + 1), by omega, rfl, lt, p'⟩, fun v H' y => ?_⟩
    obtain ⟨T, x', y', rfl, hT, rfl, f1, f2⟩ := y
    exact hs i x' y' T H (f1 xs qx) (f2 ys qy) pv hT
  · have e : i = min xs.length ys.length := by omega
    subst e
    exact .inl ⟨⟨xs, ys, qx, qy, by omega⟩, hd H pv⟩
/-- a comprehension over enumerate of a list that stands still -/
theorem lc_enumL {K : PySem.W.Frag} {a : Addr} {xs : List V} {g : TG} {tt : TT} {te : TE} {vs : List Nat} {σ : L2.St} {H1 : Hp} {D : Addr} {Qd : Hp → Prop} (Pv : Nat → Hp → Prop) (h0 : Pv 0 (upd H1 D (.lst []))) (hl : ∀ i H, Pv i H → SqL K H a xs)
    (hs : ∀ (i : Nat) (x : V) (T : Addr) (H : Hp), xs[i]? = some x → Pv i H → H T = none → g (.ref T) (wipe σ vs) (upd H T (.tup [.int (i : Nat), x])) fun σ2 H2 => wipe σ2 vs = wipe σ vs ∧ tt σ2 H2 fun b H3 =>
      if b = true then te σ2 H3 fun y H4 => ∃ acc, H4 D = some (.lst acc) ∧ acc.length < sizeLine ∧ Pv (i + 1) (upd H4 D (.lst (acc ++ [y]))) else Pv (i + 1) H3) (hd : ∀ H, Pv xs.length H → Qd H) :
    ∃ W : Nat → Nat → Hp → Prop, (∃ m, W 0 m (upd H1 D (.lst []))) ∧ ∀ i m H, W i m H →
      ((Ite K a).stop i H ∧ Qd H) ∨ ((Ite K a).go i H ∧ ∃ Nx : Hp → Prop, (∀ H', Nx H' → ∃ m', m' < m ∧ W (i + 1) m' H') ∧ ∀ x H', (Ite K a).yld i H x H' → g x (wipe σ vs) H' fun σ2 H2 => wipe σ2 vs = wipe σ vs ∧ tt σ2 H2 fun b H3 =>
        if b = true then te σ2 H3 fun y H4 => ∃ acc, H4 D = some (.lst acc) ∧ acc.length < sizeLine ∧ Nx (upd H4 D (.lst (acc ++ [y]))) else Nx H3) := by
  refine ⟨fun i m H => m = xs.length - i ∧ i ≤ xs.length ∧ Pv i H, ⟨_, rfl, Nat.zero_le _, h0⟩, ?_⟩
  rintro i m H ⟨rfl, hi, pv⟩
  have qx := hl i H pv
  rcases Nat.lt_or_ge i xs.length with lt | ge
  · have ex : xs[i]? = some xs[i] := List.getElem?_eq_getElem lt
    refine .inr ⟨⟨xs, _, qx, ex⟩, Pv (i + 1), fun H' p' => ⟨xs.length - (i + 1), by omega, rfl, lt, p'⟩, fun v H' y => ?_⟩
    obtain ⟨T, x', rfl, hT, rfl, f1⟩ := y
    exact hs i x' T H (f1 xs qx) pv hT
  · have e : i = xs.length := by omega
    subst e
    exact .inl ⟨⟨xs, qx, Nat.le_refl _⟩, hd H pv⟩
end
end SortR

/-! Comprehensions without a test, by the value of each turn: what stood stands. -/
namespace LcM
open PySem PySem.Spec PyProof.Rows L2
/-- all that stood stands -/
def Grows (H H' : Hp) : Prop := ∀ b o, H b = some o → H' b = some o
theorem Grows.refl {H : Hp} : Grows H H := fun _ _ e => e
theorem Grows.trans {H H1 H2 : Hp} (x : Grows H H1) (y : Grows H1 H2) : Grows H H2 := fun b o e => y b o (x b o e)
theorem Grows.new {a : Addr} {H : Hp} {o : HO} (h : H a = none) : Grows H (upd H a o) := fun b u e => by
  rw [upd_ne (ne_of_none e h)]
  exact e
theorem Grows.seq {K : PySem.W.Frag} {H H' : Hp} {a : Addr} {xs : List V} (s : Grows H H') (h : SqL K H a xs) : SqL K H' a xs := by
  rcases h with (h | ⟨o, h⟩) | h
  · exact .inl (.inl (s _ _ h))
  · exact .inl (.inr ⟨o, s _ _ h⟩)
  · exact .inr h
theorem Grows.tup {K : PySem.W.Frag} {H H' : Hp} {a : Addr} {xs : List V} (s : Grows H H') (h : SqT K H a xs) : SqT K H' a xs := by
  rcases h with (h | ⟨o, h⟩) | h
  · exact .inl (.inl (s _ _ h))
  · exact .inl (.inr ⟨o, s _ _ h⟩)
  · exact .inr h
/-- the list that is made -/
def Ma (H0 : Hp) (D : Addr) (F : Nat → V) (i : Nat) (H : Hp) : Prop := Grows H0 H ∧ H D = some (.lst ((List.range i).map F))
theorem Ma.start {H0 : Hp} {D : Addr} {F : Nat → V} (hD : H0 D = none) : Ma H0 D F 0 (upd H0 D (.lst [])) := ⟨Grows.new hD, upd_same⟩
theorem yes_eq {te : TE} {A : L2.St → Prop} {R : V → Hp → Prop} {Y : Hp → Prop} :
    (fun (σ2 : L2.St) (H2 : Hp) => A σ2 ∧ tYes σ2 H2 fun b H3 => if b = true then te σ2 H3 R else Y H3) = fun σ2 H2 => A σ2 ∧ te σ2 H2 R := by
  funext σ2 H2
  unfold tYes
  dsimp only
  rw [if_pos rfl]
/-- one more -/
theorem Ma.more {H0 H H4 : Hp} {D : Addr} {F : Nat → V} {i : Nat} (hD : H0 D = none) (m : Ma H0 D F i H) (s : Grows H H4) (small : i < 1000000) :
    ∃ acc, H4 D = some (.lst acc) ∧ acc.length < sizeLine ∧ Ma H0 D F (i + 1) (upd H4 D (.lst (acc ++ [F i]))) := by
  refine ⟨_, s _ _ m.2, ?_, fun b o e => ?_, ?_⟩
  · rw [List.length_map, List.length_range]
    exact Nat.lt_trans small (by decide)
  · rw [upd_ne (ne_of_none e hD)]
    exact s _ _ (m.1 _ _ e)
  · rw [upd_same, List.range_succ, List.map_append]
    rfl
section
variable {K : PySem.W.Frag} {a b : Addr} {xs ys : List V} {g : TG} {te : TE} {vs : List Nat} {σ : L2.St} {H0 : Hp} {D : Addr} {Qd : Hp → Prop}
theorem lc_listM (F : Nat → V) (hD : H0 D = none) (hx : SqL K H0 a xs) (small : xs.length ≤ 1000000)
    (turn : ∀ (i : Nat) (x : V) (H : Hp) (R : V → Hp → Prop), xs[i]? = some x → Grows H0 H → (∀ H4, Grows H H4 → R (F i) H4) → g x (wipe σ vs) H fun σ2 H2 => wipe σ2 vs = wipe σ vs ∧ te σ2 H2 R)
    (done : ∀ H, Grows H0 H → H D = some (.lst ((List.range xs.length).map F)) → Qd H) :
    ∃ W : Nat → Nat → Hp → Prop, (∃ m, W 0 m (upd H0 D (.lst []))) ∧ ∀ i m H, W i m H →
      ((Itl K a).stop i H ∧ Qd H) ∨ ((Itl K a).go i H ∧ ∃ Nx : Hp → Prop, (∀ H', Nx H' → ∃ m', m' < m ∧ W (i + 1) m' H') ∧ ∀ x H', (Itl K a).yld i H x H' → g x (wipe σ vs) H' fun σ2 H2 => wipe σ2 vs = wipe σ vs ∧ tYes σ2 H2 fun b H3 =>
        if b = true then te σ2 H3 fun y H4 => ∃ acc, H4 D = some (.lst acc) ∧ acc.length < sizeLine ∧ Nx (upd H4 D (.lst (acc ++ [y]))) else Nx H3) := by
  refine lc_list (Ma H0 D F) (Ma.start hD) (fun i H _ m => m.1.seq hx) (fun i x H ex m => ?_) fun H m => done H m.1 m.2
  rw [yes_eq (A := fun σ2 => wipe σ2 vs = wipe σ vs)]
  exact turn i x H _ ex m.1 fun H4 s => m.more hD s (Nat.lt_of_lt_of_le (List.getElem?_eq_some_iff.mp ex).1 small)
theorem lc_zipM (F : Nat → V) (hD : H0 D = none) (hx : SqL K H0 a xs) (hy : SqL K H0 b ys) (small : xs.length ≤ 1000000)
    (turn : ∀ (i : Nat) (x y : V) (T : Addr) (H : Hp) (R : V → Hp → Prop), xs[i]? = some x → ys[i]? = some y → Grows H0 H → H T = none → (∀ H4, Grows (upd H T (.tup [x, y])) H4 → R (F i) H4) → g (.ref T) (wipe σ vs) (upd H T (.tup [x, y])) fun σ2 H2 => wipe σ2 vs = wipe σ vs ∧ te σ2 H2 R)
    (done : ∀ H, Grows H0 H → H D = some (.lst ((List.range (min xs.length ys.length)).map F)) → Qd H) :
    ∃ W : Nat → Nat → Hp → Prop, (∃ m, W 0 m (upd H0 D (.lst []))) ∧ ∀ i m H, W i m H →
      ((Itz K a b).stop i H ∧ Qd H) ∨ ((Itz K a b).go i H ∧ ∃ Nx : Hp → Prop, (∀ H', Nx H' → ∃ m', m' < m ∧ W (i + 1) m' H') ∧ ∀ x H', (Itz K a b).yld i H x H' → g x (wipe σ vs) H' fun σ2 H2 => wipe σ2 vs = wipe σ vs ∧ tYes σ2 H2 fun b H3 =>
        if b = true then te σ2 H3 fun y H4 => ∃ acc, H4 D = some (.lst acc) ∧ acc.length < sizeLine ∧ Nx (upd H4 D (.lst (acc ++ [y]))) else Nx H3) := by
  refine SortR.lc_zipL (Ma H0 D F) (Ma.start hD) (fun i H m => ⟨m.1.seq hx, m.1.seq hy⟩) (fun i x y T H ex ey m hT => ?_) fun H m => done H m.1 m.2
  rw [yes_eq (A := fun σ2 => wipe σ2 vs = wipe σ vs)]
  exact turn i x y T H _ ex ey m.1 hT fun H4 s => m.more hD ((Grows.new hT).trans s) (Nat.lt_of_lt_of_le (List.getElem?_eq_some_iff.mp ex).1 small)
theorem lc_enumM (F : Nat → V) (hD : H0 D = none) (hx : SqL K H0 a xs) (small : xs.length ≤ 1000000)
    (turn : ∀ (i : Nat) (x : V) (T : Addr) (H : Hp) (R : V → Hp → Prop), xs[i]? = some x → Grows H0 H → H T = none → (∀ H4, Grows (upd H T (.tup [.int (i : Nat), x])) H4 → R (F i) H4) → g (.ref T) (wipe σ vs) (upd H T (.tup [.int (i : Nat), x])) fun σ2 H2 => wipe σ2 vs = wipe σ vs ∧ te σ2 H2 R)
    (done : ∀ H, Grows H0 H → H D = some (.lst ((List.range xs.length).map F)) → Qd H) :
    ∃ W : Nat → Nat → Hp → Prop, (∃ m, W 0 m (upd H0 D (.lst []))) ∧ ∀ i m H, W i m H →
      ((Ite K a).stop i H ∧ Qd H) ∨ ((Ite K a).go i H ∧ ∃ Nx : Hp → Prop, (∀ H', Nx H' → ∃ m', m' < m ∧ W (i + 1) m' H') ∧ ∀ x H', (Ite K a).yld i H x H' → g x (wipe σ vs) H' fun σ2 H2 => wipe σ2 vs = wipe σ vs ∧ tYes σ2 H2 fun b H3 =>
        if b = true then te σ2 H3 fun y H4 => ∃ acc, H4 D = some (.lst acc) ∧ acc.length < sizeLine ∧ Nx (upd H4 D (.lst (acc ++ [y]))) else Nx H3) := by
  refine SortR.lc_enumL (Ma H0 D F) (Ma.start hD) (fun i H m => m.1.seq hx) (fun i x T H ex m hT => ?_) fun H m => done H m.1 m.2
  rw [yes_eq (A := fun σ2 => wipe σ2 vs = wipe σ vs)]
  exact turn i x T H _ ex m.1 hT fun H4 s => m.more hD ((Grows.new hT).trans s) (Nat.lt_of_lt_of_le (List.getElem?_eq_some_iff.mp ex).1 small)
theorem lc_combM (F : Nat → V) (hD : H0 D = none) (small : xs.length ≤ 1000)
    (turn : ∀ (t i j : Nat) (x y : V) (T : Addr) (H : Hp) (R : V → Hp → Prop), (Comb.prs xs.length)[t]? = some (i, j) → xs[i]? = some x → xs[j]? = some y → Grows H0 H → H T = none → (∀ H4, Grows (upd H T (.tup [x, y])) H4 → R (F t) H4) → g (.ref T) (wipe σ vs) (upd H T (.tup [x, y])) fun σ2 H2 => wipe σ2 vs = wipe σ vs ∧ te σ2 H2 R)
    (done : ∀ H, Grows H0 H → H D = some (.lst ((List.range (Comb.prs xs.length).length).map F)) → Qd H) :
    ∃ W : Nat → Nat → Hp → Prop, (∃ m, W 0 m (upd H0 D (.lst []))) ∧ ∀ t m H, W t m H →
      ((Comb.Itcb xs).stop t H ∧ Qd H) ∨ ((Comb.Itcb xs).go t H ∧ ∃ Nx : Hp → Prop, (∀ H', Nx H' → ∃ m', m' < m ∧ W (t + 1) m' H') ∧ ∀ x H', (Comb.Itcb xs).yld t H x H' → g x (wipe σ vs) H' fun σ2 H2 => wipe σ2 vs = wipe σ vs ∧ tYes σ2 H2 fun b H3 =>
        if b = true then te σ2 H3 fun y H4 => ∃ acc, H4 D = some (.lst acc) ∧ acc.length < sizeLine ∧ Nx (upd H4 D (.lst (acc ++ [y]))) else Nx H3) := by
  refine Comb.lc_comb (Ma H0 D F) (Ma.start hD) (fun t i j x y T H et ex ey m hT => ?_) fun H m => done H m.1 m.2
  rw [yes_eq (A := fun σ2 => wipe σ2 vs = wipe σ vs)]
  refine turn t i j x y T H _ et ex ey m.1 hT fun H4 s => m.more hD ((Grows.new hT).trans s) ?_
  have l1 := (List.getElem?_eq_some_iff.mp et).1
  have l2 := Comb.rows_len (xs.length - 1) 0
  have l3 : (xs.length - 1) * (xs.length - 1) ≤ 999 * 999 := Nat.mul_le_mul (by omega) (by omega)
  unfold Comb.prs at l1
  omega
end
/-- xs[1:] -/
theorem cut_tail (xs : List V) : cutV xs (some 1) none = xs.tail := by
  unfold cutV
  rw [HT.sIx_none, show (some (1 : Int)) = some ((1 : Nat) : Int) from rfl, HT.sIx_nat]
  cases xs with
  | nil => rfl
  | cons x l =>
    have e : min 1 (x :: l).length = 1 := by rw [List.length_cons]; omega
    rw [e, List.drop_one, List.tail_cons, List.length_cons, Nat.add_sub_cancel, List.take_length]
end LcM

/-! {key: value for target in iterable if test}, the keys tuples. -/
namespace DcT
open PySem PySem.Spec PyProof.Rows L2
section
variable {X : Cx} {pins : List (Addr × Obj)} {σ : L2.St} {H : Hp} {s : Shared}
/-- one entry is laid by the comprehension -/
theorem set_tup {Er : Value → Shared → Prop} {d b : Addr} {kvs : List (List L2.Key × V)} {k : List L2.Key} {v : V} {u r : Value} {Qu : Unit → Shared → Prop} (room : X.A.units + 1 < cLine) (I : Inv X pins σ H s) (at_d : H d = some (.dT kvs)) (few : kvs.length < sizeLine)
    (at_b : H b = some (.tup (k.map kV))) (ru : RelV (.ref b) u) (rr : RelV v r) (go : ∀ s', Inv X pins σ (upd H d (.dT (putK kvs k v))) s' → Qu () s') : wpAny (model X.prog X.w) X.A (dictSet d u r) Qu Er s := by
  obtain rfl : u = Value.ref b := ru
  obtain ⟨fits, notSys, xs, rel, raw⟩ := dt_of I.hok at_d
  have n1 : xs.length ≤ sizeLine := Paired.length rel ▸ fits
  have n2 : (putK kvs k v).length ≤ sizeLine := Nat.le_trans (length_putK kvs k v) few
  refine wpAny_dictSet_heap (hsz := n1) (show X.A.units < cLine from Nat.lt_of_succ_lt room) (key_of I.hok at_b) raw fun hp raw' same => go _ ?_
  obtain ⟨o, es, ep, g1, g2, g3, g4, _, g5⟩ := raw'
  refine d_write I (by rw [at_d]; exact True.intro) same ⟨o, g1⟩ ⟨n2, notSys, _, (rel.put k at_b rr).keeps fun c ys ec => ?_, o, es, ep, g1, g2, g3, g4, g5⟩
  rw [upd_ne (ne_of ec at_d fun z => nomatch z)]
  exact ec
end
section
variable {X : Cx}
def tDcT (wi : TI) (g : TG) (tt : TT) (tk tv : TE) (vs : List Nat) : TE := fun σ H Q => wi σ H fun J H1 => ∀ D, H1 D = none → ∃ W : Nat → Nat → Hp → Prop, (∃ m, W 0 m (upd H1 D (.dT []))) ∧ ∀ i m H, W i m H →
  (J.stop i H ∧ Q (.ref D) H) ∨ (J.go i H ∧ ∃ Nx : Hp → Prop, (∀ H', Nx H' → ∃ m', m' < m ∧ W (i + 1) m' H') ∧ ∀ x H', J.yld i H x H' → g x (wipe σ vs) H' fun σ2 H2 => wipe σ2 vs = wipe σ vs ∧ tt σ2 H2 fun t H3 =>
    if t = true then tk σ2 H3 fun y H4 => tv σ2 H4 fun z H5 => ∃ b kvs k, y = .ref b ∧ H5 b = some (.tup (k.map kV)) ∧ H5 D = some (.dT kvs) ∧ kvs.length < sizeLine ∧ Nx (upd H5 D (.dT (putK kvs k z))) else Nx H3)
theorem dcT_core {pins : List (Addr × Obj)} {s0 : Shared} {σ : L2.St} {H0 : Hp} {Q : VK} {kx vx tg iter : Expr} {ifs : List Expr} {scope : Scope} {own : List (Str × Nat)} {pos pos' : Pos} {wi : TI} {g : TG} {tt : TT} {tk tv : TE} {use : Option (Value → Sem Unit)} {Qf : Value → Shared → Prop}
    (room : X.A.units + 64 < cLine) (calm : X.calm = true) (nd : X.N.Nodup) (I0 : Inv X pins σ H0 s0) (pi : PI X tg iter wi) (ok : BlkOk X.N X.env.scope scope own)
    (pgs : ∀ (s : Shared) (H : Hp) (C : Addr) (cl : List (Str × Addr)) (fp : List Addr), PG (X.blk s H scope (compEnvC scope cl C X.env) fp) tg g) (pts : ∀ (s : Shared) (H : Hp) (C : Addr) (cl : List (Str × Addr)) (fp : List Addr), PTs (X.blk s H scope (compEnvC scope cl C X.env) fp) ifs tt)
    (pks : ∀ (s : Shared) (H : Hp) (C : Addr) (cl : List (Str × Addr)) (fp : List Addr), PE (X.blk s H scope (compEnvC scope cl C X.env) fp) kx tk) (pvs : ∀ (s : Shared) (H : Hp) (C : Addr) (cl : List (Str × Addr)) (fp : List Addr), PE (X.blk s H scope (compEnvC scope cl C X.env) fp) vx tv)
    (fold : ∀ x, foldedSetIterable iter X.env x = pure x) (rd : tDcT wi g tt tk tv (own.map (·.2)) σ H0 Q)
    (post : ∀ D C t ns G, Inv X pins σ G t → Q (.ref D) G → t.heap.Ns C ns → FpOk X pins G C → compPost (model X.prog X.w) X.A X.xe use Qf (.ref D) C (.ok .next) t) :
    wpAny (model X.prog X.w) X.A (comprehension (.DictComp kx vx [⟨tg, iter, ifs, 0⟩] scope pos) scope X.env pos' newDict false (eval iter X.env) use) Qf X.xe s0 := by
  have isFree : ∀ y ∈ scope.names, y.2 = .free → ∃ c, X.env.cells.lookup y.1 = some c := fun y hy ey => (ok.free y hy ey).elim (fun z => I0.ok.has _ (.inl z)) fun z => I0.ok.has _ (.inr z)
  refine wpAny_comprehension_free (use := use) rfl fold (closure_ok isFree) ok.kind (fun y hy ey => (ok.uniq y hy).trans (congrArg some ey)) (thn (pi.run pins s0 σ H0 _ I0 rd) fun _ sa ha => thn ha fun _ sb hb => ?_)
  obtain ⟨it, fp, tn, J, Hb, rfl, Ib, Tn, tn0, fb, q⟩ := hb
  refine wpAny_newObj_type (newEnv_comp ?_)
  have free0 : Hb sb.heap.objs.size = none := Ib.hok.fresh (Nat.le_refl _)
  obtain ⟨W, ⟨m0, w0⟩, turn⟩ := q _ free0
  -- with the dict, empty
  obtain ⟨sc, esc⟩ : ∃ z : Shared, z = { sb with heap := sb.heap.push { cls := .type "dict", data := .dict #[] } } := ⟨_, rfl⟩
  obtain ⟨Hc, eHc⟩ : ∃ z : Hp, z = upd Hb sb.heap.objs.size (.dT []) := ⟨_, rfl⟩
  have Ic : Inv X pins σ Hc sc := by
    rw [esc, eHc]
    exact Ib.laid (t' := sb.toks) (fun b o z => Heap.get?_push_of_some _ z) (Nat.le_refl _) (dt_empty sb.heap Ib.big)
  have up : ∀ b o, sb.heap.get? b = some o → sc.heap.get? b = some o := fun b o z => by
    rw [esc]
    exact Heap.get?_push_of_some _ z
  have below : ∀ b ∈ fp, b < sb.heap.objs.size := fun b hb => let ⟨_, z, _⟩ := Tn.obj _ _ tn0 b hb; Heap.lt_size z
  have fc : ∀ b ∈ fp, FpOk X pins Hc b ∧ b < sc.heap.objs.size := fun b hb => by
    obtain ⟨o, z, _⟩ := Tn.obj _ _ tn0 b hb
    refine ⟨⟨?_, (fb b hb).2⟩, Heap.lt_size (up b o z)⟩
    rw [eHc, upd_ne (Nat.ne_of_lt (below b hb))]
    exact (fb b hb).1
  have tnc : tn 0 sc.heap := Tn.keep _ _ _ tn0 fun b _ o z => up b o z
  have Ie := block_start Ic ok nd fc
  obtain ⟨cells, ecl⟩ : ∃ z, z = cellsFrom (sc.heap.objs.size + 1) scope.names (cloFrom X.env.cells scope.names []) := ⟨_, rfl⟩
  have pg := pgs sc Hc sc.heap.objs.size cells fp
  have pt := pts sc Hc sc.heap.objs.size cells fp
  have pk := pks sc Hc sc.heap.objs.size cells fp
  have pv := pvs sc Hc sc.heap.objs.size cells fp
  rw [← ecl] at Ie
  rw [← esc]
  show codeAny _ _ (.compStart _ 0 (.ref it) (.ref sb.heap.objs.size) (compEnvC scope (cellsFrom (sc.heap.objs.size + 1) scope.names (cloFrom X.env.cells scope.names [])) sc.heap.objs.size X.env)) (compPost _ _ X.xe use Qf (.ref sb.heap.objs.size) sc.heap.objs.size) _
  rw [← ecl]
  have loc : (compEnvC scope cells sc.heap.objs.size X.env).locals = sc.heap.objs.size := rfl
  rw [← eHc] at w0
  have empty : ∀ b ∈ fp, Hc b = none := fun b hb => (fc b hb).1.1
  obtain ⟨sd, esd⟩ : ∃ z : Shared, z = { sc with heap := pushCells (sc.heap.push { cls := .type "dict", data := .dict #[] }) scope.names } := ⟨_, rfl⟩
  have tnd : tn 0 sd.heap := Tn.keep _ _ _ tnc fun b _ o z => by
    rw [esd]
    exact pushCells_keeps _ _ _ _ (Heap.get?_push_of_some _ z)
  rw [← esd] at Ie ⊢
  generalize compEnvC scope cells sc.heap.objs.size X.env = ce at Ie pg pt pk pv loc ⊢
  -- the iterator's own objects in the block
  have own_ok : ∀ {ρ : L2.St} {G : Hp} {t : Shared}, Inv (X.blk sc Hc scope ce fp) [] ρ G t → (∀ b ∈ fp, G b = none) → ∀ b ∈ fp, FpOk (X.blk sc Hc scope ce fp) [] G b := fun {ρ G t} J hn b hb =>
    ⟨hn b hb, (J.ok.exf b hb).1, J.ok.exfs b hb, .inl hb, fun y c z => (J.ok.exf b hb).2 y c z, fun p hp => (nomatch hp)⟩
  have run : codeAny (model X.prog X.w) X.A (.compLoop (.DictComp kx vx [⟨tg, iter, ifs, 0⟩] scope pos) 0 (.ref it) (.ref sb.heap.objs.size) ce) (compPost (model X.prog X.w) X.A X.xe use Qf (.ref sb.heap.objs.size) sc.heap.objs.size) sd := by
    refine compLoop_anyD (fun m t => ∃ i G, Inv (X.blk sc Hc scope ce fp) [] (wipe σ (own.map (·.2))) G t ∧ tn i t.heap ∧ (∀ b ∈ fp, G b = none) ∧ W i m G) ?_ m0 ⟨0, Hc, Ie, tnd, empty, w0⟩
    rintro m t ⟨i, G, J, tni, none_, wi_⟩
    rcases turn i m G wi_ with ⟨stop, fin⟩ | ⟨go, Nx, less, step⟩
    · refine thnF (Tn.done (X.blk sc Hc scope ce fp) rfl rfl rfl calm i [] t _ G (fun _ _ => False) J (own_ok J none_) tni stop) fun r t2 ⟨er, J2⟩ => ?_
      subst er
      have back : Inv X pins σ G t2 := Ic.call' (ch := fp) J2.os J2.base J2.hok J2.bare fun b hb => ⟨(fc b hb).1.2.2.2.1, (fc b hb).1.2.1, (fc b hb).1.2.2.2.2.1, (fc b hb).1.2.2.2.2.2⟩
      have noC : G sc.heap.objs.size = none := by
        have z : G ce.locals = none := J2.free
        rwa [loc] at z
      obtain ⟨ns, isNs, _⟩ := J2.loc
      have isNs' : t2.heap.Ns ce.locals ns := isNs
      rw [loc] at isNs'
      exact post _ _ t2 ns G back fin isNs' (Ic.fpOk (Nat.le_refl _) noC)
    · refine thnF (Tn.item (X.blk sc Hc scope ce fp) rfl rfl rfl calm i [] t _ G (fun _ _ => False) J (own_ok J none_) tni go) fun r t2 ⟨u, er, h2⟩ => ?_
      subst er
      refine thnF h2 fun _ t3 ⟨x, G3, J3, r3, y3, tn3, none3⟩ => ?_
      have K3 := J3.pinned (own_ok J3 none3) (Tn.obj _ _ tn3)
      refine thnF (pg.run _ t3 _ G3 x u _ K3 r3 (step x G3 y3)) fun _ t4 ⟨ρ4, G4, J4, same4, q4⟩ => ?_
      refine thnF (pt.run _ t4 ρ4 G4 _ J4 q4) fun yes t5 ⟨G5, J5, q5⟩ => ?_
      have next : ∀ {t' : Shared} {G' : Hp}, Inv (X.blk sc Hc scope ce fp) ([] ++ pinsAt fp t3.heap) ρ4 G' t' → Nx G' → ∃ m', m' < m ∧ ∃ i G, Inv (X.blk sc Hc scope ce fp) [] (wipe σ (own.map (·.2))) G t' ∧ tn i t'.heap ∧ (∀ b ∈ fp, G b = none) ∧ W i m' G := fun {t' G'} J' nx => by
        obtain ⟨m', lt, w'⟩ := less G' nx
        have held : ∀ b ∈ fp, ∀ o, t3.heap.get? b = some o → t'.heap.get? b = some o ∧ G' b = none := fun b hb o z =>
          have p := J'.pin (b, o) (List.mem_append_right _ (List.mem_append_right _ (mem_pinsAt hb z)))
          ⟨p.1, p.2.1⟩
        have len : (wipe σ (own.map (·.2))).length = ρ4.length := by rw [← same4, wipe_length]
        refine ⟨m', lt, i + 1, G', (J'.unpinned (pins := [])).weak len (fun j v z => ?_), Tn.keep _ _ _ tn3 fun b hb o z => (held b hb o z).1, fun b hb => ?_, w'⟩
        · rw [← same4] at z
          exact (wipe_some z).1
        · obtain ⟨o, z, _⟩ := Tn.obj _ _ tn3 b hb
          exact (held b hb o z).2
      cases yes with
      | false =>
        simp only [Bool.false_eq_true, if_false] at q5 ⊢
        exact next J5 q5
      | true =>
        simp only [if_true] at q5 ⊢
        refine thnF (pk.run _ t5 ρ4 G5 _ J5 q5) fun ku t6 ⟨yk, G6, J6, r6, q6⟩ => thnF (pv.run _ t6 ρ4 G6 _ J6 q6) fun vu t7 ⟨yv, G7, J7, r7, b, kvs, k, ek, at_b, at_d, few, nx⟩ => ?_
        subst ek
        exact set_tup (X := X.blk sc Hc scope ce fp) (show X.A.units + 1 < cLine by omega) J7 at_d few at_b r6 r7 fun t8 J8 => next J8 nx
  exact codeAny_compStart_dict run (Tn.self X.A 0 _ _ _ tnd run)
/-- as a value -/
theorem pe_dcT {kx vx tg iter : Expr} {ifs : List Expr} {scope : Scope} {own : List (Str × Nat)} {pos : Pos} {wi : TI} {g : TG} {tt : TT} {tk tv : TE} (room : X.A.units + 64 < cLine) (calm : X.calm = true) (nd : X.N.Nodup) (pi : PI X tg iter wi) (ok : BlkOk X.N X.env.scope scope own)
    (pgs : ∀ (s : Shared) (H : Hp) (C : Addr) (cl : List (Str × Addr)) (fp : List Addr), PG (X.blk s H scope (compEnvC scope cl C X.env) fp) tg g) (pts : ∀ (s : Shared) (H : Hp) (C : Addr) (cl : List (Str × Addr)) (fp : List Addr), PTs (X.blk s H scope (compEnvC scope cl C X.env) fp) ifs tt)
    (pks : ∀ (s : Shared) (H : Hp) (C : Addr) (cl : List (Str × Addr)) (fp : List Addr), PE (X.blk s H scope (compEnvC scope cl C X.env) fp) kx tk) (pvs : ∀ (s : Shared) (H : Hp) (C : Addr) (cl : List (Str × Addr)) (fp : List Addr), PE (X.blk s H scope (compEnvC scope cl C X.env) fp) vx tv)
    (fold : ∀ x, foldedSetIterable iter X.env x = pure x := by intro _; rfl) : PE X (.DictComp kx vx [⟨tg, iter, ifs, 0⟩] scope pos) (tDcT wi g tt tk tv (own.map (·.2))) := by
  refine ⟨fun pins s0 σ H0 Q I0 rd => ?_⟩
  rw [arm_eval_DictComp]
  refine dcT_core room calm nd I0 pi ok pgs pts pks pvs fold rd fun D C t ns G J fin isNs ⟨f0, f1, f2, f3, f4, f5⟩ => ⟨ns, isNs, fun h2 sb2 => ⟨.ref D, G, J.turned (t' := t.toks) (fun b o ne z => (sb2.2 b ne).trans z) f0 f1 f3 f4 f5, rfl, fin⟩⟩
/-- name = {..} on one line, the name a local -/
theorem ps_setDcT {i : Nat} {y : Str} {py : Pos} {kx vx tg iter : Expr} {ifs : List Expr} {scope : Scope} {own : List (Str × Nat)} {pos spos : Pos} {wi : TI} {g : TG} {tt : TT} {tk tv : TE} (room : X.A.units + 64 < cLine) (calm : X.calm = true) (nd : X.N.Nodup) (at_y : X.N[i]? = some y) (loc : X.env.scope.names.lookup y = some .local)
    (sw : swapsWith (.DictComp kx vx [⟨tg, iter, ifs, 0⟩] scope pos) (some (.Name y py)) spos.line X.env = pure true) (pi : PI X tg iter wi) (ok : BlkOk X.N X.env.scope scope own)
    (pgs : ∀ (s : Shared) (H : Hp) (C : Addr) (cl : List (Str × Addr)) (fp : List Addr), PG (X.blk s H scope (compEnvC scope cl C X.env) fp) tg g) (pts : ∀ (s : Shared) (H : Hp) (C : Addr) (cl : List (Str × Addr)) (fp : List Addr), PTs (X.blk s H scope (compEnvC scope cl C X.env) fp) ifs tt)
    (pks : ∀ (s : Shared) (H : Hp) (C : Addr) (cl : List (Str × Addr)) (fp : List Addr), PE (X.blk s H scope (compEnvC scope cl C X.env) fp) kx tk) (pvs : ∀ (s : Shared) (H : Hp) (C : Addr) (cl : List (Str × Addr)) (fp : List Addr), PE (X.blk s H scope (compEnvC scope cl C X.env) fp) vx tv)
    (fold : ∀ x, foldedSetIterable iter X.env x = pure x := by intro _; rfl) : PS X (.Assign [.Name y py] (.DictComp kx vx [⟨tg, iter, ifs, 0⟩] scope pos) spos) (tAsg (tDcT wi g tt tk tv (own.map (·.2))) (gName i)) := by
  refine ⟨fun pins s0 σ H0 D I0 rd => ?_⟩
  rw [exec_Assign_Name_used _ _ _ _ sw]
  refine wpAny_bind (wpAny_standAt (wpAny_bind ?_))
  show wpAny _ X.A (do let _ ← comprehension (.DictComp kx vx [⟨tg, iter, ifs, 0⟩] scope pos) scope X.env (firstIterPos [⟨tg, iter, ifs, 0⟩] pos) newDict false (eval iter X.env) (some (assign (.Name y py) X.env))) _ _ s0
  have rd' : tDcT wi g tt tk tv (own.map (·.2)) σ H0 (fun x G => gName i x σ G D.nx) := rd
  refine wpAny_bind (thn (dcT_core (Qf := fun _ t => SP X pins D .next t) room calm nd I0 pi ok pgs pts pks pvs fold rd' fun L C t ns G J fin isNs fo => ?_) fun _ _ z => wpAny_pure (wpAny_pure z))
  obtain ⟨f0, f1, f2, f3, f4, f5⟩ := fo
  show wpAny _ _ (assign (.Name y py) X.env (.ref L)) _ _ _
  refine wpAny_assign_Name (store_ok2 (v := V.ref L) J nd at_y (.inl loc) rfl (fun t2 J2 ⟨c, sb, hc⟩ => ?_) (.inr loc))
  have ne : C ≠ c := hc.elim (fun z => z ▸ f1) fun z e => f4 y c z e.symm
  exact ⟨ns, isNs.sameBut sb ne, fun h3 sb3 => ⟨_, G, J2.turned (t' := t2.toks) (fun b o hb e => (sb3.2 b hb).trans e) f0 f1 f3 f4 f5, fin⟩⟩
theorem sw_dict {kx vx : Expr} {gs : List Comprehension} {scope : Scope} {pos py : Pos} {y : Str} {l : Nat} {env : Env} (fn : env.scope.kind = .function) (loc : env.scope.names.lookup y = some .local) (row : (py.line == pos.line) = true)
    (other : (scope.names.any fun (n, k) => n == y && (k == .local || k == .cell)) = false) : swapsWith (.DictComp kx vx gs scope pos) (some (.Name y py)) l env = pure true := by
  have k1 : env.kindOf y = some .local := loc
  have k2 : env.blockKind = .function := by
    unfold Env.blockKind
    rw [fn]
    rfl
  unfold swapsWith
  simp only [k1, k2, other, Expr.pos, row]
  rfl
end
end DcT

/-! sorted(d), the keys of d tuples of ints, of any number. -/
namespace SortR
open PySem PySem.Spec PyProof.Rows L2 PySem.W
theorem enc_alikeT (p q : Addr × List Int) : alike (PyData.tuple (p.2.map .int)) (PyData.tuple (q.2.map .int)) = true := by
  simp only [alike]
  exact alike_ints p.2 q.2
theorem le_tuples : dataLe false (fun b : Addr × List Int => PyData.tuple (b.2.map .int)) = rowLe := by
  have e : dataLe false (fun b : Addr × List Int => PyData.tuple (b.2.map .int)) = dataLe false (fun b : Addr × List Int => PyData.list (b.2.map .int)) := by
    funext p q
    simp only [dataLe_eq, dataLt_tuple, dataLt_list]
  rw [e]
  exact dataLe_rows (fun b : Addr × List Int => b.2)
/-- the keys' tuples, in the dict's sequence -/
theorem key_rows {H : Hp} : ∀ {kvs : List (List L2.Key × V)} {ks : List (List L2.Key × Addr × Value)} {bs : List (List Int)},
    Paired (fun (p : List L2.Key × V) (q : List L2.Key × Addr × Value) => p.1 = q.1 ∧ H q.2.1 = some (.tup (p.1.map kV)) ∧ RelV p.2 q.2.2) kvs ks → kvs.map (·.1) = bs.map (fun ns => ns.map Sum.inl) →
    ∃ as : List (Addr × List Int), as.map (·.1) = ks.map (·.2.1) ∧ as.map (·.2) = bs ∧ ∀ b ∈ as, H b.1 = some (.tup (b.2.map V.int))
  | _, _, [], .nil, _ => ⟨[], rfl, rfl, fun _ m => nomatch m⟩
  | _, _, n :: bs, .cons (a := p) (b := q) h t, e => by
    rw [List.map_cons, List.map_cons] at e
    obtain ⟨e1, e2⟩ := List.cons.inj e
    obtain ⟨as, f1, f2, f3⟩ := key_rows t e2
    refine ⟨(q.2.1, n) :: as, by rw [List.map_cons, List.map_cons, f1], by rw [List.map_cons, f2], fun b m => ?_⟩
    rcases List.mem_cons.mp m with z | z
    · rw [z]
      have g := h.2.1
      rw [e1, List.map_map] at g
      exact g
    · exact f3 b z
  | _, _, [], .cons _ _, e => by cases e
  | _, _, _ :: _, .nil, e => by cases e
section
variable {X : Cx}
theorem call_sortedDT (hu : X.A.units + 64 < cLine) (calm : X.calm = true) : CallR X (.builtin "sorted") (fun xs H Q => ∃ (d : Addr) (kvs : List (List L2.Key × V)) (bs : List (List Int)), xs = [V.ref d] ∧ H d = some (.dT kvs) ∧ kvs.map (·.1) = bs.map (fun ns => ns.map Sum.inl) ∧ (∀ k ∈ bs, k ≠ []) ∧
    ∀ as : List (Addr × List Int), as.map (·.2) = bs → (∀ b ∈ as, H b.1 = some (.tup (b.2.map V.int))) → ∀ p, H p = none → Q (.ref p) (upd H p (.lst ((as.mergeSort rowLe).map fun b => V.ref b.1)))) := by
  intro pins s σ H xs us Q I r h
  obtain ⟨d, kvs, bs, rfl, hd, hk, hne, q⟩ := h
  obtain ⟨u, rfl, ru⟩ := vals1 r
  obtain rfl : u = Value.ref d := ru
  obtain ⟨z, hs, ks, pr, o, es, ep, ho, hx, hdt, he, hn⟩ := (show ObjOk X.prog X.w H s.heap d (.dT kvs) from I.hok d _ hd)
  obtain ⟨as, a1, a2, a3⟩ := key_rows pr hk
  have l0 : es.size = ks.length := size_of_entries he
  have l1 : kvs.length = ks.length := Paired.length pr
  have l2 : as.length = ks.length := by rw [← List.length_map (f := (·.1)), a1, List.length_map]
  have fits : ks.length ≤ sizeLine := l1 ▸ z
  refine Calls.call_function_entry PyProof.Rows.kind_sorted PyProof.Rows.plain_sorted PyProof.Rows.entry_sorted (PyProof.Rows.args_sorted1 _) ?_
  unfold Builtin.«sorted»
  refine wpAny_bind (m := checkCount "sorted" 1 1 _) (wpAny_pure (wpAny_bind (kdu_collect (A := X.A.in1) (kdl_raw hs hx hdt) (I.ok.hd calm) ho (l0 ▸ fits) fun h1 tk acc keep it => ?_)))
  have ea : acc.toList = as.map fun b => Value.ref b.1 := by
    have e1 : acc.toList = ks.map fun x => Value.ref x.2.1 := by
      have len : acc.toList.length = ks.length := by rw [Array.length_toList, it.1, l0]
      refine List.ext_getElem (by rw [List.length_map, len]) fun j j1 j2 => ?_
      obtain ⟨en, hen, hv⟩ := it.2 j acc.toList[j] (by rw [← Array.getElem?_toList, List.getElem?_eq_getElem j1])
      have at_j := entry_at he j
      rw [hen, List.getElem?_eq_getElem (len ▸ j1)] at at_j
      have e2 : en = entryOfKey (tupleKind (mixKind X.prog X.w)) (ks[j]'(len ▸ j1)) := Option.some.inj at_j
      rw [hv, e2, List.getElem_map]
      rfl
    rw [e1]
    have e3 := congrArg (List.map Value.ref) a1
    rw [List.map_map, List.map_map] at e3
    exact e3.symm
  have len : acc.toList.length = as.length := by rw [ea, List.length_map]
  have I1 : Inv X pins σ H { s with heap := h1, toks := tk } := I.kept keep
  refine wpAny_bind (wpAny_newList ?_ (by rw [len, l2]; exact fits))
  have at_p : (h1.push (seqObj "list" acc.toList.toArray 0)).get? h1.objs.size = some (seqObj "list" acc.toList.toArray 0) := Heap.get?_push_size _ rfl
  have old : ∀ b u, h1.get? b = some u → b ≠ h1.objs.size ∧ (h1.push (seqObj "list" acc.toList.toArray 0)).get? b = some u := fun b u e => ⟨Nat.ne_of_lt (Heap.lt_size e), Heap.get?_push_of_some _ e⟩
  have each : EachIs (fun v (b : Addr × List Int) => v = Value.ref b.1 ∧ True) acc.toList as := by
    have vr : Vals (as.map fun b => V.ref b.1) acc.toList := by
      rw [ea]
      clear ea a1 a2 a3 l2 len q it
      induction as with
      | nil => exact .nil
      | cons b as ih => exact .cons rfl ih
    exact vals_each (h := s.heap) (K := X.K) (H := H) (P := fun _ => True) vr fun _ _ => trivial
  obtain ⟨hS, ehS⟩ : ∃ z, z = sortingHeap (h1.push (seqObj "list" acc.toList.toArray 0)) h1.objs.size acc.toList := ⟨_, rfl⟩
  have reads : EachIs (fun v (b : Addr × List Int) => ∃ rs, Reads hS v (PyData.tuple (b.2.map .int)) rs) acc.toList as := by
    have each2 : EachIs (fun v (b : Addr × List Int) => v = Value.ref b.1 ∧ H b.1 = some (.tup (b.2.map V.int))) acc.toList as := by
      have vr : Vals (as.map fun b => V.ref b.1) acc.toList := each_back each
      exact vals_each (h := s.heap) (K := X.K) (H := H) vr a3
    refine each_mono each2 fun v b ⟨ev, hb⟩ => ?_
    rw [ev]
    obtain ⟨rs, rr⟩ := Dp.reads I1 (PyData.tuple (b.2.map .int)) (.ref b.1) (.ref b.1) (.tup (SqT.of hb) (rows_dp b.2)) rfl
    refine ⟨rs, PyProof.Rows.Reads.keeps (fun c u e => ?_) rr⟩
    rw [ehS]
    obtain ⟨n1, n2⟩ := old c u e
    exact sortingHeap_old n1 n2
  have alikeAll_ : AllAlike (as.map fun b => PyData.tuple (b.2.map .int)) := AllAlike.of enc_alikeT
  have sortable : Sortable (as.map fun b => PyData.tuple (b.2.map .int)) := .inl fun dd hm => by
    obtain ⟨b, hb, rfl⟩ := List.mem_map.mp hm
    have mem : b.2 ∈ bs := a2 ▸ List.mem_map.mpr ⟨b, hb, rfl⟩
    cases e : b.2 with
    | nil => exact absurd e (hne _ mem)
    | cons x l => exact ⟨_, _, rfl⟩
  have shallow : ∀ dd ∈ as.map (fun b => PyData.tuple (b.2.map .int)), dd.depth = 1 := fun dd hm => by
    obtain ⟨b, _, rfl⟩ := List.mem_map.mp hm
    simp only [PyData.depth, depth_ints]
  show wpAny _ _ _ _ _ { s with heap := h1.push (seqObj "list" acc.toList.toArray 0), toks := tk }
  have sorts : ∀ Ar : Around, Ar.units ≤ X.A.units + 8 → SortsAt X.prog X.w Ar { s with heap := hS, toks := tk } (dataKind hS (as.map fun b => PyData.tuple (b.2.map .int))) acc.toList := fun Ar hA =>
    SortsAt.data (s := { s with heap := hS, toks := tk }) (each_map (R := fun v dd => ∃ rs, Reads hS v dd rs) (fun b : Addr × List Int => PyData.tuple (b.2.map .int)) reads) alikeAll_ sortable fun dd hm => by rw [shallow dd hm]; omega
  rw [ehS] at sorts reads
  have each3 := sortVals_data (R := fun v (b : Addr × List Int) => v = Value.ref b.1 ∧ True) (enc := fun b : Addr × List Int => PyData.tuple (b.2.map .int)) false each reads alikeAll_
  rw [le_tuples] at each3
  have back := each_back each3
  have short : ((as.mergeSort rowLe).map fun b => V.ref b.1).length ≤ sizeLine := by
    rw [List.length_map, List.length_mergeSort, l2]
    exact fits
  refine wpAny_bind (wpAny_holding (wpAny_call_entry PyProof.Rows.slot_list_sort ⟨_, at_p, rfl⟩ PyProof.Rows.entry_list_sort
    (list_sort_vals (s := { s with heap := h1.push (seqObj "list" acc.toList.toArray 0), toks := tk }) at_p (sorts _ (by show X.A.units + 1 + 1 ≤ X.A.units + 8; omega)) (by rw [len, l2]; exact fits) ⟨_, rfl, ?_⟩) (PyProof.Rows.args_list_sort _)))
  obtain ⟨n2, at2⟩ := PyProof.Rows.sortedHeap_at (vs := acc.toList) (out := (sortVals (dataKind (sortingHeap (h1.push (seqObj "list" acc.toList.toArray 0)) h1.objs.size acc.toList) (as.map fun b => PyData.tuple (b.2.map .int))) false acc.toList acc.toList).toArray) at_p
  refine wpAny_pure ⟨_, rfl, .ref h1.objs.size, upd H h1.objs.size (.lst ((as.mergeSort rowLe).map fun b => V.ref b.1)), I1.laid (t' := tk) (fun b u e => ?_) (Nat.le_refl _) ⟨short, _, n2, back, at2⟩, rfl, q as a2 a3 _ (I1.hok.fresh (Nat.le_refl _))⟩
  obtain ⟨n1, g⟩ := old b u e
  rw [PyProof.Rows.sortedHeap_old n1 (Heap.lt_size g)]
  exact g
end
end SortR

/-! Comprehensions with a test, and dict comprehensions, by the value of each turn. -/
namespace LcM
open PySem PySem.Spec PyProof.Rows L2
/-- what is kept -/
def kept (p : Nat → Bool) (F : Nat → V) (n : Nat) : List V := ((List.range n).filter p).map F
theorem kept_yes {p : Nat → Bool} {F : Nat → V} {n : Nat} (h : p n = true) : kept p F (n + 1) = kept p F n ++ [F n] := by
  unfold kept
  rw [List.range_succ, List.filter_append, List.map_append, List.filter_cons_of_pos h]
  rfl
theorem kept_no {p : Nat → Bool} {F : Nat → V} {n : Nat} (h : p n = false) : kept p F (n + 1) = kept p F n := by
  unfold kept
  rw [List.range_succ, List.filter_append, List.map_append, List.filter_cons_of_neg (by rw [h]; exact Bool.false_ne_true)]
  exact List.append_nil _
theorem kept_le (p : Nat → Bool) (F : Nat → V) (n : Nat) : (kept p F n).length ≤ n := by
  unfold kept
  rw [List.length_map]
  exact Nat.le_trans (List.length_filter_le _ _) (Nat.le_of_eq List.length_range)
section
variable {K : PySem.W.Frag} {a : Addr} {xs : List V} {g : TG} {tt : TT} {te tk tv : TE} {vs : List Nat} {σ : L2.St} {H0 : Hp} {D : Addr} {Qd : Hp → Prop}
theorem lc_listT (p : Nat → Bool) (F : Nat → V) (hD : H0 D = none) (hx : SqL K H0 a xs) (small : xs.length ≤ 1000000)
    (turn : ∀ (i : Nat) (x : V) (H : Hp) (Ry : V → Hp → Prop) (Rn : Hp → Prop), xs[i]? = some x → Grows H0 H → (p i = true → ∀ H4, Grows H H4 → Ry (F i) H4) → (p i = false → ∀ H4, Grows H H4 → Rn H4) →
      g x (wipe σ vs) H fun σ2 H2 => wipe σ2 vs = wipe σ vs ∧ tt σ2 H2 fun t H3 => if t = true then te σ2 H3 Ry else Rn H3)
    (done : ∀ H, Grows H0 H → H D = some (.lst (kept p F xs.length)) → Qd H) :
    ∃ W : Nat → Nat → Hp → Prop, (∃ m, W 0 m (upd H0 D (.lst []))) ∧ ∀ i m H, W i m H →
      ((Itl K a).stop i H ∧ Qd H) ∨ ((Itl K a).go i H ∧ ∃ Nx : Hp → Prop, (∀ H', Nx H' → ∃ m', m' < m ∧ W (i + 1) m' H') ∧ ∀ x H', (Itl K a).yld i H x H' → g x (wipe σ vs) H' fun σ2 H2 => wipe σ2 vs = wipe σ vs ∧ tt σ2 H2 fun b H3 =>
        if b = true then te σ2 H3 fun y H4 => ∃ acc, H4 D = some (.lst acc) ∧ acc.length < sizeLine ∧ Nx (upd H4 D (.lst (acc ++ [y]))) else Nx H3) := by
  refine lc_list (fun i H => Grows H0 H ∧ H D = some (.lst (kept p F i))) ⟨Grows.new hD, upd_same⟩ (fun i H _ m => m.1.seq hx) (fun i x H ex m => ?_) fun H m => done H m.1 m.2
  have il := Nat.lt_of_lt_of_le (List.getElem?_eq_some_iff.mp ex).1 small
  refine turn i x H _ _ ex m.1 (fun hp H4 s => ⟨_, s _ _ m.2, ?_, fun b o e => ?_, ?_⟩) fun hp H4 s => ⟨m.1.trans s, ?_⟩
  · exact Nat.lt_of_le_of_lt (kept_le p F i) (Nat.lt_trans il (by decide))
  · rw [upd_ne (ne_of_none e hD)]
    exact s _ _ (m.1 _ _ e)
  · rw [upd_same, kept_yes hp]
  · rw [kept_no hp]
    exact s _ _ m.2
/-- a dict's entries, laid one after another -/
def laid {κ : Type} [DecidableEq κ] (p : Nat → Bool) (G : Nat → κ) (F : Nat → V) : Nat → List (κ × V)
  | 0 => []
  | n + 1 => if p n = true then putK (laid p G F n) (G n) (F n) else laid p G F n
theorem laid_le {κ : Type} [DecidableEq κ] (p : Nat → Bool) (G : Nat → κ) (F : Nat → V) : ∀ n, (laid p G F n).length ≤ n
  | 0 => Nat.le_refl _
  | n + 1 => by
    have ih := laid_le p G F n
    unfold laid
    by_cases h : p n = true
    · rw [if_pos h]
      exact Nat.le_trans (length_putK _ _ _) (Nat.succ_le_succ ih)
    · rw [if_neg h]
      exact Nat.le_succ_of_le ih
/-- over enumerate, keys ints or texts, no test -/
theorem dc_enumM (G : Nat → L2.Key) (F : Nat → V) (hD : H0 D = none) (hx : SqL K H0 a xs) (small : xs.length ≤ 1000000)
    (turn : ∀ (i : Nat) (x : V) (T : Addr) (H : Hp) (R : V → Hp → V → Hp → Prop), xs[i]? = some x → Grows H0 H → H T = none → (∀ H4 H5, Grows (upd H T (.tup [.int (i : Nat), x])) H4 → Grows H4 H5 → R (kV (G i)) H4 (F i) H5) →
      g (.ref T) (wipe σ vs) (upd H T (.tup [.int (i : Nat), x])) fun σ2 H2 => wipe σ2 vs = wipe σ vs ∧ tk σ2 H2 fun y H4 => tv σ2 H4 fun z H5 => R y H4 z H5)
    (done : ∀ H, Grows H0 H → H D = some (.dK (laid (fun _ => true) G F xs.length)) → Qd H) :
    ∃ W : Nat → Nat → Hp → Prop, (∃ m, W 0 m (upd H0 D (.dK []))) ∧ ∀ i m H, W i m H →
      ((Ite K a).stop i H ∧ Qd H) ∨ ((Ite K a).go i H ∧ ∃ Nx : Hp → Prop, (∀ H', Nx H' → ∃ m', m' < m ∧ W (i + 1) m' H') ∧ ∀ x H', (Ite K a).yld i H x H' → g x (wipe σ vs) H' fun σ2 H2 => wipe σ2 vs = wipe σ vs ∧ tYes σ2 H2 fun b H3 =>
        if b = true then tk σ2 H3 fun y H4 => tv σ2 H4 fun z H5 => ∃ kvs k, y = kV k ∧ H5 D = some (.dK kvs) ∧ kvs.length < sizeLine ∧ Nx (upd H5 D (.dK (putK kvs k z))) else Nx H3) := by
  let inv : Nat → Hp → Prop := fun i H => Grows H0 H ∧ H D = some (.dK (laid (fun _ => true) G F i))
  refine ⟨fun i m H => m = xs.length - i ∧ i ≤ xs.length ∧ inv i H, ⟨_, rfl, Nat.zero_le _, Grows.new hD, upd_same⟩, ?_⟩
  rintro i m H ⟨rfl, hi, pv⟩
  rcases Nat.lt_or_ge i xs.length with lt | ge
  · have ex : xs[i]? = some xs[i] := List.getElem?_eq_getElem lt
    refine .inr ⟨⟨xs, _, pv.1.seq hx, ex⟩, inv (i + 1), fun H' p' => ⟨xs.length - (i + 1), by omega, rfl, lt, p'⟩, fun v H' y => ?_⟩
    obtain ⟨T, x, rfl, hT, rfl, f1⟩ := y
    have e0 : (fun (σ2 : L2.St) (H2 : Hp) => wipe σ2 vs = wipe σ vs ∧ tYes σ2 H2 fun b H3 => if b = true then tk σ2 H3 fun y H4 => tv σ2 H4 fun z H5 => ∃ kvs k, y = kV k ∧ H5 D = some (.dK kvs) ∧ kvs.length < sizeLine ∧ inv (i + 1) (upd H5 D (.dK (putK kvs k z))) else inv (i + 1) H3) =
        fun σ2 H2 => wipe σ2 vs = wipe σ vs ∧ tk σ2 H2 fun y H4 => tv σ2 H4 fun z H5 => ∃ kvs k, y = kV k ∧ H5 D = some (.dK kvs) ∧ kvs.length < sizeLine ∧ inv (i + 1) (upd H5 D (.dK (putK kvs k z))) := by
      funext σ2 H2
      unfold tYes
      dsimp only
      rw [if_pos rfl]
    rw [e0]
    refine turn i x T H (fun y _ z H5 => ∃ kvs k, y = kV k ∧ H5 D = some (.dK kvs) ∧ kvs.length < sizeLine ∧ inv (i + 1) (upd H5 D (.dK (putK kvs k z)))) (f1 xs (pv.1.seq hx)) pv.1 hT fun H4 H5 s4 s5 => ⟨_, G i, rfl, s5 _ _ (s4 _ _ (Grows.new hT _ _ pv.2)), ?_, fun b o e => ?_, ?_⟩
    · exact Nat.lt_of_le_of_lt (laid_le _ G F i) (Nat.lt_of_lt_of_le lt (Nat.le_trans small (by decide)))
    · rw [upd_ne (ne_of_none e hD)]
      exact s5 _ _ (s4 _ _ (Grows.new hT _ _ (pv.1 _ _ e)))
    · rw [upd_same]
      rfl
  · have e : i = xs.length := by omega
    subst e
    exact .inl ⟨⟨xs, pv.1.seq hx, Nat.le_refl _⟩, done H pv.1 pv.2⟩
/-- over a list, the keys tuples, with a test -/
theorem dc_listTT (p : Nat → Bool) (G : Nat → List L2.Key) (F : Nat → V) (hD : H0 D = none) (hx : SqL K H0 a xs) (small : xs.length ≤ 1000000)
    (turn : ∀ (i : Nat) (x : V) (H : Hp) (R : V → V → Hp → Prop) (Rn : Hp → Prop), xs[i]? = some x → Grows H0 H → (p i = true → ∀ b H5, Grows H H5 → H5 b = some (.tup ((G i).map kV)) → R (.ref b) (F i) H5) → (p i = false → ∀ H4, Grows H H4 → Rn H4) →
      g x (wipe σ vs) H fun σ2 H2 => wipe σ2 vs = wipe σ vs ∧ tt σ2 H2 fun t H3 => if t = true then tk σ2 H3 fun y H4 => tv σ2 H4 fun z H5 => R y z H5 else Rn H3)
    (done : ∀ H, Grows H0 H → H D = some (.dT (laid p G F xs.length)) → Qd H) :
    ∃ W : Nat → Nat → Hp → Prop, (∃ m, W 0 m (upd H0 D (.dT []))) ∧ ∀ i m H, W i m H →
      ((Itl K a).stop i H ∧ Qd H) ∨ ((Itl K a).go i H ∧ ∃ Nx : Hp → Prop, (∀ H', Nx H' → ∃ m', m' < m ∧ W (i + 1) m' H') ∧ ∀ x H', (Itl K a).yld i H x H' → g x (wipe σ vs) H' fun σ2 H2 => wipe σ2 vs = wipe σ vs ∧ tt σ2 H2 fun t H3 =>
        if t = true then tk σ2 H3 fun y H4 => tv σ2 H4 fun z H5 => ∃ b kvs k, y = .ref b ∧ H5 b = some (.tup (k.map kV)) ∧ H5 D = some (.dT kvs) ∧ kvs.length < sizeLine ∧ Nx (upd H5 D (.dT (putK kvs k z))) else Nx H3) := by
  let inv : Nat → Hp → Prop := fun i H => Grows H0 H ∧ H D = some (.dT (laid p G F i))
  refine ⟨fun i m H => m = xs.length - i ∧ i ≤ xs.length ∧ inv i H, ⟨_, rfl, Nat.zero_le _, Grows.new hD, upd_same⟩, ?_⟩
  rintro i m H ⟨rfl, hi, pv⟩
  rcases Nat.lt_or_ge i xs.length with lt | ge
  · have ex : xs[i]? = some xs[i] := List.getElem?_eq_getElem lt
    refine .inr ⟨⟨xs, _, pv.1.seq hx, ex⟩, inv (i + 1), fun H' p' => ⟨xs.length - (i + 1), by omega, rfl, lt, p'⟩, fun v H' y => ?_⟩
    obtain ⟨rfl, y⟩ := y
    refine turn i v _ (fun y z H5 => ∃ b kvs k, y = .ref b ∧ H5 b = some (.tup (k.map kV)) ∧ H5 D = some (.dT kvs) ∧ kvs.length < sizeLine ∧ inv (i + 1) (upd H5 D (.dT (putK kvs k z)))) (inv (i + 1)) (y xs (pv.1.seq hx)) pv.1 (fun hp b H5 s5 hb => ⟨b, _, G i, rfl, hb, s5 _ _ pv.2, ?_, fun c o e => ?_, ?_⟩) fun hp H4 s4 => ⟨pv.1.trans s4, ?_⟩
    · exact Nat.lt_of_le_of_lt (laid_le _ G F i) (Nat.lt_of_lt_of_le lt (Nat.le_trans small (by decide)))
    · rw [upd_ne (ne_of_none e hD)]
      exact s5 _ _ (pv.1 _ _ e)
    · rw [upd_same]
      show _ = some (HO.dT (if p i = true then _ else _))
      rw [if_pos hp]
    · rw [s4 _ _ pv.2]
      show _ = some (HO.dT (if p i = true then _ else _))
      rw [if_neg (by rw [hp]; exact Bool.false_ne_true)]
  · have e : i = xs.length := by omega
    subst e
    exact .inl ⟨⟨xs, pv.1.seq hx, Nat.le_refl _⟩, done H pv.1 pv.2⟩
end
end LcM

/-! A comprehension that makes new lists of ints. -/
namespace LcM
open PySem PySem.Spec PyProof.Rows L2
/-- new lists of ints -/
structure Nw (H0 H : Hp) (cs : List (Addr × List Int)) : Prop where
  lists : ∀ c ∈ cs, H c.1 = some (.lst (c.2.map V.int))
  new : ∀ c ∈ cs, H0 c.1 = none
  nodup : (cs.map (·.1)).Nodup
theorem Nw.keep {H0 H H' : Hp} {cs : List (Addr × List Int)} (n : Nw H0 H cs) (s : Grows H H') : Nw H0 H' cs := ⟨fun c m => s _ _ (n.lists c m), n.new, n.nodup⟩
section
variable {K : PySem.W.Frag} {a : Addr} {xs : List V} {g : TG} {te : TE} {vs : List Nat} {σ : L2.St} {H0 : Hp} {D : Addr} {Qd : Hp → Prop}
theorem lc_listR (R : Nat → List Int) (hD : H0 D = none) (hx : SqL K H0 a xs) (small : xs.length ≤ 1000000)
    (turn : ∀ (i : Nat) (x : V) (H : Hp) (Rk : V → Hp → Prop), xs[i]? = some x → Grows H0 H → (∀ q H4, Grows H H4 → H q = none → H4 q = some (.lst ((R i).map V.int)) → Rk (.ref q) H4) → g x (wipe σ vs) H fun σ2 H2 => wipe σ2 vs = wipe σ vs ∧ te σ2 H2 Rk)
    (done : ∀ H cs, Grows H0 H → cs.map (·.2) = (List.range xs.length).map R → Nw H0 H cs → (∀ c ∈ cs, c.1 ≠ D) → H D = some (.lst (cs.map fun c => V.ref c.1)) → Qd H) :
    ∃ W : Nat → Nat → Hp → Prop, (∃ m, W 0 m (upd H0 D (.lst []))) ∧ ∀ i m H, W i m H →
      ((Itl K a).stop i H ∧ Qd H) ∨ ((Itl K a).go i H ∧ ∃ Nx : Hp → Prop, (∀ H', Nx H' → ∃ m', m' < m ∧ W (i + 1) m' H') ∧ ∀ x H', (Itl K a).yld i H x H' → g x (wipe σ vs) H' fun σ2 H2 => wipe σ2 vs = wipe σ vs ∧ tYes σ2 H2 fun b H3 =>
        if b = true then te σ2 H3 fun y H4 => ∃ acc, H4 D = some (.lst acc) ∧ acc.length < sizeLine ∧ Nx (upd H4 D (.lst (acc ++ [y]))) else Nx H3) := by
  refine lc_list (fun i H => ∃ cs : List (Addr × List Int), Grows H0 H ∧ cs.map (·.2) = (List.range i).map R ∧ Nw H0 H cs ∧ (∀ c ∈ cs, c.1 ≠ D) ∧ H D = some (.lst (cs.map fun c => V.ref c.1)))
    ⟨[], Grows.new hD, rfl, ⟨(fun _ m => nomatch m), (fun _ m => nomatch m), List.Pairwise.nil⟩, (fun _ m => nomatch m), upd_same⟩ (fun i H _ ⟨_, s, _⟩ => s.seq hx) (fun i x H ex ⟨cs, s, e, n, apart, top⟩ => ?_) fun H ⟨cs, s, e, n, apart, top⟩ => done H cs s e n apart top
  rw [yes_eq (A := fun σ2 => wipe σ2 vs = wipe σ vs)]
  refine turn i x H _ ex s fun q H4 s4 hq at_q => ?_
  have il := Nat.lt_of_lt_of_le (List.getElem?_eq_some_iff.mp ex).1 small
  have len : cs.length = i := by
    have := congrArg List.length e
    rw [List.length_map, List.length_map, List.length_range] at this
    exact this
  have qD : q ≠ D := fun z => by
    rw [z, top] at hq
    cases hq
  have all : Grows H0 (upd H4 D (.lst (cs.map (fun c => V.ref c.1) ++ [.ref q]))) := fun b o eb => by
    rw [upd_ne (ne_of_none eb hD)]
    exact s4 _ _ (s _ _ eb)
  have q0 : H0 q = none := by
    rcases Option.eq_none_or_eq_some (H0 q) with z | ⟨o, z⟩
    · exact z
    · have := s _ _ z
      rw [hq] at this
      cases this
  refine ⟨_, s4 _ _ top, ?_, cs ++ [(q, R i)], all, ?_, ⟨?_, ?_, ?_⟩, ?_, ?_⟩
  · rw [List.length_map, len]
    exact Nat.lt_trans il (by decide)
  · rw [List.map_append, e, List.range_succ, List.map_append]
    rfl
  · intro c m
    rcases List.mem_append.mp m with m | m
    · rw [upd_ne (apart c m)]
      exact s4 _ _ (n.lists c m)
    · rw [List.mem_singleton.mp m, upd_ne qD]
      exact at_q
  · intro c m
    rcases List.mem_append.mp m with m | m
    · exact n.new c m
    · rw [List.mem_singleton.mp m]
      exact q0
  · rw [List.map_append, List.nodup_append]
    refine ⟨n.nodup, List.nodup_cons.mpr ⟨(fun z => nomatch z), List.Pairwise.nil⟩, fun b mb d md => ?_⟩
    obtain ⟨c, mc, rfl⟩ := List.mem_map.mp mb
    have ed : d = q := by simpa using md
    rw [ed]
    intro z
    have := n.lists c mc
    rw [z, hq] at this
    cases this
  · intro c m
    rcases List.mem_append.mp m with m | m
    · exact apart c m
    · rw [List.mem_singleton.mp m]
      exact qD
  · rw [upd_same, List.map_append]
    rfl
end
end LcM

/-! Rules with their readings named by K, for use within comprehensions. -/
namespace LcM
open PySem PySem.Spec PyProof.Rows L2
def rLenS (K : PySem.W.Frag) : List V → Hp → VK → Prop := fun xs H Q => ∃ p ys, xs = [.ref p] ∧ (SqL K H p ys ∨ SqT K H p ys) ∧ Q (.int ys.length) H
def rLst (K : PySem.W.Frag) : List V → Hp → VK → Prop := fun xs H Q => ∃ p ys, xs = [.ref p] ∧ (SqL K H p ys ∨ SqT K H p ys) ∧ ∀ l, H l = none → Q (.ref l) (upd H l (.lst ys))
def rTup (K : PySem.W.Frag) : List V → Hp → VK → Prop := fun xs H Q => ∃ p ys, xs = [.ref p] ∧ SqL K H p ys ∧ ∀ t, H t = none → Q (.ref t) (upd H t (.tup ys))
section
variable {X : Cx}
theorem call_lenK : CallR X (.builtin "len") (rLenS X.K) := fun pins s σ H xs us Q I r ⟨p, ys, e, h, q⟩ => call_len_seq pins s σ H xs us Q I r ⟨p, ys, e, h, q⟩
theorem call_lstK : CallR X (.type "list") (rLst X.K) := fun pins s σ H xs us Q I r ⟨p, ys, e, h, q⟩ => call_list_of pins s σ H xs us Q I r ⟨p, ys, e, h, q⟩
theorem call_tupK : CallR X (.type "tuple") (rTup X.K) := fun pins s σ H xs us Q I r ⟨p, ys, e, h, q⟩ => call_tuple_of pins s σ H xs us Q I r ⟨p, ys, e, .inl ⟨h, q⟩⟩
end
end LcM

/-! What cut gives, on lists of lists of ints. -/
namespace LcM
open PySem PySem.Spec PyProof.Rows L2 SortR
/-- the last place of x among the first n -/
def plcN (ns : List Int) (x : Int) : Nat → Option Nat
  | 0 => none
  | n + 1 => if ns.getD n 0 = x then some n else plcN ns x n
def plc (ns : List Int) (x : Int) : Option Nat := plcN ns x ns.length
theorem valV_laid (ns : List Int) (x : Int) : ∀ n, valV (laid (fun _ => true) (fun i => (Sum.inl (ns.getD i 0) : L2.Key)) (fun i => V.int (i : Nat)) n) (Sum.inl x) = (plcN ns x n).map fun j => V.int (j : Nat)
  | 0 => rfl
  | n + 1 => by
    have ih := valV_laid ns x n
    unfold laid plcN
    rw [if_pos rfl, valV_put]
    by_cases e : ns.getD n 0 = x
    · rw [if_pos e, if_pos (by rw [e])]
      rfl
    · rw [if_neg e, if_neg (fun z => e (Sum.inl.inj z).symm)]
      exact ih
/-- a group's persons who stay, by their places -/
def meet (ns r : List Int) : List Int := ((List.range r.length).filter fun i => (plc ns (r.getD i 0)).isSome).map fun i => (((plc ns (r.getD i 0)).getD 0 : Nat) : Int)
def two (m : List Int) : Bool := decide (2 ≤ (m.length : Int))
/-- unlike rows, in the sequence in which they come first -/
def firsts (p : Nat → Bool) (M : Nat → List Int) : Nat → List (List Int)
  | 0 => []
  | n + 1 => if p n = true then (if M n ∈ firsts p M n then firsts p M n else firsts p M n ++ [M n]) else firsts p M n
theorem put_keys {κ : Type} [DecidableEq κ] (kvs : List (κ × V)) (k : κ) (v : V) : (putK kvs k v).map (·.1) = if k ∈ kvs.map (·.1) then kvs.map (·.1) else kvs.map (·.1) ++ [k] := by
  unfold putK
  by_cases h : (kvs.any fun kv => decide (kv.1 = k)) = true
  · rw [if_pos h]
    obtain ⟨kv, hm, e⟩ := List.any_eq_true.mp h
    rw [if_pos (List.mem_map.mpr ⟨kv, hm, of_decide_eq_true e⟩), List.map_map]
    refine List.map_congr_left fun q _ => ?_
    show (if q.1 = k then (q.1, v) else q).1 = q.1
    split <;> rfl
  · rw [if_neg h, if_neg fun z => ?_, List.map_append]
    · rfl
    · obtain ⟨kv, hm, e⟩ := List.mem_map.mp z
      exact h (List.any_eq_true.mpr ⟨kv, hm, decide_eq_true e⟩)
theorem inl_inj {m n : List Int} (h : (m.map Sum.inl : List L2.Key) = n.map Sum.inl) : m = n := by
  induction m generalizing n with
  | nil =>
    cases n with
    | nil => rfl
    | cons _ _ => cases h
  | cons x m ih =>
    cases n with
    | nil => cases h
    | cons y n =>
      rw [List.map_cons, List.map_cons] at h
      obtain ⟨h1, h2⟩ := List.cons.inj h
      rw [Sum.inl.inj h1, ih h2]
theorem keys_laid (p : Nat → Bool) (M : Nat → List Int) (F : Nat → V) : ∀ n, (laid p (fun i => ((M i).map Sum.inl : List L2.Key)) F n).map (·.1) = (firsts p M n).map fun m => m.map Sum.inl
  | 0 => rfl
  | n + 1 => by
    have ih := keys_laid p M F n
    unfold laid firsts
    by_cases h : p n = true
    · rw [if_pos h, if_pos h, put_keys, ih]
      by_cases m : M n ∈ firsts p M n
      · rw [if_pos m, if_pos (List.mem_map.mpr ⟨_, m, rfl⟩)]
      · rw [if_neg m, if_neg fun z => ?_, List.map_append]
        · rfl
        · obtain ⟨r, hr, e⟩ := List.mem_map.mp z
          rw [inl_inj e] at hr
          exact m hr
    · rw [if_neg h, if_neg h]
      exact ih
theorem firsts_of (p : Nat → Bool) (M : Nat → List Int) : ∀ n, ∀ r ∈ firsts p M n, ∃ i, i < n ∧ p i = true ∧ r = M i
  | 0, _, h => nomatch h
  | n + 1, r, h => by
    have ih := firsts_of p M n r
    unfold firsts at h
    have old : r ∈ firsts p M n → ∃ i, i < n + 1 ∧ p i = true ∧ r = M i := fun z => let ⟨i, a, b, c⟩ := ih z; ⟨i, Nat.lt_succ_of_lt a, b, c⟩
    by_cases hp : p n = true
    · rw [if_pos hp] at h
      split at h
      · exact old h
      · rcases List.mem_append.mp h with z | z
        · exact old z
        · exact ⟨n, Nat.lt_succ_self n, hp, List.mem_singleton.mp z⟩
    · rw [if_neg hp] at h
      exact old h
theorem firsts_le (p : Nat → Bool) (M : Nat → List Int) : ∀ n, (firsts p M n).length ≤ n
  | 0 => Nat.le_refl _
  | n + 1 => by
    have ih := firsts_le p M n
    unfold firsts
    split
    · split
      · omega
      · rw [List.length_append, List.length_singleton]
        omega
    · omega
def cutR (rs : List (List Int)) (ns : List Int) : List (List Int) := (firsts (fun i => two (meet ns (rs.getD i []))) (fun i => meet ns (rs.getD i [])) rs.length).mergeSort fun p q => decide (p ≤ q)
theorem sort_rows (as : List (Addr × List Int)) : (as.mergeSort rowLe).map (·.2) = (as.map (·.2)).mergeSort fun p q => decide (p ≤ q) := List.map_mergeSort fun _ _ _ _ => rfl
end LcM

/-! Lists of ints and lists of such, as data. -/
namespace LcM
open PySem PySem.Spec PyProof.Rows L2 SortR
theorem eqvAll_ints : ∀ ns ms : List Int, PyData.eqvAll (ns.map .int) (ms.map .int) = decide (ns = ms)
  | [], [] => by
    simp only [List.map_nil, PyData.eqvAll]
    exact (decide_eq_true (rfl : ([] : List Int) = [])).symm
  | x :: ns, y :: ms => by
    rw [List.map_cons, List.map_cons, PyData.eqvAll, eqvAll_ints ns ms, PyData.eqv]
    by_cases e : x = y
    · rw [e, beq_self_eq_true, Bool.true_and]
      by_cases e2 : ns = ms
      · rw [decide_eq_true e2, decide_eq_true (by rw [e2])]
      · rw [decide_eq_false e2, decide_eq_false fun z => e2 (List.cons.inj z).2]
    · rw [beq_eq_false_iff_ne.mpr e, Bool.false_and, decide_eq_false fun z => e (List.cons.inj z).1]
  | [], _ :: _ => by
    rw [List.map_nil, List.map_cons, PyData.eqvAll]
    exact (decide_eq_false fun z => nomatch z).symm
  | _ :: _, [] => by
    rw [List.map_nil, List.map_cons, PyData.eqvAll]
    exact (decide_eq_false fun z => nomatch z).symm
theorem eqv_ints (ns ms : List Int) : PyData.eqv (PyData.list (ns.map .int)) (PyData.list (ms.map .int)) = decide (ns = ms) := by
  rw [PyData.eqv]
  exact eqvAll_ints ns ms
theorem eqvAll_rows : ∀ rs qs : List (List Int), PyData.eqvAll (rs.map fun r => .list (r.map .int)) (qs.map fun r => .list (r.map .int)) = decide (rs = qs)
  | [], [] => by
    simp only [List.map_nil, PyData.eqvAll]
    exact (decide_eq_true (rfl : ([] : List (List Int)) = [])).symm
  | x :: ns, y :: ms => by
    rw [List.map_cons, List.map_cons, PyData.eqvAll, eqvAll_rows ns ms, eqv_ints]
    by_cases e : x = y
    · rw [decide_eq_true e, Bool.true_and]
      by_cases e2 : ns = ms
      · rw [decide_eq_true e2, decide_eq_true (by rw [e, e2])]
      · rw [decide_eq_false e2, decide_eq_false fun z => e2 (List.cons.inj z).2]
    · rw [decide_eq_false e, Bool.false_and, decide_eq_false fun z => e (List.cons.inj z).1]
  | [], _ :: _ => by
    rw [List.map_nil, List.map_cons, PyData.eqvAll]
    exact (decide_eq_false fun z => nomatch z).symm
  | _ :: _, [] => by
    rw [List.map_nil, List.map_cons, PyData.eqvAll]
    exact (decide_eq_false fun z => nomatch z).symm
theorem eqv_rows (rs qs : List (List Int)) : PyData.eqv (PyData.list (rs.map fun r => .list (r.map .int))) (PyData.list (qs.map fun r => .list (r.map .int))) = decide (rs = qs) := by
  rw [PyData.eqv]
  exact eqvAll_rows rs qs
theorem lay_ints : ∀ ns : List Int, PyData.canLayAll0 (ns.map .int) = true
  | [] => by simp only [List.map_nil, PyData.canLayAll0]
  | n :: ns => by simp only [List.map_cons, PyData.canLayAll0, PyData.canLay0, lay_ints ns, Bool.and_self]
theorem lay_rows : ∀ rs : List (List Int), PyData.canLayAll0 (rs.map fun r => .list (r.map .int)) = true
  | [] => by simp only [List.map_nil, PyData.canLayAll0]
  | r :: rs => by simp only [List.map_cons, PyData.canLayAll0, PyData.canLay0, lay_ints r, lay_rows rs, Bool.and_self]
theorem depth_rows : ∀ rs : List (List Int), PyData.depthAll (rs.map fun r => .list (r.map .int)) ≤ 1
  | [] => by simp only [List.map_nil, PyData.depthAll]; omega
  | r :: rs => by
    have := depth_rows rs
    simp only [List.map_cons, PyData.depthAll, PyData.depth, PySem.W.depth_ints]
    omega
theorem shaped_ints (ns : List Int) : SeqAt.shaped (PyData.list (ns.map .int)) = true := by
  unfold SeqAt.shaped
  simp only [PyData.canLay0, lay_ints, PyData.depth, PySem.W.depth_ints]
  decide
theorem shaped_rows (rs : List (List Int)) : SeqAt.shaped (PyData.list (rs.map fun r => .list (r.map .int))) = true := by
  have d := depth_rows rs
  have e : (PyData.list (rs.map fun r => .list (r.map .int))).depth ≤ 64 := by
    simp only [PyData.depth]
    omega
  unfold SeqAt.shaped
  rw [decide_eq_true e, Bool.and_true]
  simp only [PyData.canLay0, lay_rows]
/-- lists of lists as data -/
theorem rows_data {K : PySem.W.Frag} {H : Hp} : ∀ {bs : List (Addr × List Int)}, (∀ b ∈ bs, SqL K H b.1 (b.2.map V.int)) → DpAll K H (bs.map fun b => V.ref b.1) ((bs.map (·.2)).map fun r => .list (r.map .int))
  | [], _ => .nil
  | b :: bs, h => .cons (.lst (h b List.mem_cons_self) (rows_dp b.2)) (rows_data fun c m => h c (List.mem_cons_of_mem _ m))
end LcM

/-! sorted(xs), xs ints, THE sorted list. -/
namespace SortR
open PySem PySem.Spec PyProof.Rows L2 PySem.W
def intLe (p q : Int) : Bool := decide (p ≤ q)
theorem ints_each {h : Heap} : ∀ {ns : List Int} {us : List Value}, Vals (ns.map V.int) us → EachIs (fun v (n : Int) => ∃ t, v = Value.int n t) us ns
  | [], _, .nil => .nil
  | _ :: _, _, .cons h1 h2 => .cons h1 (ints_each (h := h) h2)
theorem each_ints : ∀ {us : List Value} {ns : List Int}, EachIs (fun v (n : Int) => ∃ t, v = Value.int n t) us ns → Vals (ns.map V.int) us
  | _, _, .nil => .nil
  | _, _, .cons h t => .cons h (each_ints t)
section
variable {X : Cx}
theorem call_sortedInts (hu : X.A.units + 64 < cLine) : CallR X (.builtin "sorted") (fun xs H Q => ∃ (a : Addr) (ns : List Int), xs = [V.ref a] ∧ SqL X.K H a (ns.map V.int) ∧ ∀ p, H p = none → Q (.ref p) (upd H p (.lst ((ns.mergeSort intLe).map V.int)))) := by
  intro pins s σ H xs us Q I r h
  obtain ⟨a, ns, rfl, hs, q⟩ := h
  obtain ⟨u, rfl, ru⟩ := vals1 r
  obtain rfl : u = Value.ref a := ru
  obtain ⟨its, rv, hl, hz⟩ := I.list hs
  have each := ints_each (h := s.heap) rv
  have len : its.length = ns.length := by rw [← rv.length, List.length_map]
  have reads : EachIs (fun v (n : Int) => ∃ as, Reads s.heap v (PyData.int n) as) its ns := each_mono each fun v n ⟨t, e⟩ => by
    rw [e]
    exact ⟨_, Reads.int n t⟩
  have le : dataLe false (fun n : Int => PyData.int n) = intLe := dataLe_int fun n : Int => n
  refine sorted_data (enc := fun n : Int => PyData.int n) hl.isList each reads (AllAlike.of fun p q => by simp only [alike]) (Sortable.others fun b => ⟨(fun z => nomatch z), fun xs z => nomatch z⟩) (by rw [List.length_map] at hz; exact hz) (fun b _ => by
    have d : (PyData.int b).depth = 0 := by simp only [PyData.depth]
    rw [d]
    omega) fun out ho each3 => ?_
  rw [le] at each3
  have back := each_ints each3
  obtain ⟨n, hn⟩ := sortedAll_at s.heap its out.toArray
  refine ⟨.ref (s.heap.objs.size + 1), upd H (s.heap.objs.size + 1) (.lst ((ns.mergeSort intLe).map V.int)), I.laid (t' := s.toks) (fun b o e => sortedAll_old e) (Nat.le_succ _) ⟨?_, out, n, back, hn⟩, rfl, q _ (I.hok.fresh (Nat.le_succ _))⟩
  rw [List.length_map, List.length_mergeSort]
  rw [List.length_map] at hz
  exact hz
end
end SortR

/-! Comprehensions over a tuple or a list, each turn's value by a relation that lasts. -/
namespace LcM
open PySem PySem.Spec PyProof.Rows L2
/-- so far -/
structure Mx (H0 : Hp) (D : Addr) (Rel : Nat → V → Hp → Prop) (i : Nat) (H : Hp) (ys : List V) : Prop where
  grow : Grows H0 H
  top : H D = some (.lst ys)
  len : ys.length = i
  rel : ∀ j y, ys[j]? = some y → Rel j y H
theorem Mx.more {H0 H H4 : Hp} {D : Addr} {Rel : Nat → V → Hp → Prop} {i : Nat} {ys : List V} {y : V} (last : ∀ j y H H', Grows H H' → Rel j y H → Rel j y H') (free : ∀ j y H zs, Rel j y H → H D = some (.lst zs) → ∀ u, Rel j y (upd H D u)) (hD : H0 D = none) (m : Mx H0 D Rel i H ys) (s : Grows H H4) (r : Rel i y H4) (small : i < 1000000) :
    ∃ acc, H4 D = some (.lst acc) ∧ acc.length < sizeLine ∧ ∃ ys', Mx H0 D Rel (i + 1) (upd H4 D (.lst (acc ++ [y]))) ys' := by
  have at_D := s _ _ m.top
  refine ⟨ys, at_D, ?_, ys ++ [y], fun b o e => ?_, upd_same, ?_, fun j z e => ?_⟩
  · rw [m.len]
    exact Nat.lt_trans small (by decide)
  · rw [upd_ne (ne_of_none e hD)]
    exact s _ _ (m.grow _ _ e)
  · rw [List.length_append, m.len]
    rfl
  · rcases Nat.lt_or_ge j ys.length with l | g
    · rw [List.getElem?_append_left l] at e
      exact free j z H4 _ (last j z H H4 s (m.rel j z e)) at_D _
    · rw [List.getElem?_append_right g] at e
      have zero : j - ys.length = 0 := by
        rcases Nat.eq_zero_or_pos (j - ys.length) with q | q
        · exact q
        · rw [List.getElem?_eq_none (by show 1 ≤ j - ys.length; omega)] at e
          cases e
      rw [zero] at e
      obtain rfl : y = z := Option.some.inj e
      obtain rfl : j = i := by rw [← m.len]; omega
      exact free j y H4 _ r at_D _
section
variable {K : PySem.W.Frag} {a : Addr} {xs : List V} {g : TG} {te : TE} {vs : List Nat} {σ : L2.St} {H0 : Hp} {D : Addr} {Qd : Hp → Prop}
theorem lc_tupX (Rel : Nat → V → Hp → Prop) (last : ∀ j y H H', Grows H H' → Rel j y H → Rel j y H') (free : ∀ j y H zs, Rel j y H → H D = some (.lst zs) → ∀ u, Rel j y (upd H D u)) (hD : H0 D = none) (hx : SqT K H0 a xs) (small : xs.length ≤ 1000000)
    (turn : ∀ (i : Nat) (x : V) (H : Hp) (Rk : V → Hp → Prop), xs[i]? = some x → Grows H0 H → H D ≠ none → (∀ y H4, Grows H H4 → Rel i y H4 → Rk y H4) → g x (wipe σ vs) H fun σ2 H2 => wipe σ2 vs = wipe σ vs ∧ te σ2 H2 Rk)
    (done : ∀ H ys, Mx H0 D Rel xs.length H ys → Qd H) :
    ∃ W : Nat → Nat → Hp → Prop, (∃ m, W 0 m (upd H0 D (.lst []))) ∧ ∀ i m H, W i m H →
      ((Itt K a).stop i H ∧ Qd H) ∨ ((Itt K a).go i H ∧ ∃ Nx : Hp → Prop, (∀ H', Nx H' → ∃ m', m' < m ∧ W (i + 1) m' H') ∧ ∀ x H', (Itt K a).yld i H x H' → g x (wipe σ vs) H' fun σ2 H2 => wipe σ2 vs = wipe σ vs ∧ tYes σ2 H2 fun b H3 =>
        if b = true then te σ2 H3 fun y H4 => ∃ acc, H4 D = some (.lst acc) ∧ acc.length < sizeLine ∧ Nx (upd H4 D (.lst (acc ++ [y]))) else Nx H3) := by
  refine lc_tup (fun i H => ∃ ys, Mx H0 D Rel i H ys) ⟨[], Grows.new hD, upd_same, rfl, fun j y e => by rw [List.getElem?_nil] at e; cases e⟩ (fun i H _ ⟨_, m⟩ => m.grow.tup hx) (fun i x H ex ⟨ys, m⟩ => ?_) fun H ⟨ys, m⟩ => done H ys m
  rw [yes_eq (A := fun σ2 => wipe σ2 vs = wipe σ vs)]
  exact turn i x H _ ex m.grow (by rw [m.top]; exact fun z => nomatch z) fun y H4 s r => m.more last free hD s r (Nat.lt_of_lt_of_le (List.getElem?_eq_some_iff.mp ex).1 small)
theorem lc_listX (Rel : Nat → V → Hp → Prop) (last : ∀ j y H H', Grows H H' → Rel j y H → Rel j y H') (free : ∀ j y H zs, Rel j y H → H D = some (.lst zs) → ∀ u, Rel j y (upd H D u)) (hD : H0 D = none) (hx : SqL K H0 a xs) (small : xs.length ≤ 1000000)
    (turn : ∀ (i : Nat) (x : V) (H : Hp) (Rk : V → Hp → Prop), xs[i]? = some x → Grows H0 H → H D ≠ none → (∀ y H4, Grows H H4 → Rel i y H4 → Rk y H4) → g x (wipe σ vs) H fun σ2 H2 => wipe σ2 vs = wipe σ vs ∧ te σ2 H2 Rk)
    (done : ∀ H ys, Mx H0 D Rel xs.length H ys → Qd H) :
    ∃ W : Nat → Nat → Hp → Prop, (∃ m, W 0 m (upd H0 D (.lst []))) ∧ ∀ i m H, W i m H →
      ((Itl K a).stop i H ∧ Qd H) ∨ ((Itl K a).go i H ∧ ∃ Nx : Hp → Prop, (∀ H', Nx H' → ∃ m', m' < m ∧ W (i + 1) m' H') ∧ ∀ x H', (Itl K a).yld i H x H' → g x (wipe σ vs) H' fun σ2 H2 => wipe σ2 vs = wipe σ vs ∧ tYes σ2 H2 fun b H3 =>
        if b = true then te σ2 H3 fun y H4 => ∃ acc, H4 D = some (.lst acc) ∧ acc.length < sizeLine ∧ Nx (upd H4 D (.lst (acc ++ [y]))) else Nx H3) := by
  refine lc_list (fun i H => ∃ ys, Mx H0 D Rel i H ys) ⟨[], Grows.new hD, upd_same, rfl, fun j y e => by rw [List.getElem?_nil] at e; cases e⟩ (fun i H _ ⟨_, m⟩ => m.grow.seq hx) (fun i x H ex ⟨ys, m⟩ => ?_) fun H ⟨ys, m⟩ => done H ys m
  rw [yes_eq (A := fun σ2 => wipe σ2 vs = wipe σ vs)]
  exact turn i x H _ ex m.grow (by rw [m.top]; exact fun z => nomatch z) fun y H4 s r => m.more last free hD s r (Nat.lt_of_lt_of_le (List.getElem?_eq_some_iff.mp ex).1 small)
/-- a loop over enumerate of a list that stands still -/
theorem for_enumL {tb : TS} {Dn : Ends} (Pv : Nat → L2.St → Hp → Prop) (h0 : Pv 0 σ H0) (hl : ∀ i σ H, Pv i σ H → SqL K H a xs)
    (hs : ∀ (i : Nat) (x : V) (T : Addr) (σ : L2.St) (H : Hp), xs[i]? = some x → Pv i σ H → H T = none → g (.ref T) σ (upd H T (.tup [.int (i : Nat), x])) fun σ2 H2 => tb { Dn with nx := Pv (i + 1), ct := Pv (i + 1), bk := Dn.nx } σ2 H2) (hd : ∀ σ H, Pv xs.length σ H → Dn.nx σ H) :
    ∃ W : Nat → Nat → L2.St → Hp → Prop, (∃ m, W 0 m σ H0) ∧ ∀ i m σ H, W i m σ H →
      ((Ite K a).stop i H ∧ Dn.nx σ H) ∨ ((Ite K a).go i H ∧ ∃ N : L2.St → Hp → Prop, (∀ σ' H', N σ' H' → ∃ m', m' < m ∧ W (i + 1) m' σ' H') ∧ ∀ v H', (Ite K a).yld i H v H' → g v σ H' fun σ2 H2 => tb { Dn with nx := N, ct := N, bk := Dn.nx } σ2 H2) := by
  refine ⟨fun i m σ H => m = xs.length - i ∧ i ≤ xs.length ∧ Pv i σ H, ⟨_, rfl, Nat.zero_le _, h0⟩, ?_⟩
  rintro i m σ H ⟨rfl, hi, pv⟩
  have qx := hl i σ H pv
  rcases Nat.lt_or_ge i xs.length with lt | ge
  · have ex : xs[i]? = some xs[i] := List.getElem?_eq_getElem lt
    refine .inr ⟨⟨xs, _, qx, ex⟩, Pv (i + 1), fun σ' H' p' => ⟨xs.length - (i + 1), by omega, rfl, lt, p'⟩, fun v H' y => ?_⟩
    obtain ⟨T, x', rfl, hT, rfl, f1⟩ := y
    exact hs i x' T σ H (f1 xs qx) pv hT
  · have e : i = xs.length := by omega
    subst e
    exact .inl ⟨⟨xs, qx, Nat.le_refl _⟩, hd σ H pv⟩
end
end LcM

/-! f(k = v, ..): a def called by keywords alone. -/
namespace LcM
open PySem PySem.Spec PyProof.Rows L2
section
variable {X : Cx} {CX : CXT} {k : Nat} {f : Addr} {fd : FuncData} {ps ks : List Str} {sp : Sp} {E : XK} {x : Str} {p pos : Pos} {kws : List Keyword} {tk : TA} {g : List Value → List Value → List Value} {gV : List V → List V → List V}
theorem pe_callKw (F : FnOk X.prog X.w X.K X.mg X.base CX k f fd ps sp) (room : Room k X.A) (hg : Gl X x) (hm : X.mg x = some (.ref f)) (kp : PySem.W.keepIn X.K (.ref f) = true) (bd : KBinds X.K fd ps ks g gV) (ps' : Passes CX X E) (args : PK X kws tk)
    (all : (backToKw pos (keywordEach kws X.env)).all (·.1.isSome) = true := by rfl) (names : (backToKw pos (keywordEach kws X.env)).filterMap (·.1) = ks := by rfl) (hdb : (x == ("__debug__" : Str)) = false := by decide)
    (plain : ((backTo pos (starEach [] X.env)).any (·.1) || (backToKw pos (keywordEach kws X.env)).any (·.1.isNone)) = false := by rfl) :
    PE X (.Call (.Name x p) [] kws pos) (tCallK sp gV E tNil tk) := by
  refine ⟨fun pins s σ H Q I rd => ?_⟩
  refine wpAny_Call_Name_kw (ld_glob I hg hm ?_ hdb)
  refine PySem.W.callWith_KW0 (h₀ := X.base) I.ok.mod.kin kp all (thn (args.run pos pins s σ H _ I rd) fun ws s2 ⟨zs, H2, I2, rz, q2⟩ => ⟨I2.kIn, ?_⟩) plain
  rw [names]
  exact run_fnk (us := []) (vs := []) F room bd ps' I2 .nil rz q2
end
end LcM

/-! Masks of ascending lists, bit by bit. -/
namespace LcM
open PySem
def mk (ns : List Nat) : Nat := (ns.map (2 ^ ·)).sum
theorem mk_cons (x : Nat) (xs : List Nat) : mk (x :: xs) = 2 ^ x + mk xs := by
  unfold mk
  rw [List.map_cons, List.sum_cons]
theorem mk_dvd (y : Nat) : ∀ xs : List Nat, (∀ z ∈ xs, y ≤ z) → 2 ^ y ∣ mk xs
  | [], _ => ⟨0, rfl⟩
  | x :: xs, h => by
    rw [mk_cons]
    exact Nat.dvd_add (Nat.pow_dvd_pow 2 (h x List.mem_cons_self)) (mk_dvd y xs fun z hz => h z (List.mem_cons_of_mem _ hz))
theorem mk_bit : ∀ (xs : List Nat) (i : Nat), xs.Pairwise (· < ·) → (mk xs).testBit i = decide (i ∈ xs)
  | [], i, _ => by
    show Nat.testBit 0 i = _
    rw [Nat.zero_testBit]
    rfl
  | x :: xs, i, h => by
    obtain ⟨h1, h2⟩ := List.pairwise_cons.mp h
    have ih := mk_bit xs i h2
    obtain ⟨k, hk⟩ := mk_dvd (x + 1) xs fun z hz => h1 z hz
    rw [mk_cons, Nat.add_comm, hk, Nat.testBit_two_pow_mul_add k (Nat.pow_lt_pow_right (by decide) (Nat.lt_succ_self x))]
    rw [hk] at ih
    by_cases l : i < x + 1
    · rw [if_pos l, Nat.testBit_two_pow]
      have no : i ∉ xs := fun z => by
        have := h1 i z
        omega
      by_cases e : x = i
      · rw [decide_eq_true e, e, decide_eq_true List.mem_cons_self]
      · rw [decide_eq_false e, decide_eq_false fun z => (List.mem_cons.mp z).elim (fun q => e q.symm) no]
    · rw [if_neg l]
      have z := Nat.testBit_two_pow_mul_add k (b := 0) (i := x + 1) (Nat.two_pow_pos _) i
      rw [if_neg l, Nat.add_zero] at z
      rw [← z, ih]
      have ne : i ≠ x := by omega
      by_cases m : i ∈ xs
      · rw [decide_eq_true m, decide_eq_true (List.mem_cons_of_mem _ m)]
      · rw [decide_eq_false m, decide_eq_false fun q => (List.mem_cons.mp q).elim ne m]
/-- masks of lists that do not cross -/
theorem mk_and {xs ys : List Nat} (hx : xs.Pairwise (· < ·)) (hy : ys.Pairwise (· < ·)) (h : (∀ z ∈ xs, z ∉ ys) ∨ (∀ z ∈ xs, z ∈ ys) ∨ ∀ z ∈ ys, z ∈ xs) : mk xs &&& mk ys = 0 ∨ mk xs &&& mk ys = mk xs ∨ mk xs &&& mk ys = mk ys := by
  have bit : ∀ i, (mk xs &&& mk ys).testBit i = (decide (i ∈ xs) && decide (i ∈ ys)) := fun i => by rw [Nat.testBit_and, mk_bit xs i hx, mk_bit ys i hy]
  rcases h with h | h | h
  · refine .inl (Nat.eq_of_testBit_eq fun i => ?_)
    rw [bit, Nat.zero_testBit]
    by_cases m : i ∈ xs
    · rw [decide_eq_false (h i m), Bool.and_false]
    · rw [decide_eq_false m, Bool.false_and]
  · refine .inr (.inl (Nat.eq_of_testBit_eq fun i => ?_))
    rw [bit, mk_bit xs i hx]
    by_cases m : i ∈ xs
    · rw [decide_eq_true m, decide_eq_true (h i m)]
      rfl
    · rw [decide_eq_false m, Bool.false_and]
  · refine .inr (.inr (Nat.eq_of_testBit_eq fun i => ?_))
    rw [bit, mk_bit ys i hy]
    by_cases m : i ∈ ys
    · rw [decide_eq_true m, decide_eq_true (h i m)]
      rfl
    · rw [decide_eq_false m, Bool.and_false]
end LcM

/-! Data whose text is short. -/
namespace LcM
open PySem PySem.Spec PyProof.Rows L2
structure Brief (n : Nat) (d : PyData) : Prop where
  sh : d.showable = true
  dp : d.depth ≤ 10
  lv : PyData.leavesShort 13 d = true
  wt : d.weight ≤ n
def Smalls (ns : List Int) : Prop := ∀ x ∈ ns, x.natAbs < 10 ^ 12
theorem small_bits {n : Int} (h : n.natAbs < 10 ^ 12) : n.natAbs.log2 < 40 := by
  by_cases z : n.natAbs = 0
  · rw [z]
    decide
  · exact (Nat.log2_lt z).mpr (Nat.lt_trans h (by decide))
theorem show_ints : ∀ ns : List Int, Smalls ns → PyData.showableAll (ns.map .int) = true
  | [], _ => by simp only [List.map_nil, PyData.showableAll]
  | n :: ns, h => by
    have b := small_bits (h n List.mem_cons_self)
    simp only [List.map_cons, PyData.showableAll, PyData.showable, show_ints ns fun x m => h x (List.mem_cons_of_mem _ m), Bool.and_true]
    exact decide_eq_true (by omega)
theorem weight_ints : ∀ ns : List Int, Smalls ns → PyData.weightAll (ns.map .int) ≤ ns.length * 42
  | [], _ => by simp only [List.map_nil, PyData.weightAll]; exact Nat.zero_le _
  | n :: ns, h => by
    have b := small_bits (h n List.mem_cons_self)
    have ih := weight_ints ns fun x m => h x (List.mem_cons_of_mem _ m)
    simp only [List.map_cons, PyData.weightAll, PyData.weight, List.length_cons]
    split <;> omega
theorem brief_ints {ns : List Int} (h : Smalls ns) : Brief (ns.length * 42) (PyData.list (ns.map .int)) := by
  refine ⟨?_, ?_, ?_, ?_⟩
  · simp only [PyData.showable, show_ints ns h]
  · simp only [PyData.depth, PySem.W.depth_ints]
    decide
  · refine PyData.leavesShort_of_canLay0 13 _ ?_ ?_
    · simp only [PyData.canLay0, lay_ints]
    · simp only [PyData.intsShort]
      exact PyData.intsShortAll_ints ns h
  · simp only [PyData.weight]
    exact weight_ints ns h
def rowD (rs : List (List Int)) : List PyData := rs.map fun r => .list (r.map .int)
theorem show_rows : ∀ rs : List (List Int), (∀ r ∈ rs, Smalls r) → PyData.showableAll (rowD rs) = true
  | [], _ => by simp only [rowD, List.map_nil, PyData.showableAll]
  | r :: rs, h => by
    have ih := show_rows rs fun q m => h q (List.mem_cons_of_mem _ m)
    unfold rowD at ih ⊢
    simp only [List.map_cons, PyData.showableAll, PyData.showable, show_ints r (h r List.mem_cons_self), ih, Bool.and_self]
theorem short_rows : ∀ rs : List (List Int), (∀ r ∈ rs, Smalls r) → PyData.intsShortAll 13 (rowD rs) = true
  | [], _ => by simp only [rowD, List.map_nil, PyData.intsShortAll]
  | r :: rs, h => by
    have ih := short_rows rs fun q m => h q (List.mem_cons_of_mem _ m)
    unfold rowD at ih ⊢
    simp only [List.map_cons, PyData.intsShortAll, PyData.intsShort, ih, PyData.intsShortAll_ints r (h r List.mem_cons_self), Bool.and_self]
theorem weight_rows {m : Nat} : ∀ rs : List (List Int), (∀ r ∈ rs, Smalls r ∧ r.length ≤ m) → PyData.weightAll (rowD rs) ≤ rs.length * (m * 42 + 1)
  | [], _ => by simp only [rowD, List.map_nil, PyData.weightAll]; exact Nat.zero_le _
  | r :: rs, h => by
    have ih := weight_rows rs fun q m => h q (List.mem_cons_of_mem _ m)
    have l := (h r List.mem_cons_self).2
    have w := weight_ints r (h r List.mem_cons_self).1
    unfold rowD at ih ⊢
    simp only [List.map_cons, PyData.weightAll, PyData.weight, List.length_cons]
    rw [Nat.add_mul]
    omega
theorem brief_rows {rs : List (List Int)} {m : Nat} (h : ∀ r ∈ rs, Smalls r ∧ r.length ≤ m) : Brief (rs.length * (m * 42 + 1)) (PyData.list (rowD rs)) := by
  refine ⟨?_, ?_, ?_, ?_⟩
  · simp only [PyData.showable, show_rows rs fun r m => (h r m).1]
  · have := depth_rows rs
    unfold rowD
    simp only [PyData.depth]
    omega
  · refine PyData.leavesShort_of_canLay0 13 _ ?_ ?_
    · have := lay_rows rs
      unfold rowD
      simp only [PyData.canLay0, this]
    · simp only [PyData.intsShort]
      exact short_rows rs fun r m => (h r m).1
  · simp only [PyData.weight]
    exact weight_rows rs h
theorem brief_two {a b : PyData} {m n : Nat} (x : Brief m a) (y : Brief n b) (l : m + n ≤ 100000) :
    PyData.showableAll [a, b] = true ∧ PyData.depthAll [a, b] ≤ 40 ∧ (listText (PyData.shownAll [a, b])).length ≤ sizeLine := by
  refine ⟨?_, ?_, ?_⟩
  · simp only [PyData.showableAll, x.sh, y.sh, Bool.and_self]
  · have := x.dp
    have := y.dp
    simp only [PyData.depthAll]
    omega
  · have e : (PyData.list [a, b]).shown = listText (PyData.shownAll [a, b]) := by simp only [PyData.shown]
    rw [← e]
    refine PyData.shown_fits (B := 13) (by decide) (by decide) ?_ ?_
    · simp only [PyData.leavesShort, PyData.leavesShortAll, x.lv, y.lv, Bool.and_self]
    · have := x.wt
      have := y.wt
      simp only [PyData.weight, PyData.weightAll]
      omega
end LcM

/-! min(list of lists of ints, key=len). -/
namespace LcM
open PySem PySem.Spec PyProof PyProof.Rows L2 SortR
def lenAt (bs : List (Addr × List Int)) (i : Nat) : Int := ((bs.getD i (0, [])).2.length : Nat)
def firstMin (bs : List (Addr × List Int)) (i : Nat) : Prop := ∀ j, j < bs.length → lenAt bs i ≤ lenAt bs j ∧ (j < i → lenAt bs i < lenAt bs j)
def rMinLen (K : PySem.W.Frag) (Q : VK) : List V → Hp → Prop := fun vs H1 => ∃ (a : Addr) (bs : List (Addr × List Int)), vs = [.ref a] ∧ SqL K H1 a (bs.map fun b => V.ref b.1) ∧ (∀ b ∈ bs, SqL K H1 b.1 (b.2.map V.int)) ∧ bs ≠ [] ∧
  ∀ i, i < bs.length → firstMin bs i → Q (.ref (bs.getD i (0, [])).1) H1
def tMinLen (K : PySem.W.Frag) (te : TE) : TE := fun σ H Q => tCons te tNil σ H (rMinLen K Q)
section
variable {X : Cx} {e : Expr} {te : TE} {p p2 pos kp : Pos}
theorem ns_one {h : Heap} {a : Addr} {m m' : Str → Option Value} (x : h.Ns a m) (y : h.Ns a m') : m = m' := x.eq_nsMap.trans y.eq_nsMap.symm
/-- what only lets the names stand elsewhere changes nothing -/
theorem inv_fr {pins : List (Addr × Obj)} {σ : L2.St} {H : Hp} {s : Shared} {h' : Heap} {tk : Nat} {m : Str → Option Value} (I : Inv X pins σ H s) (n0 : s.heap.Ns X.env.locals m) (n1 : h'.Ns X.env.locals m) (keep : ∀ b o, b ≠ X.env.locals → s.heap.get? b = some o → h'.get? b = some o) :
    Inv X pins σ H { s with heap := h', toks := tk } := by
  refine I.step (ch := []) (fun b hb => nomatch hb) (fun b o nl _ _ q _ => keep b o nl q) (fun b o nl _ _ q _ => ⟨o.slots, keep b o nl q⟩) (fun b o _ _ z => z) (fun b o _ q => ?_) (fun _ _ z => z) (fun _ _ _ z => z) (fun _ ps z => ⟨#[], by rw [Array.append_empty]; exact z⟩) (fun m' z => ns_one n0 z ▸ n1) ?_ I.bare
  · by_cases el : b = X.env.locals
    · obtain ⟨o', _, _, q', _⟩ := n1
      exact ⟨o', el ▸ q'⟩
    · exact ⟨o, keep b o el q⟩
  · intro a o h
    refine (I.hok a o h).stay (fun b u hb q => keep b u (fun z => ?_) q) (fun _ z => z) (fun _ _ z => z)
    have f := I.free
    rw [← z] at f
    rcases hb with hb | hb
    · rw [hb, h] at f
      cases f
    · rw [hb] at f
      cases f
theorem pe_minLen (calm : X.calm = true) (hg : Gl X "min") (hm : X.mg "min" = none) (hl : Gl X "len") (ml : X.mg "len" = none) (he : PE X e te)
    (h1 : starEach [e] X.env = (false, eval e X.env) :: starEach [] X.env := by rfl) (h2 : backTo pos (starEach [e] X.env) = (false, eval e X.env) :: backTo pos (starEach [] X.env) := by rfl) (h3 : ((backTo pos (starEach [e] X.env)).any fun x => x.1) = false := by rfl) : PE X (.Call (.Name "min" p) [e] [⟨some "key", .Name "len" p2, kp⟩] pos) (tMinLen X.K te) := by
  refine ⟨fun pins s σ H Q I rd => ?_⟩
  refine wpAny_Call_Name_kw (ld_blt (u := Value.builtin "min") I hg hm (by decide +kernel) ?_)
  refine Rows.callWith_kw (thn ((pa_cons he pa_nil (hs := h1)).run pos pins s σ H (rMinLen X.K Q) I rd) fun us s1 ⟨vs, H1, I1, rv, q⟩ => ?_) h2 h3
  obtain ⟨a, bs, rfl, hA, hB, hne, k⟩ := q
  obtain ⟨u, rfl, ru⟩ := vals1 rv
  obtain rfl : u = Value.ref a := ru
  refine Rows.evalAll_cons (wpAny_bind (ld_blt (u := Value.builtin "len") I1 hl ml (by decide +kernel) (wpAny_bind (wpAny_standAt (wpAny_pure (Rows.evalAll_nil ?_))))))
  obtain ⟨its, rvs, pl, hz⟩ := I1.list hA
  obtain ⟨m, ns, look⟩ := I1.loc
  obtain ⟨m', fr'⟩ := I1.fr
  have fr : Rows.Fr X.base X.env.locals s1.heap m := ⟨ns, fr'.keep, fr'.above⟩
  have kept : ∀ h, Rows.Fr X.base X.env.locals h m → Rows.News X.base X.env.locals h (allNews X.base s1.heap X.env.locals) → ∀ b o, b ≠ X.env.locals → s1.heap.get? b = some o → h.get? b = some o := fun h f n b o nl q => by
    rcases Option.eq_none_or_eq_some (X.base.get? b) with z | ⟨o', z⟩
    · exact (n (b, o) (mem_allNews nl z q)).1
    · have := fr.keep b o' z
      rw [q] at this
      cases this
      exact f.keep b o z
  have apart : ∀ {b : Addr} {xs : Array Value}, PlainL s1.heap b xs → b ≠ X.env.locals := fun {b xs} hb z => by
    obtain ⟨o, n, g, _, _, d⟩ := hb
    obtain ⟨o', es, ep, g', d', _⟩ := ns
    rw [z, g'] at g
    cases g
    rw [d'] at d
    cases d
  have len : its.length = bs.length := by
    rw [← rvs.length, List.length_map]
  have get : ∀ {i : Nat} {v : Value}, its[i]? = some v → i < bs.length ∧ v = Value.ref (bs.getD i (0, [])).1 := fun {i v} hv => by
    have il : i < bs.length := by
      rw [← len]
      exact (List.getElem?_eq_some_iff.mp hv).1
    refine ⟨il, ?_⟩
    have e1 : (bs.map fun b => V.ref b.1)[i]? = some (V.ref (bs.getD i (0, [])).1) := by
      rw [List.getElem?_map, List.getElem?_eq_getElem il, List.getD_eq_getElem?_getD, List.getElem?_eq_getElem il]
      rfl
    obtain ⟨u, hu, ru⟩ := rvs.get e1
    rw [hv] at hu
    cases hu
    exact ru
  refine Rows.kmb_min (kid := "len") (news := allNews X.base s1.heap X.env.locals) (vs := its) (lenAt bs) (I1.ok.hd calm) fr news_all (fun h f n => (pl.at fun o q => kept h f n a o (apart pl) q).isList) ?_ (fun i v hv h tk own f n => ?_) fun i v h' tk' hv hmin f n => ?_
  · rw [len]
    rcases Nat.eq_zero_or_pos bs.length with z | z
    · exact absurd (List.length_eq_zero_iff.mp z) hne
    · exact z
  · obtain ⟨il, rfl⟩ := get hv
    have n' : Rows.News X.base X.env.locals h (allNews X.base s1.heap X.env.locals) := fun p hp => n p (List.mem_append_left _ hp)
    have mem : bs.getD i (0, []) ∈ bs := by
      rw [List.getD_eq_getElem?_getD, List.getElem?_eq_getElem il]
      exact List.getElem_mem il
    obtain ⟨rs, rvr, plr, hzr⟩ := I1.list (hB _ mem)
    have lenr : rs.length = (bs.getD i (0, [])).2.length := by rw [← rvr.length, List.length_map]
    refine Calls.call_len_list ((plr.at fun o q => kept h f n' _ o (apart plr) q).isList) ?_ ⟨h, _, tk + 1, rfl, ?_, f, n⟩
    · rw [List.size_toArray, lenr]
      rw [List.length_map] at hzr
      have : sizeLine < 2 ^ 63 := by decide
      omega
    · unfold lenAt
      rw [List.size_toArray, lenr]
  · obtain ⟨il, rfl⟩ := get hv
    refine ⟨V.ref (bs.getD i (0, [])).1, H1, inv_fr I1 ns f.ns (kept h' f n), rfl, k i il fun j jl => ?_⟩
    exact hmin j (by rw [len]; exact jl)
end
end LcM

/-! [(len(r), r) for r in rows if ..], sorted. -/
namespace SortR
open PySem PySem.Spec PyProof.Rows L2 PySem.W LcM
/-- a tuple, its row's place, the row -/
abbrev Pr := Addr × Addr × List Int
def prD (b : Pr) : PyData := .tuple [.int (b.2.2.length : Nat), .list (b.2.2.map .int)]
def lenLe (p q : Pr) : Bool := decide (p.2.2.length < q.2.2.length ∨ (p.2.2.length = q.2.2.length ∧ p.2.2 ≤ q.2.2))
theorem prD_alike (p q : Pr) : alike (prD p) (prD q) = true := by
  unfold prD
  simp only [alike, alikeAll, alike_ints, Bool.and_self, Bool.or_true, Bool.true_and, Bool.and_true]
theorem prD_le : dataLe false prD = lenLe := by
  funext p q
  show (!dataLt (prD q) (prD p)) = _
  unfold prD
  rw [dataLt_pair (by simp [alike]) (by simp only [alike]; exact alike_ints _ _), dataLt_int, dataLt_list]
  have e1 : PyData.eqv (.int (q.2.2.length : Nat)) (.int (p.2.2.length : Nat)) = decide (q.2.2.length = p.2.2.length) := by
    by_cases h : q.2.2.length = p.2.2.length
    · simp [PyData.eqv, h]
    · rw [decide_eq_false h]
      simp [PyData.eqv]
      omega
  have e2 : PyProof.Rows.lexLt itemOrd (keyToksAll (q.2.2.map .int)) (keyToksAll (p.2.2.map .int)) = decide (q.2.2 < p.2.2) := dataLt_ints _ _
  rw [e1, e2]
  unfold lenLe
  by_cases h : q.2.2.length = p.2.2.length
  · rw [if_pos (decide_eq_true h)]
    by_cases h2 : PyData.eqv (.list (q.2.2.map .int)) (.list (p.2.2.map .int)) = true
    · rw [if_pos h2]
      have e : q.2.2 = p.2.2 := by
        rw [eqv_ints] at h2
        exact of_decide_eq_true h2
      rw [e]
      exact (decide_eq_true (.inr ⟨rfl, List.le_refl _⟩)).symm
    · rw [if_neg h2]
      by_cases h3 : q.2.2 < p.2.2
      · rw [decide_eq_true h3]
        refine (decide_eq_false fun z => ?_).symm
        rcases z with z | ⟨_, z⟩
        · omega
        · exact List.not_lt.mpr z h3
      · rw [decide_eq_false h3]
        exact (decide_eq_true (.inr ⟨h.symm, List.not_lt.mp h3⟩)).symm
  · rw [if_neg (by rw [decide_eq_false h]; exact Bool.false_ne_true)]
    by_cases h3 : q.2.2.length < p.2.2.length
    · rw [decide_eq_true (show ((q.2.2.length : Nat) : Int) < (p.2.2.length : Nat) by omega)]
      exact (decide_eq_false fun z => by omega).symm
    · rw [decide_eq_false (show ¬ ((q.2.2.length : Nat) : Int) < (p.2.2.length : Nat) by omega)]
      exact (decide_eq_true (.inl (by omega))).symm
theorem len_trans (a b c : Pr) (h1 : lenLe a b = true) (h2 : lenLe b c = true) : lenLe a c = true := by
  unfold lenLe at *
  rw [decide_eq_true_eq] at *
  rcases h1 with h1 | ⟨h1, l1⟩ <;> rcases h2 with h2 | ⟨h2, l2⟩
  · exact .inl (by omega)
  · exact .inl (by omega)
  · exact .inl (by omega)
  · exact .inr ⟨by omega, List.le_trans l1 l2⟩
theorem len_total (a b : Pr) : (lenLe a b || lenLe b a) = true := by
  unfold lenLe
  rw [Bool.or_eq_true, decide_eq_true_eq, decide_eq_true_eq]
  rcases Nat.lt_trichotomy a.2.2.length b.2.2.length with h | h | h
  · exact .inl (.inl h)
  · rcases List.le_total a.2.2 b.2.2 with l | l
    · exact .inl (.inr ⟨h, l⟩)
    · exact .inr (.inr ⟨h.symm, l⟩)
  · exact .inr (.inl h)
theorem len_first {bs : List Pr} (h : bs ≠ []) : ∃ c rest, bs.mergeSort lenLe = c :: rest ∧ c ∈ bs ∧ ∀ b ∈ bs, lenLe c b = true := by
  have pw := List.pairwise_mergeSort (le := lenLe) len_trans len_total bs
  have mem : ∀ b, b ∈ bs.mergeSort lenLe ↔ b ∈ bs := fun b => List.mem_mergeSort
  cases e : bs.mergeSort lenLe with
  | nil =>
    have := List.length_mergeSort (le := lenLe) bs
    rw [e] at this
    exact absurd (List.length_eq_zero_iff.mp this.symm) h
  | cons c rest =>
    rw [e] at pw mem
    refine ⟨c, rest, rfl, (mem c).mp List.mem_cons_self, fun b hb => ?_⟩
    rcases List.mem_cons.mp ((mem b).mpr hb) with z | z
    · rw [z]
      have := len_total c c
      rwa [Bool.or_self] at this
    · exact (List.pairwise_cons.mp pw).1 b z
theorem vals_eachP {P : Pr → Prop} : ∀ {bs : List Pr} {us : List Value}, Vals (bs.map fun b => V.ref b.1) us → (∀ b ∈ bs, P b) → EachIs (fun v b => v = Value.ref b.1 ∧ P b) us bs
  | [], us, r, _ => by
    cases r
    exact .nil
  | b :: bs, us, r, hp => by
    cases r with
    | cons r1 r2 =>
      have e : _ = Value.ref b.1 := r1
      exact .cons ⟨e, hp b List.mem_cons_self⟩ (vals_eachP r2 fun c hc => hp c (List.mem_cons_of_mem _ hc))
theorem each_backP {P : Pr → Prop} : ∀ {us : List Value} {bs : List Pr}, EachIs (fun v b => v = Value.ref b.1 ∧ P b) us bs → Vals (bs.map fun b => V.ref b.1) us
  | _, _, .nil => .nil
  | _, _, .cons h t => .cons h.1 (each_backP t)
section
variable {X : Cx}
theorem call_sortedP (hu : X.A.units + 64 < cLine) : CallR X (.builtin "sorted") (fun xs H Q => ∃ (a : Addr) (bs : List Pr), xs = [V.ref a] ∧ SqL X.K H a (bs.map fun b => V.ref b.1) ∧ (∀ b ∈ bs, SqT X.K H b.1 [V.int (b.2.2.length : Nat), V.ref b.2.1] ∧ SqL X.K H b.2.1 (b.2.2.map V.int)) ∧
    ∀ p, H p = none → Q (.ref p) (upd H p (.lst ((bs.mergeSort lenLe).map fun b => V.ref b.1)))) := by
  intro pins s σ H xs us Q I r h
  obtain ⟨a, bs, rfl, hs, hb, q⟩ := h
  obtain ⟨u, rfl, ru⟩ := vals1 r
  obtain rfl : u = Value.ref a := ru
  obtain ⟨its, rv, hl, hz⟩ := I.list hs
  have each : EachIs (fun v (b : Pr) => v = Value.ref b.1 ∧ SqT X.K H b.1 [V.int (b.2.2.length : Nat), V.ref b.2.1] ∧ SqL X.K H b.2.1 (b.2.2.map V.int)) its bs := vals_eachP rv hb
  have len : its.length = bs.length := by rw [← rv.length, List.length_map]
  have each2 : EachIs (fun v (b : Pr) => ∃ as, Reads s.heap v (prD b) as) its bs := each_mono each fun v b ⟨e, hq, hr⟩ => by
    rw [e]
    exact Dp.reads I (prD b) (.ref b.1) (.ref b.1) (.tup hq (.cons (.int _) (.cons (.lst hr (rows_dp b.2.2)) .nil))) rfl
  refine sorted_data (enc := prD) hl.isList each each2 (AllAlike.of prD_alike) (Sortable.tuples fun b => ⟨_, _, rfl⟩) (by rw [← len]; rw [List.length_map] at hz; rw [len]; exact hz) (fun b _ => by
    have d : (prD b).depth = 2 := by
      unfold prD
      simp only [PyData.depth, PyData.depthAll, depth_ints]
      omega
    rw [d]
    omega) fun out ho each3 => ?_
  rw [prD_le] at each3
  have back := each_backP each3
  obtain ⟨n, hn⟩ := sortedAll_at s.heap its out.toArray
  refine ⟨.ref (s.heap.objs.size + 1), upd H (s.heap.objs.size + 1) (.lst ((bs.mergeSort lenLe).map fun b => V.ref b.1)), I.laid (t' := s.toks) (fun b o e => sortedAll_old e) (Nat.le_succ _) ⟨?_, out, n, back, hn⟩, rfl, q _ (I.hok.fresh (Nat.le_succ _))⟩
  rw [List.length_map, List.length_mergeSort]
  rw [List.length_map] at hz
  exact hz
end
end SortR
namespace LcM
open PySem PySem.Spec PyProof.Rows L2 SortR
section
variable {K : PySem.W.Frag} {a : Addr} {xs : List V} {g : TG} {tt : TT} {te tk tv : TE} {vs : List Nat} {σ : L2.St} {H0 : Hp} {D : Addr} {Qd : Hp → Prop}
theorem lc_listP (p : Nat → Bool) (B : Nat → Addr × List Int) (hD : H0 D = none) (hx : SqL K H0 a xs) (small : xs.length ≤ 1000000)
    (turn : ∀ (i : Nat) (x : V) (H : Hp) (Ry : V → Hp → Prop) (Rn : Hp → Prop), xs[i]? = some x → Grows H0 H → (p i = true → ∀ T H4, Grows H H4 → H T = none → H4 T = some (.tup [V.int ((B i).2.length : Nat), V.ref (B i).1]) → Ry (.ref T) H4) → (p i = false → ∀ H4, Grows H H4 → Rn H4) →
      g x (wipe σ vs) H fun σ2 H2 => wipe σ2 vs = wipe σ vs ∧ tt σ2 H2 fun t H3 => if t = true then te σ2 H3 Ry else Rn H3)
    (done : ∀ H (cs : List Pr), Grows H0 H → cs.map (·.2) = ((List.range xs.length).filter p).map B → (∀ c ∈ cs, H c.1 = some (.tup [V.int (c.2.2.length : Nat), V.ref c.2.1])) → H D = some (.lst (cs.map fun c => V.ref c.1)) → Qd H) :
    ∃ W : Nat → Nat → Hp → Prop, (∃ m, W 0 m (upd H0 D (.lst []))) ∧ ∀ i m H, W i m H →
      ((Itl K a).stop i H ∧ Qd H) ∨ ((Itl K a).go i H ∧ ∃ Nx : Hp → Prop, (∀ H', Nx H' → ∃ m', m' < m ∧ W (i + 1) m' H') ∧ ∀ x H', (Itl K a).yld i H x H' → g x (wipe σ vs) H' fun σ2 H2 => wipe σ2 vs = wipe σ vs ∧ tt σ2 H2 fun b H3 =>
        if b = true then te σ2 H3 fun y H4 => ∃ acc, H4 D = some (.lst acc) ∧ acc.length < sizeLine ∧ Nx (upd H4 D (.lst (acc ++ [y]))) else Nx H3) := by
  refine lc_list (fun i H => ∃ cs : List Pr, Grows H0 H ∧ cs.map (·.2) = ((List.range i).filter p).map B ∧ (∀ c ∈ cs, H c.1 = some (.tup [V.int (c.2.2.length : Nat), V.ref c.2.1])) ∧ H D = some (.lst (cs.map fun c => V.ref c.1)))
    ⟨[], Grows.new hD, rfl, (fun _ m => nomatch m), upd_same⟩ (fun i H _ ⟨_, s, _⟩ => s.seq hx) (fun i x H ex ⟨cs, s, e, n, top⟩ => ?_) fun H ⟨cs, s, e, n, top⟩ => done H cs s e n top
  have il := Nat.lt_of_lt_of_le (List.getElem?_eq_some_iff.mp ex).1 small
  have len : cs.length ≤ i := by
    have := congrArg List.length e
    rw [List.length_map, List.length_map] at this
    rw [this]
    exact Nat.le_trans (List.length_filter_le _ _) (Nat.le_of_eq List.length_range)
  refine turn i x H _ _ ex s (fun hp T H4 s4 hT eT => ⟨_, s4 _ _ top, ?_, cs ++ [(T, B i)], fun b o eb => ?_, ?_, fun c hc => ?_, ?_⟩) fun hp H4 s4 => ⟨cs, s.trans s4, ?_, fun c hc => s4 _ _ (n c hc), s4 _ _ top⟩
  · rw [List.length_map]
    exact Nat.lt_of_le_of_lt len (Nat.lt_trans il (by decide))
  · rw [upd_ne (ne_of_none eb hD)]
    exact s4 _ _ (s _ _ eb)
  · rw [List.map_append, e, List.range_succ, List.filter_append, List.map_append, List.filter_cons_of_pos hp]
    rfl
  · have cD : c.1 ≠ D := by
      rcases List.mem_append.mp hc with m | m
      · exact ne_of (n c m) top fun z => nomatch z
      · rw [List.mem_singleton.mp m]
        exact (ne_of_none top hT).symm
    rw [upd_ne cD]
    rcases List.mem_append.mp hc with m | m
    · exact s4 _ _ (n c m)
    · rw [List.mem_singleton.mp m]
      exact eT
  · rw [upd_same, List.map_append]
    rfl
  · rw [e, List.range_succ, List.filter_append, List.filter_cons_of_neg (by rw [hp]; exact Bool.false_ne_true)]
    simp
end
end LcM

namespace K02
open PySem PySem.Spec PyProof.Rows L2 LcM
def top (i : Nat) : Stmt := PySem.Challenge.pw_twopartings_k02_parts_makers_and_depths.main.body.getD i (.Pass ⟨0, 0, 0, 0⟩)
abbrev sPouch : Stmt := top 27
abbrev sDip : Stmt := top 28
abbrev sItems : Stmt := top 29

/-! ### power of a great base -/
def CPowW (i j : Int) : Prop := 0 ≤ j ∧ (Builtin.Int.intBits i : Int) * j ≤ 2 ^ 27
section
variable {X : Cx}
theorem op_powW : OpR X (binaryOp .Pow) (rI CPowW fun i j => .int (i ^ j.toNat)) := opI fun _ _ _ _ _ _ _ hc q => pow_int hc.1 hc.2 q
end
theorem bits_of {i : Int} {n : Nat} (h : i.natAbs < 2 ^ n) (h0 : 0 < n) : Builtin.Int.intBits i ≤ n := by
  unfold Builtin.Int.intBits
  split
  · omega
  · have := PySem.Flt.log2_lt_of h0 h
    omega
theorem pow3' {i : Int} {n : Nat} (h : i.natAbs < 2 ^ 64) (hn : n ≤ 1000) : CPowW i n := ⟨by omega, by
  have := bits_of h (by decide)
  have z : (Builtin.Int.intBits i : Int) * (n : Int) ≤ 64 * 1000 := Int.mul_le_mul (by omega) (by omega) (by omega) (by decide)
  omega⟩
theorem pow3 {i : Int} (h : i.natAbs < 2 ^ 300) : CPowW i 3 := ⟨by decide, by have := bits_of h (by decide); omega⟩

/-! ### the heap grows: all of it stays but at one place -/
def Gr (p : Addr) (H H' : Hp) : Prop := ∀ b o, b ≠ p → H b = some o → H' b = some o
theorem Gr.refl {p : Addr} {H : Hp} : Gr p H H := fun _ _ _ e => e
theorem Gr.trans {p : Addr} {H H1 H2 : Hp} (x : Gr p H H1) (y : Gr p H1 H2) : Gr p H H2 := fun b o n e => y b o n (x b o n e)
theorem Gr.new {p a : Addr} {H : Hp} {o : HO} (h : H a = none) : Gr p H (upd H a o) := fun b u n e => by
  rw [upd_ne (ne_of_none e h)]
  exact e
theorem Gr.at {p : Addr} {H : Hp} {o : HO} : Gr p H (upd H p o) := fun b u n e => by
  rw [upd_ne n]
  exact e
theorem _root_.LcM.Grows.gr {p : Addr} {H H' : Hp} (x : Grows H H') : Gr p H H' := fun b o _ e => x b o e
/-! ### the pouch -/
def Pch (H : Hp) (p : Addr) (m : Int) : Prop := ∃ d b n : Int, H p = some (.lst [.int d, .int b, .int n]) ∧ 0 ≤ b ∧ b < 2 ^ 200 ∧ 0 ≤ n ∧ n ≤ m
theorem Pch.le {H : Hp} {p : Addr} {m k : Int} (h : Pch H p m) (l : m ≤ k) : Pch H p k := by
  obtain ⟨d, b, n, e, h1, h2, h3, h4⟩ := h
  exact ⟨d, b, n, e, h1, h2, h3, by omega⟩
theorem Pch.same {H H' : Hp} {p : Addr} {m : Int} (h : Pch H p m) (s : Grows H H') : Pch H' p m := by
  obtain ⟨d, b, n, e, r⟩ := h
  exact ⟨d, b, n, s _ _ e, r⟩
structure Txt0 (mg : Str → Option Value) : Prop where
  int : mg "int" = none
  range : mg "range" = none
  len : mg "len" = none
  abs : mg "abs" = none
  max : mg "max" = none
  min : mg "min" = none
def spPouch (K : PySem.W.Frag) : Sp := fun vs H Q _ => ∃ (a : Addr) (i : Int) (ns : List Int), vs = [.ref a, .int i] ∧ SqL K H a (ns.map V.int) ∧ 0 ≤ i ∧ i < 1000 ∧ ∀ (p : Addr) (H' : Hp), H p = none → Grows H H' → Pch H' p 0 → Q (.ref p) H'
def spDip : Sp := fun vs H Q _ => ∃ (p : Addr) (w m : Int), vs = [.ref p, .int w] ∧ Pch H p m ∧ m < 2 ^ 60 ∧ 0 < w ∧ w.natAbs < 2 ^ 200 ∧ ∀ (v : Int) (H' : Hp), 0 ≤ v → v < w → Pch H' p (m + 1) → (∀ b, b ≠ p → H' b = H b) → Q (.int v) H'

section
variable {P : Program} {w : World} {K : PySem.W.Frag} {mg : Str → Option Value} {base : Heap}
theorem scPouch : FnScope ["script", "at", "cell"] ["script", "at"] (defScope sPouch) := ⟨rfl, rfl, rfl, by decide +kernel, rfl, by decide +kernel, by decide +kernel⟩
theorem ok_pouch {f : Addr} {fd : FuncData} (F : Fun K "_law_pouch" "_law_pouch" sPouch f fd) (T : Txt0 mg) : FnOk P w K mg base CX0 1 f fd ["script", "at"] (spPouch K) := by
  refine F.ok scPouch (fun vs H Q E h => ?_) (fun cdv A outer s H vs Q E hr h => ?_)
  · obtain ⟨a, i, ns, rfl, _⟩ := h
    rfl
  · obtain ⟨a, i, ns, rfl, hS, h0, h1, k⟩ := h
    refine ⟨_, (pss_cons (ps_set (i := 2) scPouch.nd rfl (.inl rfl) (pe_ifExp (pt_cmpR op_lt (pv 1) (pe_callB call_len_seq (by rfl) T.len (by decide +kernel) (pa_cons (pv 0) pa_nil)) (nomark _)) (pe_ix (r := rIxL K) ix_list (pv 0) (pv 1) (fun _ _ => rfl)) pe_int))
      (pss_one (ps_ret (pe_lst (pa_cons (pe_callB (call_max2 rfl) (by rfl) T.max (by decide +kernel) (pa_cons pe_int (pa_cons (pe_op op_sub (pe_callB call_abs (by rfl) T.abs (by decide +kernel) (pa_cons (pv 2) pa_nil)) (pe_op op_powW pe_int pe_int)) pa_nil))) (pa_cons (pe_op op_add (pe_op op_add (pe_op op_mul (pe_op op_mod (pe_callTy call_int1 (by rfl) T.int (by decide +kernel) (pa_cons (pv 2) pa_nil)) (pe_op op_add (pe_op op_powW pe_int pe_int) pe_int)) pe_int) (pe_op op_mul pe_int (pv 1))) pe_int) (pa_cons pe_int pa_nil))))))), ?_⟩
    have hP : CPowW 10 18 := pow3' (by decide) (by decide)
    have hP2 : CPowW 10 38 := pow3' (by decide) (by decide)
    have pos : (0 : Int) < (10 : Int) ^ (38 : Int).toNat + 133 := by decide
    have fin : ∀ c : Int, gName 2 (V.int c) (L2.start ["script", "at", "cell"] [V.ref a, V.int i]) H
        ({ nx := tRet (tLst (tCons (tCB (fun xs H Q => ∃ i j, xs = [V.int i, V.int j] ∧ Q (V.int (if j > i then j else i)) H) (tCons (tC (V.int 0)) (tCons (tOp (rI0 fun i j => V.int (i - j)) (tCB (fun xs H Q => ∃ i, xs = [V.int i] ∧ Q (V.int (if i < 0 then -i else i)) H) (tCons (tVar 2) tNil)) (tOp (rI CPowW fun i j => V.int (i ^ j.toNat)) (tC (V.int 10)) (tC (V.int 18)))) tNil)))
              (tCons (tOp (rI0 fun i j => V.int (i + j)) (tOp (rI0 fun i j => V.int (i + j)) (tOp (rI CMul fun i j => V.int (i * j)) (tOp (rI (fun x j => 0 < j) fun i j => V.int (i % j)) (tCB (fun xs H Q => (∃ i, xs = [V.int i] ∧ Q (V.int i) H) ∨ ∃ k, xs = [V.bl k] ∧ Q (V.int (if k = true then 1 else 0)) H) (tCons (tVar 2) tNil))
                (tOp (rI0 fun i j => V.int (i + j)) (tOp (rI CPowW fun i j => V.int (i ^ j.toNat)) (tC (V.int 10)) (tC (V.int 38))) (tC (V.int 133)))) (tC (V.int 107))) (tOp (rI CMul fun i j => V.int (i * j)) (tC (V.int 71)) (tVar 1))) (tC (V.int 29))) (tCons (tC (V.int 0)) tNil))))
            ({ nx := fun _ H' => Q V.non H', rt := Q } : Ends), rt := Q } : Ends).nx := fun c => by
      refine ⟨_, rfl, _, rfl, _, _, rfl, rfl, hP, _, _, rfl, rfl, _, _, rfl, _, rfl, .inl ⟨_, rfl, _, _, rfl, rfl, hP2, _, _, rfl, rfl, _, _, rfl, rfl, pos, _, _, rfl, rfl, .inr ⟨by decide, by decide⟩, _, rfl, _, _, rfl, rfl, .inl ⟨by decide, by decide⟩, _, _, rfl, rfl, _, _, rfl, rfl, ?_⟩⟩
      have l0 := Int.emod_nonneg c (Int.ne_of_gt pos)
      have l1 := Int.emod_lt_of_pos c pos
      have e0 : (10 : Int) ^ (38 : Int).toNat + 133 = 100000000000000000000000000000000000133 := by decide
      rw [e0] at l0 l1 ⊢
      refine ⟨(by show 3 ≤ sizeLine; decide), fun l hl => k l _ hl (Grows.new hl) ⟨_, _, _, upd_same, ?_, ?_, by decide, by decide⟩⟩
      · omega
      · omega
    refine ⟨_, rfl, _, rfl, a, _, rfl, .inl hS, _, _, rfl, rfl, _, rfl, ?_⟩
    refine ite2 (fun e => ?_) (fun e => ?_)
    · have lt : i.toNat < ns.length := by
        have q := of_decide_eq_true e
        rw [List.length_map] at q
        omega
      have g : (ns.map V.int)[i.toNat]? = some (.int ns[i.toNat]) := by
        rw [List.getElem?_map, List.getElem?_eq_getElem lt]
        rfl
      have g2 : atI (ns.map V.int) i = some (.int ns[i.toNat]) := by
        have q := atI_nat g
        rw [Int.toNat_of_nonneg h0] at q
        exact q
      refine ⟨_, rfl, _, rfl, a, _, _, _, rfl, rfl, hS, g2, ?_⟩
      exact fin _
    · exact fin _
end
end K02

namespace K02
open PySem PySem.Spec PyProof.Rows L2 LcM
section
variable {P : Program} {w : World} {K : PySem.W.Frag} {mg : Str → Option Value} {base : Heap}
theorem scDip : FnScope ["pouch", "wide", "taken", "mixed"] ["pouch", "wide"] (defScope sDip) := ⟨rfl, rfl, rfl, by decide +kernel, rfl, by decide +kernel, by decide +kernel⟩
theorem ok_dip {f : Addr} {fd : FuncData} (F : Fun K "_law_dip" "_law_dip" sDip f fd) (T : Txt0 mg) : FnOk P w K mg base CX0 1 f fd ["pouch", "wide"] spDip := by
  refine F.ok scDip (fun vs H Q E h => ?_) (fun cdv A outer s H vs Q E hr h => ?_)
  · obtain ⟨p, wd, m, rfl, _⟩ := h
    rfl
  · obtain ⟨p, wd, m, rfl, ⟨d, b, n, e, b0, b1, n0, n1⟩, hm, hw, hw2, k⟩ := h
    refine ⟨_, (pss_cons (ps_if (pt_cmpR op_gt (pe_ix (r := rIxL K) ix_list (pv 0) pe_int (fun _ _ => rfl)) pe_int (nomark _)) (pss_cons (ps_set (i := 2) scDip.nd rfl (.inl rfl) (pe_op op_mod (pe_callTy call_int1 (by rfl) T.int (by decide +kernel) (pa_cons (pe_ix (r := rIxL K) ix_list (pv 0) pe_int (fun _ _ => rfl)) pa_nil)) (pv 1)))
      (pss_cons (ps_asg (pe_op op_fdivW (pe_ix (r := rIxL K) ix_list (pv 0) pe_int (fun _ _ => rfl)) (pv 1)) (pg_sub (pv 0) pe_int set_list))
      (pss_one (ps_ret (pv 2))))) pss_nil)
      (pss_cons (ps_asg (pe_op op_add (pe_ix (r := rIxL K) ix_list (pv 0) pe_int (fun _ _ => rfl)) pe_int) (pg_sub (pv 0) pe_int set_list))
      (pss_cons (ps_set (i := 3) scDip.nd rfl (.inl rfl) (pe_op op_mod (pe_op op_powW (pe_callTy call_int1 (by rfl) T.int (by decide +kernel) (pa_cons (pe_op op_add (pe_ix (r := rIxL K) ix_list (pv 0) pe_int (fun _ _ => rfl)) (pe_op op_mul pe_int (pe_ix (r := rIxL K) ix_list (pv 0) pe_int (fun _ _ => rfl)))) pa_nil)) pe_int) (pe_op op_add (pe_op op_powW pe_int pe_int) pe_int)))
      (pss_cons (ps_set (i := 3) scDip.nd rfl (.inl rfl) (pe_op op_mod (pe_op op_powW (pe_callTy call_int1 (by rfl) T.int (by decide +kernel) (pa_cons (pe_op op_add (pv 3) (pe_op op_mul pe_int (pe_ix (r := rIxL K) ix_list (pv 0) pe_int (fun _ _ => rfl)))) pa_nil)) pe_int) (pe_op op_add (pe_op op_powW pe_int pe_int) pe_int)))
      (pss_one (ps_ret (pe_op op_mod (pe_callTy call_int1 (by rfl) T.int (by decide +kernel) (pa_cons (pe_op op_fdivW (pv 3) pe_int) pa_nil)) (pv 1)))))))), ?_⟩
    refine ⟨_, rfl, p, _, _, _, rfl, rfl, SqL.of e, rfl, _, _, rfl, rfl, _, rfl, ?_⟩
    refine ite2 (fun _ => ?_) (fun _ => ?_)
    · refine ⟨_, rfl, p, _, _, _, rfl, rfl, SqL.of e, rfl, .inl ⟨_, rfl, _, rfl, _, _, rfl, rfl, hw, _, rfl, p, _, _, _, rfl, rfl, SqL.of e, rfl, _, rfl, _, _, rfl, rfl, wide_div hw hw2 (by decide) (by decide), _, rfl, p, _, _, 0, rfl, rfl, e, rfl, _, rfl, ?_⟩⟩
      exact k _ _ (Int.emod_nonneg _ (by omega)) (Int.emod_lt_of_pos _ hw) ⟨_, _, _, upd_same, b0, b1, n0, by omega⟩ fun _ h => upd_ne h
    · refine ⟨_, rfl, p, _, _, _, rfl, rfl, SqL.of e, rfl, _, _, rfl, rfl, _, rfl, p, _, _, 2, rfl, rfl, e, rfl, ?_⟩
      have hP : CPowW 10 41 := pow3' (by decide) (by decide)
      have hP2 : CPowW 10 39 := pow3' (by decide) (by decide)
      have q0 : (0 : Int) < (10 : Int) ^ (41 : Int).toNat + 37 := by decide
      have q1 : (0 : Int) < (10 : Int) ^ (39 : Int).toNat + 3 := by decide
      have q2 : (10 : Int) ^ (41 : Int).toNat + 37 < 2 ^ 200 := by decide
      have c1 : CPowW (b + 870022201 * (n + 1)) 3 := pow3 (by omega)
      refine ⟨_, rfl, p, _, _, _, rfl, rfl, SqL.of upd_same, rfl, _, rfl, p, _, _, _, rfl, rfl, SqL.of upd_same, rfl, _, _, rfl, rfl, .inl ⟨by decide, by decide⟩, _, _, rfl, rfl, .inl ⟨_, rfl, _, _, rfl, rfl, c1, _, _, rfl, rfl, hP, _, _, rfl, rfl, _, _, rfl, rfl, q0, ?_⟩⟩
      obtain ⟨y, hy⟩ : ∃ y : Int, y = (b + 870022201 * (n + 1)) ^ (3 : Int).toNat % ((10 : Int) ^ (41 : Int).toNat + 37) := ⟨_, rfl⟩
      have y0 : 0 ≤ y := hy ▸ Int.emod_nonneg _ (Int.ne_of_gt q0)
      have y1 : y < (10 : Int) ^ (41 : Int).toNat + 37 := hy ▸ Int.emod_lt_of_pos _ q0
      have c2 : CPowW (y + 334214467 * (n + 1)) 3 := pow3 (by omega)
      show gName 3 (.int ((b + 870022201 * (n + 1)) ^ (3 : Int).toNat % ((10 : Int) ^ (41 : Int).toNat + 37))) _ _ _
      rw [← hy]
      refine ⟨_, rfl, _, rfl, p, _, _, _, rfl, rfl, SqL.of upd_same, rfl, _, _, rfl, rfl, .inl ⟨by decide, by decide⟩, _, _, rfl, rfl, .inl ⟨_, rfl, _, _, rfl, rfl, c2, _, _, rfl, rfl, hP2, _, _, rfl, rfl, _, _, rfl, rfl, q1, ?_⟩⟩
      refine ⟨_, rfl, _, _, rfl, rfl, ⟨by decide, by decide⟩, .inl ⟨_, rfl, _, rfl, _, _, rfl, rfl, hw, ?_⟩⟩
      exact k _ _ (Int.emod_nonneg _ (by omega)) (Int.emod_lt_of_pos _ hw) ⟨_, _, _, upd_same, b0, b1, by omega, by omega⟩ fun _ h => upd_ne h
end
end K02

namespace K02
open PySem PySem.Spec PyProof.Rows L2 LcM
theorem at_in {xs : List V} {v : Int} (h0 : 0 ≤ v) (h1 : v < xs.length) : ∃ z ∈ xs, atI xs v = some z := by
  have lt : v.toNat < xs.length := by omega
  have q := atI_nat (List.getElem?_eq_getElem lt)
  rw [Int.toNat_of_nonneg h0] at q
  exact ⟨_, List.getElem_mem lt, q⟩
/-- items of newcomers: each within its bounds -/
def Bnd (xs : List Int) : Prop := ∀ (j : Nat) (x : Int), xs[j]? = some x → -(j : Int) ≤ x ∧ x ≤ (j : Int)
theorem Bnd.add {xs : List Int} {x : Int} (h : Bnd xs) (h0 : -(xs.length : Int) ≤ x) (h1 : x ≤ (xs.length : Int)) : Bnd (xs ++ [x]) := fun j y e => by
  rcases Nat.lt_or_ge j xs.length with z | z
  · rw [List.getElem?_append_left z] at e
    exact h j y e
  · rw [List.getElem?_append_right z] at e
    have : j - xs.length = 0 := by
      rcases Nat.eq_zero_or_pos (j - xs.length) with q | q
      · exact q
      · rw [List.getElem?_eq_none (by show 1 ≤ j - xs.length; omega)] at e
        cases e
    rw [this] at e
    have e' : x = y := Option.some.inj e
    omega
def spItems : Sp := fun vs H Q _ => ∃ (p : Addr) (mn m : Int), vs = [.ref p, .int mn] ∧ Pch H p m ∧ m < 2 ^ 50 ∧ 1 ≤ mn ∧ mn ≤ 20 ∧
  ∀ (l : Addr) (xs : List Int) (H' : Hp), (xs.length : Int) = mn - 1 → Bnd xs → Pch H' p (m + 100) → Gr p H H' → H l = none → H' l = some (.lst (xs.map V.int)) → Q (.ref l) H'
theorem but_at {p a : Addr} {H H' : Hp} {o : HO} (h : ∀ b, b ≠ p → H' b = H b) (e : H a = some o) (n : a ≠ p) : H' a = some o := (h a n).trans e
theorem but_gr {p : Addr} {H H' : Hp} (h : ∀ b, b ≠ p → H' b = H b) : Gr p H H' := fun b o n e => (h b n).trans e
theorem pch_ne {p a : Addr} {H : Hp} {m : Int} (h : Pch H p m) (n : H a = none) : a ≠ p := fun e => by
  obtain ⟨_, _, _, q, _⟩ := h
  rw [← e, n] at q
  cases q
section
variable {P : Program} {w : World} {K : PySem.W.Frag} {mg : Str → Option Value} {base : Heap}
structure TxtD (mg : Str → Option Value) (fD : Addr) : Prop extends Txt0 mg where
  gD : mg "_law_dip" = some (.ref fD)
theorem scItems : FnScope ["pouch", "many", "style", "found", "fresh", "near", "pick"] ["pouch", "many"] (defScope sItems) := ⟨rfl, rfl, rfl, by decide +kernel, rfl, by decide +kernel, by decide +kernel⟩
theorem ok_items {f fD : Addr} {fd fdD : FuncData} (F : Fun K "_law_items" "_law_items" sItems f fd) (T : TxtD mg fD) (FD : Fun K "_law_dip" "_law_dip" sDip fD fdD) (bD : Binds K fdD ["pouch", "wide"] []) : FnOk P w K mg base CX0 2 f fd ["pouch", "many"] spItems := by
  have GD : FnOk P w K mg base CX0 1 fD fdD ["pouch", "wide"] spDip := ok_dip FD T.toTxt0
  refine F.ok scItems (fun vs H Q E h => ?_) (fun cdv A outer s H vs Q E hr h => ?_)
  · obtain ⟨p, mn, m, rfl, _⟩ := h
    rfl
  · obtain ⟨p, mn, m, rfl, hP, hm, hmn, hmx, k⟩ := h
    refine ⟨_, (pss_cons (ps_par (i := 2) (j := 3) (by rfl) scItems.nd rfl rfl (by decide) rfl rfl (pa_cons (pe_call GD (hr.mono (by decide)) rfl T.gD FD.kp bD .nil pass0 (pa_cons (pv 0) (pa_cons pe_int pa_nil))) (pa_cons (pe_lst pa_nil) pa_nil)) (by rfl))
      (pss_cons (ps_for PassesOwn.never rfl (pi_range2 (by rfl) T.range (pa_cons pe_int (pa_cons (pv 1) pa_nil))) (pg_name (i := 4) scItems.nd rfl (.inl rfl))
      (pss_cons (ps_set (i := 5) scItems.nd rfl (.inl rfl) (pe_lst (pa_cons (pe_op op_add (pe_op op_sub (pe_call GD (hr.mono (by decide)) rfl T.gD FD.kp bD .nil pass0 (pa_cons (pv 0) (pa_cons (pe_op op_sub (pe_op op_mul pe_int (pv 4)) pe_int) pa_nil))) (pv 4)) pe_int) (pa_cons (pe_op op_sub (pv 4) pe_int) (pa_cons (pe_op op_sub pe_int (pv 4)) (pa_cons pe_int (pa_cons (pe_op op_sub pe_int (pe_callB (call_min2 rfl) (by rfl) T.min (by decide +kernel) (pa_cons pe_int (pa_cons (pe_op op_sub (pv 4) pe_int) pa_nil)))) pa_nil)))))))
      (pss_cons (ps_set (i := 6) scItems.nd rfl (.inl rfl) (pe_ix (r := rIxL K) ix_list (pe_lst (pa_cons (pe_call GD (hr.mono (by decide)) rfl T.gD FD.kp bD .nil pass0 (pa_cons (pv 0) (pa_cons pe_int pa_nil))) (pa_cons pe_int (pa_cons pe_int (pa_cons pe_int (pa_cons (pe_ix (r := rIxL K) ix_list (pe_lst (pa_cons pe_int (pa_cons pe_int pa_nil))) (pe_call GD (hr.mono (by decide)) rfl T.gD FD.kp bD .nil pass0 (pa_cons (pv 0) (pa_cons pe_int pa_nil))) (fun _ _ => rfl)) (pa_cons (pe_ix (r := rIxL K) ix_list (pe_lst (pa_cons pe_int (pa_cons pe_int pa_nil))) (pe_call GD (hr.mono (by decide)) rfl T.gD FD.kp bD .nil pass0 (pa_cons (pv 0) (pa_cons pe_int pa_nil))) (fun _ _ => rfl)) pa_nil))))))) (pv 2) (fun _ _ => rfl)))
      (pss_one (ps_expr (pe_bm PySem.F.plainAttrs_list PySem.F.slot_list_append PySem.F.type_list_append mt_append (pv 3) (pa_cons (pe_ix (r := rIxL K) ix_list (pv 5) (pv 6) (fun _ _ => rfl)) pa_nil)))))))
      (pss_one (ps_ret (pv 3))))), ?_⟩
    refine ⟨_, rfl, p, _, _, rfl, hP, by omega, by decide, by decide, fun v0 H1 v00 v01 hP1 but1 => ⟨by decide, fun l hl => ⟨_, _, rfl, ?_⟩⟩⟩
    have nlp : l ≠ p := pch_ne hP1 hl
    have hl0 : H l = none := (but1 l nlp).symm.trans hl
    refine ⟨_, rfl, 1, mn, rfl, ⟨by decide, by decide, by omega, by omega⟩, for_range (lo := 1) (n := (mn - 1).toNat) (fun i σ H' => ∃ (xs : List Int) (f1 f2 f3 : Option V), σ = [some (.ref p), some (.int mn), some (.int v0), some (.ref l), f1, f2, f3] ∧ xs.length = i ∧ Bnd xs ∧ Pch H' p (m + 1 + 4 * i) ∧ Gr p H H' ∧ H' l = some (.lst (xs.map V.int)))
      ⟨[], none, none, none, rfl, rfl, (fun j x e => by rw [List.getElem?_nil] at e; cases e), (hP1.same (.new hl)).le (by omega), (but_gr but1).trans (.new hl), upd_same⟩ ?_ ?_⟩
    · rintro i σ H2 hi ⟨xs, f1, f2, f3, rfl, hxl, hb, hP2, gr2, e2⟩
      have hi20 : i < 19 := by omega
      -- near
      refine ⟨_, rfl, _, rfl, _, _, rfl, rfl, .inl ⟨by decide, by decide⟩, _, _, rfl, rfl, p, _, _, rfl, hP2, by omega, by omega, ?_, fun v1 H3 v10 v11 hP3 but3 => ?_⟩
      · show (2 * (1 + (i : Int)) - 1).natAbs < 2 ^ 200
        omega
      refine ⟨_, rfl, _, _, rfl, rfl, _, _, rfl, rfl, _, rfl, _, _, rfl, rfl, _, rfl, _, _, rfl, rfl, _, rfl, _, _, rfl, rfl, _, _, rfl, _, _, rfl, rfl, (by show 5 ≤ sizeLine; decide), fun q1 hq1 => ?_⟩
      have nq1 := pch_ne hP3 hq1
      have el3 := but_at but3 e2 nlp
      obtain ⟨nr, hnr⟩ : ∃ nr : List V, nr = [.int (v1 - (1 + (i : Int)) + 1), .int (1 + (i : Int) - 1), .int (1 - (1 + (i : Int))), .int 0, .int (0 - (if 1 + (i : Int) - 1 < 1 then 1 + (i : Int) - 1 else 1))] := ⟨_, rfl⟩
      have nb : ∀ z ∈ nr, ∃ y : Int, z = .int y ∧ -(i : Int) ≤ y ∧ y ≤ (i : Int) := by
        intro z hz
        rw [hnr] at hz
        simp only [List.mem_cons, List.not_mem_nil, or_false] at hz
        rcases hz with rfl | rfl | rfl | rfl | rfl
        · exact ⟨_, rfl, by omega, by omega⟩
        · exact ⟨_, rfl, by omega, by omega⟩
        · exact ⟨_, rfl, by omega, by omega⟩
        · exact ⟨_, rfl, by omega, by omega⟩
        · refine ⟨_, rfl, ?_, ?_⟩ <;> (split <;> omega)
      have el4 : upd H3 q1 (.lst nr) l = some (.lst (xs.map V.int)) := (upd_ne (ne_of_none el3 hq1)).trans el3
      have hP4 : Pch (upd H3 q1 (.lst nr)) p (m + 1 + 4 * i + 1) := hP3.same (.new hq1)
      -- pick
      refine ⟨_, rfl, p, _, _, rfl, (by rw [← hnr]; exact hP4), by omega, by decide, by decide, fun v2 H5 v20 v21 hP5 but5 => ?_⟩
      rw [← hnr] at but5
      refine ⟨(by show 2 ≤ sizeLine; decide), fun q2 hq2 => ⟨_, rfl, p, _, _, rfl, hP5.same (.new hq2), by omega, by decide, by decide, fun v3 H6 v30 v31 hP6 but6 => ?_⟩⟩
      have nq2 := pch_ne hP5 hq2
      obtain ⟨z3, hz3, ez3⟩ := at_in (xs := [V.int 0, V.int 3]) v30 v31
      refine ⟨q2, _, v3, z3, rfl, rfl, SqL.of (but_at but6 upd_same nq2), ez3, (by show 2 ≤ sizeLine; decide), fun q3 hq3 => ⟨_, rfl, p, _, _, rfl, hP6.same (.new hq3), by omega, by decide, by decide, fun v4 H7 v40 v41 hP7 but7 => ?_⟩⟩
      have nq3 := pch_ne hP6 hq3
      obtain ⟨z4, hz4, ez4⟩ := at_in (xs := [V.int 0, V.int 4]) v40 v41
      refine ⟨q3, _, v4, z4, rfl, rfl, SqL.of (but_at but7 upd_same nq3), ez4, (by show 6 ≤ sizeLine; decide), fun q4 hq4 => ?_⟩
      obtain ⟨z5, hz5, ez5⟩ := at_in (xs := [V.int v2, V.int 0, V.int 1, V.int 2, z3, z4]) v00 v01
      have pk : ∃ y : Int, z5 = .int y ∧ 0 ≤ y ∧ y < 5 := by
        simp only [List.mem_cons, List.not_mem_nil, or_false] at hz5 hz3 hz4
        rcases hz5 with rfl | rfl | rfl | rfl | rfl | rfl
        · exact ⟨_, rfl, v20, v21⟩
        · exact ⟨_, rfl, by decide, by decide⟩
        · exact ⟨_, rfl, by decide, by decide⟩
        · exact ⟨_, rfl, by decide, by decide⟩
        · rcases hz3 with rfl | rfl <;> exact ⟨_, rfl, by decide, by decide⟩
        · rcases hz4 with rfl | rfl <;> exact ⟨_, rfl, by decide, by decide⟩
      obtain ⟨y, rfl, y0, y1⟩ := pk
      refine ⟨_, rfl, q4, _, v0, .int y, rfl, rfl, SqL.of upd_same, ez5, ?_⟩
      -- append
      have gr7 : Gr p (upd H3 q1 (.lst nr)) (upd H7 q4 (.lst [V.int v2, V.int 0, V.int 1, V.int 2, z3, z4])) := ((((but_gr but5).trans (.new hq2)).trans (but_gr but6)).trans (.new hq3)).trans ((but_gr but7).trans (.new hq4))
      have eq1 := gr7 q1 _ nq1 upd_same
      have el7 := gr7 l _ nlp el4
      obtain ⟨z6, hz6, ez6⟩ := at_in (xs := nr) (v := y) y0 (by rw [hnr]; exact y1)
      obtain ⟨x, rfl, x0, x1⟩ := nb z6 hz6
      refine ⟨_, rfl, .inl ⟨rfl, _, SqL.of el7⟩, _, rfl, _, rfl, q1, _, y, .int x, rfl, rfl, SqL.of eq1, ez6, l, _, _, rfl, rfl, el7, ?_, ?_⟩
      · rw [List.length_map]
        exact small1000 (by omega)
      · refine ⟨xs ++ [x], _, _, _, rfl, by rw [List.length_append, hxl]; rfl, hb.add (by omega) (by omega), ?_, ?_, by rw [upd_same, List.map_append]; rfl⟩
        · obtain ⟨d, b, n, e, b0, b1, n0, n1⟩ := (hP7.same (H' := upd H7 q4 (.lst [V.int v2, V.int 0, V.int 1, V.int 2, z3, z4])) (.new hq4))
          exact ⟨d, b, n, (upd_ne nlp.symm).trans e, b0, b1, n0, by omega⟩
        · intro b o nb' eb
          rcases Classical.em (b = l) with e | e
          · rw [e, hl0] at eb
            cases eb
          · rw [upd_ne e]
            exact gr7 b o nb' ((Gr.new hq1 : Gr p H3 _) b o nb' (but_gr but3 b o nb' (gr2 b o nb' eb)))
    · rintro σ H2 ⟨xs, f1, f2, f3, rfl, hxl, hb, hP2, gr2, e2⟩
      exact ⟨_, rfl, k l xs H2 (by omega) hb (hP2.le (by omega)) gr2 hl0 e2⟩
end
end K02

namespace K02
open PySem PySem.Spec PyProof.Rows L2 SortR LcM
abbrev sNumber : Stmt := top 8
abbrev sPerson : Stmt := top 9
abbrev sAsc : Stmt := top 10
abbrev sPList : Stmt := top 11
abbrev sGroup : Stmt := top 12
abbrev sMask : Stmt := top 14
abbrev sCross : Stmt := top 15
abbrev sAny : Stmt := top 16
abbrev sParting : Stmt := top 18
abbrev sPersons : Stmt := top 19
/-- the program's defs, where they stand -/
structure ProgF (K : PySem.W.Frag) (mg : Str → Option Value) where
  (fNum fPer fAsc fPL fGr fMask fCross fAny fIs fPs : Addr)
  (dNum dPer dAsc dPL dGr dMask dCross dAny dIs dPs : FuncData)
  FNum : Fun K "is_number" "is_number" sNumber fNum dNum
  FPer : Fun K "is_person" "is_person" sPerson fPer dPer
  FAsc : Fun K "is_ascending" "is_ascending" sAsc fAsc dAsc
  FPL : Fun K "is_person_list" "is_person_list" sPList fPL dPL
  FGr : Fun K "is_group" "is_group" sGroup fGr dGr
  FMask : Fun K "mask_of" "mask_of" sMask fMask dMask
  FCross : Fun K "masks_cross" "masks_cross" sCross fCross dCross
  FAny : Fun K "any_cross" "any_cross" sAny fAny dAny
  FIs : Fun K "is_parting" "is_parting" sParting fIs dIs
  FPs : Fun K "persons_of" "persons_of" sPersons fPs dPs
  gNum : mg "is_number" = some (.ref fNum)
  gPer : mg "is_person" = some (.ref fPer)
  gAsc : mg "is_ascending" = some (.ref fAsc)
  gPL : mg "is_person_list" = some (.ref fPL)
  gGr : mg "is_group" = some (.ref fGr)
  gMask : mg "mask_of" = some (.ref fMask)
  gCross : mg "masks_cross" = some (.ref fCross)
  gAny : mg "any_cross" = some (.ref fAny)
  gIs : mg "is_parting" = some (.ref fIs)
  gPs : mg "persons_of" = some (.ref fPs)
  bNum : Binds K dNum ["thing"] []
  bPer : Binds K dPer ["thing", "persons"] []
  bAsc : Binds K dAsc ["items"] []
  bPL : Binds K dPL ["thing", "persons"] []
  bGr : Binds K dGr ["thing", "persons"] []
  bMask : Binds K dMask ["group"] []
  bCross : Binds K dCross ["one", "other"] []
  bAny : Binds K dAny ["groups"] []
  bIs : Binds K dIs ["thing"] []
  bPs : Binds K dPs ["parting"] []
  gComb : mg "combinations" = some (.type "itertools.combinations")
  mostT : Tok
  gMost : mg "MOST_PERSONS" = some (.int 20 mostT)
/-- the built-in kinds that may come -/
def kinds : List String := ["int", "bool", "str", "NoneType", "list", "tuple", "dict"]
structure TxtP (mg : Str → Option Value) : Prop where
  isi : mg "isinstance" = none
  int : mg "int" = none
  bool : mg "bool" = none
  list : mg "list" = none
  len : mg "len" = none
  all : mg "all" = none
  any : mg "any" = none
  sum : mg "sum" = none
  zip : mg "zip" = none
  sorted : mg "sorted" = none
  tuple : mg "tuple" = none
  range : mg "range" = none
  enumerate : mg "enumerate" = none
def spNumber (K : PySem.W.Frag) : Sp := fun vs H Q _ => ∃ (x : V) (t : String), vs = [x] ∧ TyX K H x (.type t) ∧ t ∈ kinds ∧ Q (.bl (decide (t = "int"))) H
def spPerson (K : PySem.W.Frag) : Sp := fun vs H Q _ => ∃ (x : V) (t : String) (n : Int), vs = [x, .int n] ∧ TyX K H x (.type t) ∧ t ∈ kinds ∧ (t = "int" → ∃ i, x = .int i ∧ Q (.bl (decide (0 ≤ i) && decide (i < n))) H) ∧ (t ≠ "int" → Q (.bl false) H)
/-- each below the one behind it -/
def ascI (ns : List Int) : Bool := (List.range (ns.length - 1)).all fun i => decide (ns.getD i 0 < ns.getD (i + 1) 0)
def ascR (rs : List (List Int)) : Bool := (List.range (rs.length - 1)).all fun i => decide (rs.getD i [] < rs.getD (i + 1) [])
def spAscI (K : PySem.W.Frag) : Sp := fun vs H Q _ => ∃ (a : Addr) (ns : List Int), vs = [.ref a] ∧ SqL K H a (ns.map V.int) ∧ ns.length ≤ 1000 ∧ ∀ H', Grows H H' → Q (.bl (ascI ns)) H'
def spAscR (K : PySem.W.Frag) : Sp := fun vs H Q _ => ∃ (a : Addr) (bs : List (Addr × List Int)), vs = [.ref a] ∧ SqL K H a (bs.map fun b => V.ref b.1) ∧ (∀ b ∈ bs, SqL K H b.1 (b.2.map V.int)) ∧ bs.length ≤ 1000 ∧ ∀ H', Grows H H' → Q (.bl (ascR (bs.map (·.2)))) H'
section
variable {P : Program} {w : World} {K : PySem.W.Frag} {mg : Str → Option Value} {base : Heap}
theorem scNumber : FnScope ["thing"] ["thing"] (defScope sNumber) := ⟨rfl, rfl, rfl, by decide +kernel, rfl, by decide +kernel, by decide +kernel⟩
theorem scPerson : FnScope ["thing", "persons"] ["thing", "persons"] (defScope sPerson) := ⟨rfl, rfl, rfl, by decide +kernel, rfl, by decide +kernel, by decide +kernel⟩
theorem scAsc : FnScope ["items", "low", "high"] ["items"] (defScope sAsc) := ⟨rfl, rfl, rfl, by decide +kernel, rfl, by decide +kernel, by decide +kernel⟩
theorem ok_number {f : Addr} {fd : FuncData} (F : Fun K "is_number" "is_number" sNumber f fd) (T : TxtP mg) : FnOk P w K mg base CX0 1 f fd ["thing"] (spNumber K) := by
  refine F.ok scNumber (fun vs H Q E h => ?_) (fun cdv A outer s H vs Q E hr h => ?_)
  · obtain ⟨x, t, rfl, _⟩ := h
    rfl
  · obtain ⟨x, t, rfl, ty, hk, k⟩ := h
    refine ⟨_, (pss_one (ps_ret (pe_and (pe_callB call_isi (by rfl) T.isi (by decide +kernel) (pa_cons (pv 0) (pa_cons (pe_bltn (v := .ty "int") (u := .type "int") (by rfl) T.int (by decide +kernel) rfl) pa_nil))) (pe_one (pe_not (pe_callB call_isi (by rfl) T.isi (by decide +kernel) (pa_cons (pv 0) (pa_cons (pe_bltn (v := .ty "bool") (u := .type "bool") (by rfl) T.bool (by decide +kernel) rfl) pa_nil)))))))), ?_⟩
    simp only [kinds, List.mem_cons, List.not_mem_nil, or_false] at hk
    rcases hk with rfl | rfl | rfl | rfl | rfl | rfl | rfl
    · exact ⟨_, rfl, _, _, _, _, true, rfl, .ty "int", ty, kit_ty (by decide +kernel), true, rfl, _, rfl, _, _, _, _, false, rfl, .ty "bool", ty, kit_ty (by decide +kernel), false, rfl, k⟩
    · exact ⟨_, rfl, _, _, _, _, true, rfl, .ty "int", ty, kit_ty (by decide +kernel), true, rfl, _, rfl, _, _, _, _, true, rfl, .ty "bool", ty, kit_ty (by decide +kernel), true, rfl, k⟩
    all_goals exact ⟨_, rfl, _, _, _, _, false, rfl, .ty "int", ty, kit_ty (by decide +kernel), false, rfl, k⟩
theorem ok_person (Z : ProgF K mg) (T : TxtP mg) : FnOk P w K mg base CX0 2 Z.fPer Z.dPer ["thing", "persons"] (spPerson K) := by
  have GNum : FnOk P w K mg base CX0 1 Z.fNum Z.dNum ["thing"] (spNumber K) := ok_number Z.FNum T
  refine Z.FPer.ok scPerson (fun vs H Q E h => ?_) (fun cdv A outer s H vs Q E hr h => ?_)
  · obtain ⟨x, t, n, rfl, _⟩ := h
    rfl
  · obtain ⟨x, t, n, rfl, ty, hk, k1, k2⟩ := h
    refine ⟨_, (pss_one (ps_ret (pe_and (pe_call GNum (hr.mono (by decide)) rfl Z.gNum Z.FNum.kp Z.bNum .nil pass0 (pa_cons (pv 0) pa_nil)) (pe_one (pe_chain op_le op_lt pe_int (pv 0) (pv 1)))))), ?_⟩
    refine ⟨_, rfl, x, t, rfl, ty, hk, ?_⟩
    by_cases e : t = "int"
    · obtain ⟨i, rfl, q⟩ := k1 e
      refine ⟨_, rfl, ?_⟩
      rw [if_pos (decide_eq_true e)]
      refine ⟨_, rfl, _, _, rfl, rfl, _, rfl, ?_⟩
      by_cases l : 0 ≤ i
      · rw [if_pos (decide_eq_true l)]
        refine ⟨_, rfl, _, _, rfl, rfl, ?_⟩
        rw [decide_eq_true l, Bool.true_and] at q
        exact q
      · rw [if_neg (by rw [decide_eq_false l]; exact Bool.false_ne_true)]
        rw [decide_eq_false l, Bool.false_and] at q
        exact q
    · refine ⟨_, rfl, ?_⟩
      rw [if_neg (by rw [decide_eq_false e]; exact Bool.false_ne_true)]
      exact k2 e
theorem at_map {α : Type} {f : α → V} {ns : List α} {i : Nat} {x : V} {d : α} (h : (ns.map f)[i]? = some x) : x = f (ns.getD i d) := by
  rw [List.getElem?_map] at h
  obtain ⟨z, hz, e⟩ := Option.map_eq_some_iff.mp h
  rw [← e, List.getD_eq_getElem?_getD, hz]
  rfl
theorem at_tail {α : Type} {f : α → V} {ns : List α} {i : Nat} {x : V} {d : α} (h : (ns.map f).tail[i]? = some x) : x = f (ns.getD (i + 1) d) := by
  rw [List.getElem?_tail] at h
  exact at_map h
theorem all_rng (n : Nat) (p : Nat → Bool) : ((List.range n).map p).all id = (List.range n).all p := by
  rw [List.all_map]
  rfl
theorem ok_ascI {f : Addr} {fd : FuncData} (F : Fun K "is_ascending" "is_ascending" sAsc f fd) (T : TxtP mg) : FnOk P w K mg base CX0 1 f fd ["items"] (spAscI K) := by
  refine F.ok scAsc (fun vs H Q E h => ?_) (fun cdv A outer s H vs Q E hr h => ?_)
  · obtain ⟨a, ns, rfl, _⟩ := h
    rfl
  · obtain ⟨a, ns, rfl, hS, hn, k⟩ := h
    refine ⟨_, (pss_one (ps_ret (pe_callB (cr_all rfl) (by rfl) T.all (by decide +kernel) (pa_cons (pe_lc (own := [("low", 1), ("high", 2)]) (g := gTup K 2 (gCons (gName 1) (gCons (gName 2) gNil))) (tt := tYes) rfl scAsc.nd (pi_zip (by rfl) T.zip (pa_cons (pv 0) (pa_cons (pe_slice sl_list (pv 0) (po_some pe_int) po_none) pa_nil))) (blkOk_by (own := [("low", 1), ("high", 2)]) (N := ["items", "low", "high"]) (sc := defScope sAsc) (by decide +kernel)) (fun _ _ _ _ _ => pg_tup rfl (pgs_cons (pg_name (i := 1) scAsc.nd rfl (Or.inl rfl)) (pgs_cons (pg_name (i := 2) scAsc.nd rfl (Or.inl rfl)) pgs_nil))) (fun _ _ _ _ _ => pts_nil) (fun _ _ _ _ _ => (pe_cmpR op_lt (pv 1) (pv 2) (nomark _)))) pa_nil)))), ?_⟩
    refine ⟨_, rfl, _, rfl, 1, rfl, a, _, rfl, hS, fun c nc => ?_⟩
    rw [cut_tail]
    refine ⟨a, c, _, _, rfl, (Grows.new nc).seq hS, SqL.of upd_same, fun D hD => lc_zipM (K := K) (fun i => V.bl (decide (ns.getD i 0 < ns.getD (i + 1) 0))) hD ((Grows.new nc).seq hS) (SqL.of upd_same) (by rw [List.length_map]; omega) (fun i x y T H' R hx hy sm hT kR => ?_) fun H' sm eD => ?_⟩
    · refine ⟨T, _, rfl, SqT.of upd_same, rfl, _, _, rfl, _, _, rfl, rfl, ?_⟩
      obtain rfl := at_map (d := 0) hx
      obtain rfl := at_tail (d := 0) hy
      exact ⟨rfl, _, rfl, _, rfl, _, _, rfl, rfl, kR _ .refl⟩
    · have e : min (ns.map V.int).length (ns.map V.int).tail.length = ns.length - 1 := by
        rw [List.length_tail, List.length_map]
        omega
      rw [e] at eD
      refine ⟨D, (List.range (ns.length - 1)).map fun i => decide (ns.getD i 0 < ns.getD (i + 1) 0), rfl, SqL.of (by rw [eD, List.map_map]; rfl), ?_⟩
      rw [all_rng]
      exact k H' ((Grows.new nc).trans sm)
theorem ok_ascR {f : Addr} {fd : FuncData} (F : Fun K "is_ascending" "is_ascending" sAsc f fd) (T : TxtP mg) : FnOk P w K mg base CX0 1 f fd ["items"] (spAscR K) := by
  refine F.ok scAsc (fun vs H Q E h => ?_) (fun cdv A outer s H vs Q E hr h => ?_)
  · obtain ⟨a, bs, rfl, _⟩ := h
    rfl
  · obtain ⟨a, bs, rfl, hS, hb, hn, k⟩ := h
    refine ⟨_, (pss_one (ps_ret (pe_callB (cr_all rfl) (by rfl) T.all (by decide +kernel) (pa_cons (pe_lc (own := [("low", 1), ("high", 2)]) (g := gTup K 2 (gCons (gName 1) (gCons (gName 2) gNil))) (tt := tYes) rfl scAsc.nd (pi_zip (by rfl) T.zip (pa_cons (pv 0) (pa_cons (pe_slice sl_list (pv 0) (po_some pe_int) po_none) pa_nil))) (blkOk_by (own := [("low", 1), ("high", 2)]) (N := ["items", "low", "high"]) (sc := defScope sAsc) (by decide +kernel)) (fun _ _ _ _ _ => pg_tup rfl (pgs_cons (pg_name (i := 1) scAsc.nd rfl (Or.inl rfl)) (pgs_cons (pg_name (i := 2) scAsc.nd rfl (Or.inl rfl)) pgs_nil))) (fun _ _ _ _ _ => pts_nil) (fun _ _ _ _ _ => (pe_cmpR (r := rLtR K) (op_ltR (by exact hr.units)) (pv 1) (pv 2) (nomark _)))) pa_nil)))), ?_⟩
    refine ⟨_, rfl, _, rfl, 1, rfl, a, _, rfl, hS, fun c nc => ?_⟩
    rw [cut_tail]
    have hbD : ∀ i : Nat, i < bs.length → SqL K H (bs.getD i (0, [])).1 ((bs.getD i (0, [])).2.map V.int) := fun i hi => by
      rw [List.getD_eq_getElem?_getD, List.getElem?_eq_getElem hi]
      exact hb _ (List.getElem_mem hi)
    refine ⟨a, c, _, _, rfl, (Grows.new nc).seq hS, SqL.of upd_same, fun D hD => lc_zipM (K := K) (fun i => V.bl (decide ((bs.getD i (0, [])).2 < (bs.getD (i + 1) (0, [])).2))) hD ((Grows.new nc).seq hS) (SqL.of upd_same) (by rw [List.length_map]; omega) (fun i x y T H' R hx hy sm hT kR => ?_) fun H' sm eD => ?_⟩
    · have i1 := (List.getElem?_eq_some_iff.mp hx).1
      have i2 := (List.getElem?_eq_some_iff.mp hy).1
      rw [List.length_map] at i1
      rw [List.length_tail, List.length_map] at i2
      refine ⟨T, _, rfl, SqT.of upd_same, rfl, _, _, rfl, _, _, rfl, rfl, ?_⟩
      obtain rfl := at_map (d := (0, [])) hx
      obtain rfl := at_tail (d := (0, [])) hy
      have st : Grows H (upd H' T (.tup [V.ref (bs.getD i (0, [])).1, V.ref (bs.getD (i + 1) (0, [])).1])) := ((Grows.new nc).trans sm).trans (Grows.new hT)
      exact ⟨rfl, _, rfl, _, rfl, _, _, _, _, rfl, rfl, st.seq (hbD i i1), st.seq (hbD (i + 1) (by omega)), kR _ .refl⟩
    · have e : min (bs.map fun b => V.ref b.1).length (bs.map fun b => V.ref b.1).tail.length = bs.length - 1 := by
        rw [List.length_tail, List.length_map]
        omega
      rw [e] at eD
      refine ⟨D, (List.range (bs.length - 1)).map fun i => decide ((bs.getD i (0, [])).2 < (bs.getD (i + 1) (0, [])).2), rfl, SqL.of (by rw [eD, List.map_map]; rfl), ?_⟩
      rw [all_rng]
      have q := k H' ((Grows.new nc).trans sm)
      unfold ascR at q
      rw [List.length_map] at q
      have fe : ∀ i, (bs.map (·.2)).getD i [] = (bs.getD i (0, [])).2 := fun i => by
        rw [List.getD_eq_getElem?_getD, List.getD_eq_getElem?_getD, List.getElem?_map]
        cases bs[i]? <;> rfl
      simp only [fe] at q
      exact q
end
end K02

namespace K02
open PySem PySem.Spec PyProof.Rows L2 SortR LcM
theorem ty_list {K : PySem.W.Frag} {H : Hp} {a : Addr} {xs : List V} (h : SqL K H a xs) : TyX K H (.ref a) (.type "list") := by
  rcases h with (h | ⟨o, h⟩) | ⟨o, its, n, h, hc, _⟩
  · exact .base (.lst h)
  · exact .base (.frz h)
  · exact .kList h hc
def inR (n : Int) (ns : List Int) : Bool := (List.range ns.length).all fun i => decide (0 ≤ ns.getD i 0) && decide (ns.getD i 0 < n)
def plist (n : Int) (ns : List Int) : Bool := inR n ns && ascI ns
def group (n : Int) (ns : List Int) : Bool := plist n ns && decide (2 ≤ (ns.length : Int))
def maskI (ns : List Int) : Int := ((List.range ns.length).map fun i => 1 * 2 ^ (ns.getD i 0).toNat).sum
def crossI (i j : Int) : Bool := !inV (.int (Builtin.bitAnd i j)) [.int 0, .int i, .int j]
def anyX (rs : List (List Int)) : Bool := (List.range (Comb.prs rs.length).length).any fun t => crossI (maskI (rs.getD ((Comb.prs rs.length).getD t (0, 0)).1 [])) (maskI (rs.getD ((Comb.prs rs.length).getD t (0, 0)).2 []))
def isP (rs : List (List Int)) : Bool := decide ((rs.length : Int) < 20) && ((List.range rs.length).all fun i => group (rs.length + 1) (rs.getD i [])) && ascR rs && !anyX rs
def spPL (K : PySem.W.Frag) (m : Int → List Int → Bool) : Sp := fun vs H Q _ => ∃ (a : Addr) (n : Int) (ns : List Int), vs = [.ref a, .int n] ∧ SqL K H a (ns.map V.int) ∧ ns.length ≤ 1000 ∧ ∀ H', Grows H H' → Q (.bl (m n ns)) H'
def spMask (K : PySem.W.Frag) : Sp := fun vs H Q _ => ∃ (a : Addr) (ns : List Int), vs = [.ref a] ∧ SqL K H a (ns.map V.int) ∧ ns.length ≤ 1000 ∧ (∀ x ∈ ns, 0 ≤ x ∧ x ≤ 1000) ∧ ∀ H', Grows H H' → Q (.int (maskI ns)) H'
def spCross : Sp := fun vs H Q _ => ∃ (i j : Int), vs = [.int i, .int j] ∧ ∀ H', Grows H H' → Q (.bl (crossI i j)) H'
section
variable {P : Program} {w : World} {K : PySem.W.Frag} {mg : Str → Option Value} {base : Heap}
theorem scPList : FnScope ["thing", "persons", "item"] ["thing", "persons"] (defScope sPList) := ⟨rfl, rfl, rfl, by decide +kernel, rfl, by decide +kernel, by decide +kernel⟩
theorem scGroup : FnScope ["thing", "persons"] ["thing", "persons"] (defScope sGroup) := ⟨rfl, rfl, rfl, by decide +kernel, rfl, by decide +kernel, by decide +kernel⟩
theorem scMask : FnScope ["group", "person"] ["group"] (defScope sMask) := ⟨rfl, rfl, rfl, by decide +kernel, rfl, by decide +kernel, by decide +kernel⟩
theorem scCross : FnScope ["one", "other"] ["one", "other"] (defScope sCross) := ⟨rfl, rfl, rfl, by decide +kernel, rfl, by decide +kernel, by decide +kernel⟩
theorem ok_plist (Z : ProgF K mg) (T : TxtP mg) : FnOk P w K mg base CX0 3 Z.fPL Z.dPL ["thing", "persons"] (spPL K plist) := by
  have GPer : FnOk P w K mg base CX0 2 Z.fPer Z.dPer ["thing", "persons"] (spPerson K) := ok_person Z T
  have GAsc : FnOk P w K mg base CX0 1 Z.fAsc Z.dAsc ["items"] (spAscI K) := ok_ascI Z.FAsc T
  refine Z.FPL.ok scPList (fun vs H Q E h => ?_) (fun cdv A outer s H vs Q E hr h => ?_)
  · obtain ⟨a, n, ns, rfl, _⟩ := h
    rfl
  · obtain ⟨a, n, ns, rfl, hS, hn, k⟩ := h
    refine ⟨_, (pss_cons (ps_if (pt_not (pt_val (pe_callB call_isi (by rfl) T.isi (by decide +kernel) (pa_cons (pv 0) (pa_cons (pe_bltn (v := .ty "list") (u := .type "list") (by rfl) T.list (by decide +kernel) rfl) pa_nil))))) (pss_one (ps_ret pe_bl)) pss_nil)
      (pss_one (ps_ret (pe_and (pe_callB (cr_all rfl) (by rfl) T.all (by decide +kernel) (pa_cons (pe_lc (own := [("item", 2)]) (g := gName 2) (tt := tYes) rfl scPList.nd (pi_list (pv 0)) (blkOk_by (own := [("item", 2)]) (N := ["thing", "persons", "item"]) (sc := defScope sPList) (by decide +kernel)) (fun _ _ _ _ _ => pg_name (i := 2) scPList.nd rfl (Or.inl rfl)) (fun _ _ _ _ _ => pts_nil) (fun _ _ _ _ _ => (pe_call GPer (hr.mono (by decide)) rfl Z.gPer Z.FPer.kp Z.bPer .nil pass0 (pa_cons (pv 2) (pa_cons (pv 1) pa_nil))))) pa_nil)) (pe_one (pe_call GAsc (hr.mono (by decide)) rfl Z.gAsc Z.FAsc.kp Z.bAsc .nil pass0 (pa_cons (pv 0) pa_nil))))))), ?_⟩
    refine ⟨_, rfl, _, _, _, _, true, rfl, .ty "list", ty_list hS, kit_ty (by decide +kernel), true, rfl, ?_⟩
    refine iteF ⟨_, rfl, a, rfl, ⟨_, hS⟩, fun D hD => lc_listM (K := K) (fun i => V.bl (decide (0 ≤ ns.getD i 0) && decide (ns.getD i 0 < n))) hD hS (by rw [List.length_map]; omega) (fun i x H' R hx sm kR => ?_) fun H' sm eD => ?_⟩
    · obtain rfl := at_map (d := 0) hx
      refine ⟨rfl, _, rfl, _, rfl, _, "int", n, rfl, .base (.int _), by decide, fun _ => ⟨_, rfl, kR _ .refl⟩, fun z => absurd rfl z⟩
    · rw [List.length_map] at eD
      refine ⟨D, (List.range ns.length).map fun i => decide (0 ≤ ns.getD i 0) && decide (ns.getD i 0 < n), rfl, SqL.of (by rw [eD, List.map_map]; rfl), _, rfl, ?_⟩
      rw [all_rng]
      show if inR n ns = true then _ else _
      by_cases hi : inR n ns = true
      · rw [if_pos hi]
        refine ⟨_, rfl, a, ns, rfl, sm.seq hS, hn, fun H2 s2 => ?_⟩
        have q := k H2 (sm.trans s2)
        unfold plist at q
        rw [hi, Bool.true_and] at q
        exact q
      · rw [if_neg hi]
        have q := k H' sm
        unfold plist at q
        rw [Bool.eq_false_iff.mpr hi, Bool.false_and] at q
        exact q
theorem ok_group (Z : ProgF K mg) (T : TxtP mg) : FnOk P w K mg base CX0 4 Z.fGr Z.dGr ["thing", "persons"] (spPL K group) := by
  have GPL : FnOk P w K mg base CX0 3 Z.fPL Z.dPL ["thing", "persons"] (spPL K plist) := ok_plist Z T
  refine Z.FGr.ok scGroup (fun vs H Q E h => ?_) (fun cdv A outer s H vs Q E hr h => ?_)
  · obtain ⟨a, n, ns, rfl, _⟩ := h
    rfl
  · obtain ⟨a, n, ns, rfl, hS, hn, k⟩ := h
    refine ⟨_, (pss_one (ps_ret (pe_and (pe_call GPL (hr.mono (by decide)) rfl Z.gPL Z.FPL.kp Z.bPL .nil pass0 (pa_cons (pv 0) (pa_cons (pv 1) pa_nil))) (pe_one (pe_cmpR op_ge (pe_callB call_len_seq (by rfl) T.len (by decide +kernel) (pa_cons (pv 0) pa_nil)) pe_int (nomark _)))))), ?_⟩
    refine ⟨_, rfl, _, rfl, a, n, ns, rfl, hS, hn, fun H2 s2 => ⟨_, rfl, ?_⟩⟩
    have q := k H2 s2
    unfold group at q
    by_cases hi : plist n ns = true
    · rw [if_pos hi]
      rw [hi, Bool.true_and] at q
      refine ⟨_, rfl, a, _, rfl, .inl (s2.seq hS), _, _, rfl, rfl, ?_⟩
      rw [List.length_map]
      exact q
    · rw [if_neg hi]
      rw [Bool.eq_false_iff.mpr hi, Bool.false_and] at q
      exact q
theorem ok_mask (Z : ProgF K mg) (T : TxtP mg) : FnOk P w K mg base CX0 1 Z.fMask Z.dMask ["group"] (spMask K) := by
  refine Z.FMask.ok scMask (fun vs H Q E h => ?_) (fun cdv A outer s H vs Q E hr h => ?_)
  · obtain ⟨a, ns, rfl, _⟩ := h
    rfl
  · obtain ⟨a, ns, rfl, hS, hn, hr0, k⟩ := h
    refine ⟨_, (pss_one (ps_ret (pe_callB (cr_sum rfl) (by rfl) T.sum (by decide +kernel) (pa_cons (pe_lc (own := [("person", 1)]) (g := gName 1) (tt := tYes) rfl scMask.nd (pi_list (pv 0)) (blkOk_by (own := [("person", 1)]) (N := ["group", "person"]) (sc := defScope sMask) (by decide +kernel)) (fun _ _ _ _ _ => pg_name (i := 1) scMask.nd rfl (Or.inl rfl)) (fun _ _ _ _ _ => pts_nil) (fun _ _ _ _ _ => (pe_op op_shl pe_int (pv 1)))) pa_nil)))), ?_⟩
    refine ⟨_, rfl, a, rfl, ⟨_, hS⟩, fun D hD => lc_listM (K := K) (fun i => V.int (1 * 2 ^ (ns.getD i 0).toNat)) hD hS (by rw [List.length_map]; omega) (fun i x H' R hx sm kR => ?_) fun H' sm eD => ?_⟩
    · have il := (List.getElem?_eq_some_iff.mp hx).1
      rw [List.length_map] at il
      obtain rfl := at_map (d := 0) hx
      have mem : ns.getD i 0 ∈ ns := by
        rw [List.getD_eq_getElem?_getD, List.getElem?_eq_getElem il]
        exact List.getElem_mem il
      obtain ⟨m0, m1⟩ := hr0 _ mem
      exact ⟨rfl, _, rfl, _, _, rfl, rfl, ⟨m0, by omega, by decide⟩, kR _ .refl⟩
    · rw [List.length_map] at eD
      refine ⟨D, (List.range ns.length).map fun i => 1 * 2 ^ (ns.getD i 0).toNat, rfl, SqL.of (by rw [eD, List.map_map]; rfl), ?_⟩
      exact k H' sm
theorem ok_cross (Z : ProgF K mg) : FnOk P w K mg base CX0 1 Z.fCross Z.dCross ["one", "other"] spCross := by
  refine Z.FCross.ok scCross (fun vs H Q E h => ?_) (fun cdv A outer s H vs Q E hr h => ?_)
  · obtain ⟨i, j, rfl, _⟩ := h
    rfl
  · obtain ⟨i, j, rfl, k⟩ := h
    refine ⟨_, (pss_one (ps_ret (pe_cmpR op_notIn_seq (pe_op op_and (pv 0) (pv 1)) (pe_tup (pa_cons pe_int (pa_cons (pv 0) (pa_cons (pv 1) pa_nil)))) (by rfl)))), ?_⟩
    refine ⟨_, rfl, _, rfl, _, _, rfl, rfl, _, rfl, _, rfl, (by show 3 ≤ sizeLine; decide), fun t ht => ⟨t, _, rfl, .inr (SqT.of upd_same), rfl, rfl, ?_⟩⟩
    exact k _ (Grows.new ht)
end
end K02

namespace K02
open PySem PySem.Spec PyProof.Rows L2 SortR LcM
/-- a list of lists of ints, as it stands -/
structure Rw (K : PySem.W.Frag) (H : Hp) (a : Addr) (bs : List (Addr × List Int)) : Prop where
  top : SqL K H a (bs.map fun b => V.ref b.1)
  each : ∀ b ∈ bs, SqL K H b.1 (b.2.map V.int)
theorem Rw.keep {K : PySem.W.Frag} {H H' : Hp} {a : Addr} {bs : List (Addr × List Int)} (r : Rw K H a bs) (s : Grows H H') : Rw K H' a bs := ⟨s.seq r.top, fun b m => s.seq (r.each b m)⟩
theorem Rw.at {K : PySem.W.Frag} {H : Hp} {a : Addr} {bs : List (Addr × List Int)} (r : Rw K H a bs) {i : Nat} (hi : i < bs.length) : SqL K H (bs.getD i (0, [])).1 ((bs.getD i (0, [])).2.map V.int) := by
  rw [List.getD_eq_getElem?_getD, List.getElem?_eq_getElem hi]
  exact r.each _ (List.getElem_mem hi)
theorem snd_at (bs : List (Addr × List Int)) (i : Nat) : (bs.map (·.2)).getD i [] = (bs.getD i (0, [])).2 := by
  rw [List.getD_eq_getElem?_getD, List.getD_eq_getElem?_getD, List.getElem?_map]
  cases bs[i]? <;> rfl
theorem mem_at {bs : List (Addr × List Int)} {i : Nat} (hi : i < bs.length) : (bs.getD i (0, [])).2 ∈ bs.map (·.2) := by
  rw [List.getD_eq_getElem?_getD, List.getElem?_eq_getElem hi]
  exact List.mem_map.mpr ⟨_, List.getElem_mem hi, rfl⟩
theorem none_back {H H' : Hp} {a : Addr} (s : Grows H H') (h : H' a = none) : H a = none := by
  rcases Option.eq_none_or_eq_some (H a) with z | ⟨o, z⟩
  · exact z
  · rw [s _ _ z] at h
    cases h
theorem nw_back {H0 H1 H : Hp} {cs : List (Addr × List Int)} (n : Nw H1 H cs) (s : Grows H0 H1) : Nw H0 H cs := ⟨n.lists, fun c m => none_back s (n.new c m), n.nodup⟩
theorem snd_of {cs : List (Addr × List Int)} {R : Nat → List Int} {n i : Nat} (e : cs.map (·.2) = (List.range n).map R) (hi : i < n) : (cs.getD i (0, [])).2 = R i := by
  rw [← snd_at, e, List.getD_eq_getElem?_getD, List.getElem?_map, List.getElem?_range hi]
  rfl
theorem any_rng (n : Nat) (p : Nat → Bool) : ((List.range n).map p).any id = (List.range n).any p := by
  rw [List.any_map]
  rfl
/-- of the size that may come -/
def Sz (rs : List (List Int)) : Prop := rs.length ≤ 1000 ∧ ∀ r ∈ rs, r.length ≤ 1000
def spAny (K : PySem.W.Frag) : Sp := fun vs H Q _ => ∃ (a : Addr) (bs : List (Addr × List Int)), vs = [.ref a] ∧ Rw K H a bs ∧ Sz (bs.map (·.2)) ∧ (∀ r ∈ bs.map (·.2), ∀ x ∈ r, 0 ≤ x ∧ x ≤ 1000) ∧ ∀ H', Grows H H' → Q (.bl (anyX (bs.map (·.2)))) H'
def spIs (K : PySem.W.Frag) : Sp := fun vs H Q _ => ∃ (a : Addr) (bs : List (Addr × List Int)), vs = [.ref a] ∧ Rw K H a bs ∧ Sz (bs.map (·.2)) ∧ ∀ H', Grows H H' → Q (.bl (isP (bs.map (·.2)))) H'
def spPs (K : PySem.W.Frag) : Sp := fun vs H Q _ => ∃ (a : Addr) (bs : List (Addr × List Int)), vs = [.ref a] ∧ Rw K H a bs ∧ Sz (bs.map (·.2)) ∧ isP (bs.map (·.2)) = true ∧ ∀ H', Grows H H' → Q (.int (bs.length + 1)) H'
section
variable {P : Program} {w : World} {K : PySem.W.Frag} {mg : Str → Option Value} {base : Heap}
theorem scAny : FnScope ["groups", "masks", "group", "one", "other"] ["groups"] (defScope sAny) := ⟨rfl, rfl, rfl, by decide +kernel, rfl, by decide +kernel, by decide +kernel⟩
theorem scParting : FnScope ["thing", "persons", "group"] ["thing"] (defScope sParting) := ⟨rfl, rfl, rfl, by decide +kernel, rfl, by decide +kernel, by decide +kernel⟩
theorem scPersons : FnScope ["parting"] ["parting"] (defScope sPersons) := ⟨rfl, rfl, rfl, by decide +kernel, rfl, by decide +kernel, by decide +kernel⟩
theorem ok_any (Z : ProgF K mg) (T : TxtP mg) : FnOk P w K mg base CX0 2 Z.fAny Z.dAny ["groups"] (spAny K) := by
  have GMask : FnOk P w K mg base CX0 1 Z.fMask Z.dMask ["group"] (spMask K) := ok_mask Z T
  have GCross : FnOk P w K mg base CX0 1 Z.fCross Z.dCross ["one", "other"] spCross := ok_cross Z
  refine Z.FAny.ok scAny (fun vs H Q E h => ?_) (fun cdv A outer s H vs Q E hr h => ?_)
  · obtain ⟨a, bs, rfl, _⟩ := h
    rfl
  · obtain ⟨a, bs, rfl, hB, ⟨hz1, hz2⟩, hx, k⟩ := h
    refine ⟨_, (pss_cons (ps_setLc (i := 1) (own := [("group", 2)]) (g := gName 2) (tt := tYes) rfl scAny.nd rfl rfl (sw_true rfl rfl rfl (by decide +kernel)) (pi_list (pv 0)) (blkOk_by (own := [("group", 2)]) (N := ["groups", "masks", "group", "one", "other"]) (sc := defScope sAny) (by decide +kernel)) (fun _ _ _ _ _ => pg_name (i := 2) scAny.nd rfl (Or.inl rfl)) (fun _ _ _ _ _ => pts_nil) (fun _ _ _ _ _ => (pe_call GMask (hr.mono (by decide)) rfl Z.gMask Z.FMask.kp Z.bMask .nil pass0 (pa_cons (pv 2) pa_nil))))
      (pss_one (ps_ret (pe_callB (cr_any rfl) (by rfl) T.any (by decide +kernel) (pa_cons (pe_lc (own := [("one", 3), ("other", 4)]) (g := gTup K 2 (gCons (gName 3) (gCons (gName 4) gNil))) (tt := tYes) rfl scAny.nd (Comb.pi_comb (by rfl) Z.gComb (pa_cons (pv 1) (pa_cons pe_int pa_nil))) (blkOk_by (own := [("one", 3), ("other", 4)]) (N := ["groups", "masks", "group", "one", "other"]) (sc := defScope sAny) (by decide +kernel)) (fun _ _ _ _ _ => pg_tup rfl (pgs_cons (pg_name (i := 3) scAny.nd rfl (Or.inl rfl)) (pgs_cons (pg_name (i := 4) scAny.nd rfl (Or.inl rfl)) pgs_nil))) (fun _ _ _ _ _ => pts_nil) (fun _ _ _ _ _ => (pe_call GCross (hr.mono (by decide)) rfl Z.gCross Z.FCross.kp Z.bCross .nil pass0 (pa_cons (pv 3) (pa_cons (pv 4) pa_nil))))) pa_nil))))), ?_⟩
    rw [List.length_map] at hz1
    refine ⟨_, rfl, a, rfl, ⟨_, hB.top⟩, fun D hD => lc_listM (K := K) (fun i => V.int (maskI (bs.getD i (0, [])).2)) hD hB.top (by rw [List.length_map]; omega) (fun i x H' R hx' sm kR => ?_) fun H' sm eD => ?_⟩
    · have il := (List.getElem?_eq_some_iff.mp hx').1
      rw [List.length_map] at il
      obtain rfl := at_map (d := (0, [])) hx'
      exact ⟨rfl, _, rfl, _, _, rfl, sm.seq (hB.at il), hz2 _ (mem_at il), hx _ (mem_at il), fun H2 s2 => kR _ s2⟩
    · rw [List.length_map] at eD
      refine ⟨_, rfl, D, _, rfl, SqL.of eD, fun D2 hD2 => lc_combM (xs := (List.range bs.length).map fun i => V.int (maskI (bs.getD i (0, [])).2)) (fun t => V.bl (crossI (maskI (bs.getD ((Comb.prs bs.length).getD t (0, 0)).1 (0, [])).2) (maskI (bs.getD ((Comb.prs bs.length).getD t (0, 0)).2 (0, [])).2))) hD2 (by rw [List.length_map, List.length_range]; exact hz1) (fun t i j x y T H' R ht ex ey sm2 hT kR => ?_) fun H2 sm2 eD2 => ?_⟩
      · rw [List.length_map, List.length_range] at ht
        rw [List.getElem?_map] at ex ey
        have gx : x = .int (maskI (bs.getD i (0, [])).2) := by
          obtain ⟨z, hz, e⟩ := Option.map_eq_some_iff.mp ex
          have e2 := (List.getElem?_eq_some_iff.mp hz)
          obtain ⟨l2, e3⟩ := e2
          rw [List.getElem_range] at e3
          rw [← e, ← e3]
        have gy : y = .int (maskI (bs.getD j (0, [])).2) := by
          obtain ⟨z, hz, e⟩ := Option.map_eq_some_iff.mp ey
          have e2 := (List.getElem?_eq_some_iff.mp hz)
          obtain ⟨l2, e3⟩ := e2
          rw [List.getElem_range] at e3
          rw [← e, ← e3]
        subst gx gy
        have et : (Comb.prs bs.length).getD t (0, 0) = (i, j) := by
          rw [List.getD_eq_getElem?_getD, ht]
          rfl
        rw [et] at kR
        exact ⟨T, _, rfl, SqT.of upd_same, rfl, _, _, rfl, _, _, rfl, rfl, rfl, _, rfl, _, rfl, _, _, rfl, fun H3 s3 => kR _ s3⟩
      · rw [List.length_map, List.length_range] at eD2
        refine ⟨D2, (List.range (Comb.prs bs.length).length).map fun t => crossI (maskI (bs.getD ((Comb.prs bs.length).getD t (0, 0)).1 (0, [])).2) (maskI (bs.getD ((Comb.prs bs.length).getD t (0, 0)).2 (0, [])).2), rfl, SqL.of (by rw [eD2, List.map_map]; rfl), ?_⟩
        rw [any_rng]
        have q := k H2 (sm.trans sm2)
        unfold anyX at q
        simp only [List.length_map, snd_at] at q
        exact q
theorem rows_in {n : Int} {ns : List Int} (h : group n ns = true) (hn : n ≤ 1000) : ∀ x ∈ ns, 0 ≤ x ∧ x ≤ 1000 := by
  unfold group plist at h
  simp only [Bool.and_eq_true] at h
  obtain ⟨⟨h1, _⟩, _⟩ := h
  intro x hx
  obtain ⟨i, hi, e⟩ := List.getElem_of_mem hx
  have q := List.all_eq_true.mp h1 i (List.mem_range.mpr hi)
  simp only [Bool.and_eq_true, decide_eq_true_eq] at q
  rw [List.getD_eq_getElem?_getD, List.getElem?_eq_getElem hi] at q
  have q' : 0 ≤ ns[i] ∧ ns[i] < n := q
  rw [e] at q'
  omega
theorem ok_is (Z : ProgF K mg) (T : TxtP mg) : FnOk P w K mg base CX0 5 Z.fIs Z.dIs ["thing"] (spIs K) := by
  have GGr : FnOk P w K mg base CX0 4 Z.fGr Z.dGr ["thing", "persons"] (spPL K group) := ok_group Z T
  have GAsc : FnOk P w K mg base CX0 1 Z.fAsc Z.dAsc ["items"] (spAscR K) := ok_ascR Z.FAsc T
  have GAny : FnOk P w K mg base CX0 2 Z.fAny Z.dAny ["groups"] (spAny K) := ok_any Z T
  refine Z.FIs.ok scParting (fun vs H Q E h => ?_) (fun cdv A outer s H vs Q E hr h => ?_)
  · obtain ⟨a, bs, rfl, _⟩ := h
    rfl
  · obtain ⟨a, bs, rfl, hB, hz, k⟩ := h
    refine ⟨_, (pss_cons (ps_if (PW.pt (pw_or (pt_not (pt_val (pe_callB call_isi (by rfl) T.isi (by decide +kernel) (pa_cons (pv 0) (pa_cons (pe_bltn (v := .ty "list") (u := .type "list") (by rfl) T.list (by decide +kernel) rfl) pa_nil))))) (pw_or1 (pt_cmpR op_ge (pe_callB call_len_seq (by rfl) T.len (by decide +kernel) (pa_cons (pv 0) pa_nil)) (pe_glob (v := .int 20) rfl Z.gMost ⟨_, rfl⟩) (nomark _))))) (pss_one (ps_ret pe_bl)) pss_nil)
      (pss_cons (ps_set (i := 1) scParting.nd rfl (.inr rfl) (pe_op op_add (pe_callB call_len_seq (by rfl) T.len (by decide +kernel) (pa_cons (pv 0) pa_nil)) pe_int))
      (pss_cons (ps_if (pt_not (pt_val (pe_callB (cr_all rfl) (by rfl) T.all (by decide +kernel) (pa_cons (pe_lc (own := [("group", 2)]) (g := gName 2) (tt := tYes) rfl scParting.nd (pi_list (pv 0)) (blkOk_by (own := [("group", 2)]) (N := ["thing", "persons", "group"]) (sc := defScope sParting) (by decide +kernel)) (fun _ _ _ _ _ => pg_name (i := 2) scParting.nd rfl (Or.inl rfl)) (fun _ _ _ _ _ => pts_nil) (fun _ _ _ _ _ => (pe_call GGr (hr.mono (by decide)) rfl Z.gGr Z.FGr.kp Z.bGr .nil pass0 (pa_cons (pv 2) (pa_cons (pv 1) pa_nil))))) pa_nil)))) (pss_one (ps_ret pe_bl)) pss_nil)
      (pss_one (ps_ret (pe_and (pe_call GAsc (hr.mono (by decide)) rfl Z.gAsc Z.FAsc.kp Z.bAsc .nil pass0 (pa_cons (pv 0) pa_nil)) (pe_one (pe_not (pe_call GAny (hr.mono (by decide)) rfl Z.gAny Z.FAny.kp Z.bAny .nil pass0 (pa_cons (pv 0) pa_nil)))))))))), ?_⟩
    have hz' := hz
    obtain ⟨hz1, hz2⟩ := hz
    rw [List.length_map] at hz1
    refine ⟨_, rfl, _, _, _, _, true, rfl, .ty "list", ty_list hB.top, kit_ty (by decide +kernel), true, rfl, iteF ⟨_, rfl, a, _, rfl, .inl hB.top, _, _, rfl, rfl, _, rfl, ?_⟩⟩
    rw [List.length_map]
    refine ite2 (fun e => ?_) (fun e => ?_)
    · have ge := of_decide_eq_true e
      have q := k H .refl
      unfold isP at q
      rw [List.length_map, decide_eq_false (by omega), Bool.false_and, Bool.false_and, Bool.false_and] at q
      exact q
    · have lt : (bs.length : Int) < 20 := by
        rcases Int.lt_or_le (bs.length : Int) 20 with z | z
        · exact z
        · exact absurd (decide_eq_true z) e
      refine ⟨_, rfl, a, _, rfl, .inl hB.top, _, _, rfl, rfl, ?_⟩
      rw [List.length_map]
      refine ⟨_, rfl, a, rfl, ⟨_, hB.top⟩, fun D hD => lc_listM (K := K) (fun i => V.bl (group (bs.length + 1) (bs.getD i (0, [])).2)) hD hB.top (by rw [List.length_map]; omega) (fun i x H' R hx' sm kR => ?_) fun H' sm eD => ?_⟩
      · have il := (List.getElem?_eq_some_iff.mp hx').1
        rw [List.length_map] at il
        obtain rfl := at_map (d := (0, [])) hx'
        exact ⟨rfl, _, rfl, _, rfl, _, _, _, rfl, sm.seq (hB.at il), hz2 _ (mem_at il), fun H2 s2 => kR _ s2⟩
      · rw [List.length_map] at eD
        refine ⟨D, (List.range bs.length).map fun i => group (bs.length + 1) (bs.getD i (0, [])).2, rfl, SqL.of (by rw [eD, List.map_map]; rfl), ?_⟩
        rw [all_rng]
        refine ⟨_, rfl, ?_⟩
        have val : ∀ H2, Grows H H2 → Q (.bl (((List.range bs.length).all fun i => group (bs.length + 1) (bs.getD i (0, [])).2) && ascR (bs.map (·.2)) && !anyX (bs.map (·.2)))) H2 := fun H2 s2 => by
          have q := k H2 s2
          unfold isP at q
          simp only [List.length_map, snd_at] at q
          rw [decide_eq_true lt, Bool.true_and] at q
          exact q
        by_cases hg : ((List.range bs.length).all fun i => group (bs.length + 1) (bs.getD i (0, [])).2) = true
        · rw [hg] at val ⊢
          refine iteF ⟨_, rfl, a, bs, rfl, (hB.keep sm).top, (hB.keep sm).each, hz1, fun H2 s2 => ⟨_, rfl, ?_⟩⟩
          by_cases ha : ascR (bs.map (·.2)) = true
          · rw [if_pos ha]
            have hx : ∀ r ∈ bs.map (·.2), ∀ x ∈ r, 0 ≤ x ∧ x ≤ 1000 := fun r hr x hx => by
              obtain ⟨i, hi, e⟩ := List.getElem_of_mem hr
              rw [List.length_map] at hi
              have g := List.all_eq_true.mp hg i (List.mem_range.mpr hi)
              have e2 : (bs.getD i (0, [])).2 = r := by
                rw [← snd_at, List.getD_eq_getElem?_getD, List.getElem?_eq_getElem (by rw [List.length_map]; exact hi), e]
                rfl
              rw [e2] at g
              exact rows_in g (by omega) x hx
            refine ⟨_, rfl, a, bs, rfl, (hB.keep sm).keep s2, hz', hx, fun H3 s3 => ⟨_, rfl, ?_⟩⟩
            have q := val H3 ((sm.trans s2).trans s3)
            rw [ha, Bool.true_and, Bool.true_and] at q
            exact q
          · rw [if_neg ha]
            have q := val H2 (sm.trans s2)
            rw [Bool.eq_false_iff.mpr ha, Bool.true_and, Bool.false_and] at q
            exact q
        · have q := val H' sm
          rw [Bool.eq_false_iff.mpr hg] at q ⊢
          rw [Bool.false_and, Bool.false_and] at q
          exact iteT q
theorem ok_persons (Z : ProgF K mg) (T : TxtP mg) : FnOk P w K mg base CX0 6 Z.fPs Z.dPs ["parting"] (spPs K) := by
  have GIs : FnOk P w K mg base CX0 5 Z.fIs Z.dIs ["thing"] (spIs K) := ok_is Z T
  refine Z.FPs.ok scPersons (fun vs H Q E h => ?_) (fun cdv A outer s H vs Q E hr h => ?_)
  · obtain ⟨a, bs, rfl, _⟩ := h
    rfl
  · obtain ⟨a, bs, rfl, hB, hz, hp, k⟩ := h
    refine ⟨_, (pss_cons (ps_if (pt_not (pt_val (pe_call GIs (hr.mono (by decide)) rfl Z.gIs Z.FIs.kp Z.bIs .nil pass0 (pa_cons (pv 0) pa_nil)))) (pss_one ps_never) pss_nil)
      (pss_one (ps_ret (pe_op op_add (pe_callB call_len_seq (by rfl) T.len (by decide +kernel) (pa_cons (pv 0) pa_nil)) pe_int)))), ?_⟩
    refine ⟨_, rfl, a, bs, rfl, hB, hz, fun H2 s2 => ?_⟩
    rw [hp]
    refine ⟨_, rfl, iteF ⟨_, rfl, a, _, rfl, .inl (s2.seq hB.top), _, _, rfl, rfl, ?_⟩⟩
    rw [List.length_map]
    exact k H2 s2
end
end K02

namespace K02
open PySem PySem.Spec PyProof.Rows L2 SortR LcM
abbrev sFolk : Stmt := top 30
/-- two halves, each of them parted again -/
inductive Nest where
  | leaf (i : Int)
  | node (l r : Nest)
def Nest.ht : Nest → Nat
  | .leaf _ => 0
  | .node l r => max l.ht r.ht + 1
def Nest.sz : Nest → Nat
  | .leaf _ => 1
  | .node l r => l.sz + r.sz
/-- all persons of it -/
def Nest.folk : Nest → List Int
  | .leaf i => [i]
  | .node l r => (l.folk ++ r.folk).mergeSort intLe
theorem Nest.folk_len : ∀ t : Nest, t.folk.length = t.sz
  | .leaf _ => rfl
  | .node l r => by
    show ((l.folk ++ r.folk).mergeSort intLe).length = l.sz + r.sz
    rw [List.length_mergeSort, List.length_append, Nest.folk_len l, Nest.folk_len r]
/-- a nest as it stands -/
inductive NV (K : PySem.W.Frag) (H : Hp) : V → Nest → Prop
  | leaf (i : Int) : NV K H (.int i) (.leaf i)
  | node {t : Addr} {x y : V} {l r : Nest} : H t = some (.tup [x, y]) → NV K H x l → NV K H y r → NV K H (.ref t) (.node l r)
theorem NV.keep {K : PySem.W.Frag} {H H' : Hp} {x : V} {t : Nest} (n : NV K H x t) (s : Grows H H') : NV K H' x t := by
  induction n with
  | leaf i => exact .leaf i
  | node h _ _ a b => exact .node (s _ _ h) a b
def spNo : Sp := fun _ _ _ _ => False
def spFolk (K : PySem.W.Frag) (d : Nat) : Sp := fun vs H Q _ => ∃ (x : V) (t : Nest), vs = [x] ∧ NV K H x t ∧ t.ht ≤ d ∧ t.sz ≤ 600000 ∧ ∀ (p : Addr) (H' : Hp), Grows H H' → H p = none → H' p = some (.lst (t.folk.map V.int)) → Q (.ref p) H'
section
variable {P : Program} {w : World} {K : PySem.W.Frag} {mg : Str → Option Value} {base : Heap}
theorem fn_no {f : Addr} {fd : FuncData} {ps : List Str} : FnOk P w K mg base CX0 1 f fd ps spNo := ⟨fun _ _ _ _ h => h.elim, fun _ _ _ _ _ _ _ _ _ _ _ _ _ h => h.elim⟩
theorem scFolk : FnScope ["nest"] ["nest"] (defScope sFolk) := ⟨rfl, rfl, rfl, by decide +kernel, rfl, by decide +kernel, by decide +kernel⟩
theorem folk_body {k d : Nat} {sp0 : Sp} {f : Addr} {fd : FuncData} (F : Fun K "_law_folk" "_law_folk" sFolk f fd) (T : TxtP mg) (gFolk : mg "_law_folk" = some (.ref f)) (bF : Binds K fd ["nest"] []) (G0 : FnOk P w K mg base CX0 k f fd ["nest"] sp0)
    (inner : ∀ (x : V) (t : Nest) (H : Hp) (Q : VK) (E : XK), NV K H x t → t.ht < d → t.sz ≤ 600000 → (∀ (p : Addr) (H' : Hp), Grows H H' → H p = none → H' p = some (.lst (t.folk.map V.int)) → Q (.ref p) H') → sp0 [x] H Q E) :
    FnOk P w K mg base CX0 (k + 1) f fd ["nest"] (spFolk K d) := by
  refine F.ok scFolk (fun vs H Q E h => ?_) (fun cdv A outer s H vs Q E hr h => ?_)
  · obtain ⟨x, t, rfl, _⟩ := h
    rfl
  · obtain ⟨x, t, rfl, nv, ht, hz, kq⟩ := h
    refine ⟨_, (pss_one (ps_ret (pe_ifExp (pt_val (pe_callB call_isi (by rfl) T.isi (by decide +kernel) (pa_cons (pv 0) (pa_cons (pe_bltn (v := .ty "int") (u := .type "int") (by rfl) T.int (by decide +kernel) rfl) pa_nil)))) (pe_lst (pa_cons (pv 0) pa_nil)) (pe_callB (call_sortedInts hr.units) (by rfl) T.sorted (by decide +kernel) (pa_cons (pe_op op_cat (pe_call G0 hr rfl gFolk F.kp bF .nil pass0 (pa_cons (pe_ix (r := rIxT K) ix_tup (pv 0) pe_int (fun _ _ => rfl)) pa_nil)) (pe_call G0 hr rfl gFolk F.kp bF .nil pass0 (pa_cons (pe_ix (r := rIxT K) ix_tup (pv 0) pe_int (fun _ _ => rfl)) pa_nil))) pa_nil))))), ?_⟩
    cases nv with
    | leaf i =>
      refine ⟨_, rfl, _, _, _, _, true, rfl, .ty "int", .base (.int i), kit_ty (by decide +kernel), true, rfl, iteT ⟨_, rfl, (by show 1 ≤ sizeLine; decide), fun l hl => ?_⟩⟩
      exact kq l _ (Grows.new hl) hl upd_same
    | @node t x y l r at_t nl nr =>
      have hlz : l.sz + r.sz ≤ 600000 := hz
      have hlh : max l.ht r.ht + 1 ≤ d := ht
      refine ⟨_, rfl, _, _, _, _, false, rfl, .ty "int", .base (.tup at_t), kit_ty (by decide +kernel), false, rfl, iteF ?_⟩
      refine ⟨_, rfl, t, _, 0, x, rfl, rfl, SqT.of at_t, rfl, inner x l H _ _ nl (by omega) (by omega) fun p1 H1 s1 n1 e1 => ?_⟩
      refine ⟨_, rfl, t, _, 1, y, rfl, rfl, SqT.of (s1 _ _ at_t), rfl, inner y r H1 _ _ (nr.keep s1) (by omega) (by omega) fun p2 H2 s2 n2 e2 => ?_⟩
      have len : (l.folk.map V.int).length + (r.folk.map V.int).length ≤ sizeLine := by
        rw [List.length_map, List.length_map, Nest.folk_len, Nest.folk_len]
        exact Nat.le_trans hlz (by decide)
      refine ⟨p1, p2, _, _, rfl, rfl, s2 _ _ e1, e2, len, fun p3 n3 => ⟨p3, l.folk ++ r.folk, rfl, SqL.of (by rw [upd_same, List.map_append]), fun p4 n4 => ?_⟩⟩
      have s12 := s1.trans s2
      have s3 := s12.trans (Grows.new (o := .lst (l.folk.map V.int ++ r.folk.map V.int)) n3)
      exact kq p4 _ (s3.trans (Grows.new n4)) (none_back s3 n4) upd_same
theorem ok_folk {f : Addr} {fd : FuncData} (F : Fun K "_law_folk" "_law_folk" sFolk f fd) (T : TxtP mg) (gFolk : mg "_law_folk" = some (.ref f)) (bF : Binds K fd ["nest"] []) : ∀ d, FnOk P w K mg base CX0 (d + 2) f fd ["nest"] (spFolk K d)
  | 0 => folk_body F T gFolk bF (fn_no (f := f) (fd := fd)) fun _ _ _ _ _ _ h _ _ => absurd h (Nat.not_lt_zero _)
  | d + 1 => folk_body F T gFolk bF (ok_folk F T gFolk bF d) fun x t H Q E nv h hz kq => ⟨x, t, rfl, nv, Nat.le_of_lt_succ h, hz, kq⟩
end
end K02

namespace K02
open PySem PySem.Spec PyProof.Rows L2 SortR LcM
abbrev sPut : Stmt := top 31
/-- the least person -/
def Nest.mn : Nest → Int
  | .leaf i => i
  | .node l r => min l.mn r.mn
theorem Nest.mn_ok : ∀ t : Nest, t.mn ∈ t.folk ∧ ∀ y ∈ t.folk, t.mn ≤ y
  | .leaf i => ⟨List.mem_singleton.mpr rfl, fun y h => by rw [List.mem_singleton.mp h]; exact Int.le_refl _⟩
  | .node l r => by
    obtain ⟨l1, l2⟩ := Nest.mn_ok l
    obtain ⟨r1, r2⟩ := Nest.mn_ok r
    have mem : ∀ y, y ∈ (Nest.node l r).folk ↔ y ∈ l.folk ∨ y ∈ r.folk := fun y => List.mem_mergeSort.trans List.mem_append
    refine ⟨(mem _).mpr ?_, fun y hy => ?_⟩
    · show min l.mn r.mn ∈ l.folk ∨ min l.mn r.mn ∈ r.folk
      rcases Int.le_total l.mn r.mn with h | h
      · rw [Int.min_eq_left h]
        exact .inl l1
      · rw [Int.min_eq_right h]
        exact .inr r1
    · show min l.mn r.mn ≤ y
      rcases (mem y).mp hy with h | h
      · have := l2 y h
        omega
      · have := r2 y h
        omega
theorem Nest.mn_eq {t : Nest} {m : Int} (h : m ∈ t.folk) (k : ∀ y ∈ t.folk, m ≤ y) : m = t.mn := by
  obtain ⟨a, b⟩ := t.mn_ok
  exact Int.le_antisymm (k _ a) (b _ h)
/-- with a newcomer, beside a person or around the group with a maker -/
def Nest.put (item fresh : Int) : Nest → Nest
  | .leaf i => if i = item then .node (.leaf i) (.leaf fresh) else .leaf i
  | .node l r => if max l.mn r.mn = 0 - item then .node (.node l r) (.leaf fresh) else .node (l.put item fresh) (r.put item fresh)
def spPut (K : PySem.W.Frag) (d : Nat) : Sp := fun vs H Q _ => ∃ (x : V) (item fresh : Int) (t : Nest), vs = [x, .int item, .int fresh] ∧ NV K H x t ∧ t.ht ≤ d ∧ t.sz ≤ 600000 ∧ ∀ (y : V) (H' : Hp), Grows H H' → NV K H' y (t.put item fresh) → Q y H'
theorem NV.free {K : PySem.W.Frag} {H : Hp} {x : V} {t : Nest} (n : NV K H x t) {D : Addr} {zs : List V} (h : H D = some (.lst zs)) (u : HO) : NV K (upd H D u) x t := by
  induction n with
  | leaf i => exact .leaf i
  | node e _ _ a b =>
    refine .node ?_ a b
    rw [upd_ne (ne_of e h fun z => nomatch z)]
    exact e
section
variable {P : Program} {w : World} {K : PySem.W.Frag} {mg : Str → Option Value} {base : Heap}
theorem scPut : FnScope ["nest", "item", "fresh", "half"] ["nest", "item", "fresh"] (defScope sPut) := ⟨rfl, rfl, rfl, by decide +kernel, rfl, by decide +kernel, by decide +kernel⟩
theorem put_body {k d : Nat} {sp0 : Sp} {f fF : Addr} {fd dF : FuncData} (F : Fun K "_law_put" "_law_put" sPut f fd) (T : TxtP mg) (T0 : Txt0 mg) (gPut : mg "_law_put" = some (.ref f)) (bF : Binds K fd ["nest", "item", "fresh"] []) (FF : Fun K "_law_folk" "_law_folk" sFolk fF dF) (gFolk : mg "_law_folk" = some (.ref fF)) (bFF : Binds K dF ["nest"] [])
    (hk : d + 2 ≤ k) (G0 : FnOk P w K mg base CX0 k f fd ["nest", "item", "fresh"] sp0)
    (inner : ∀ (x : V) (item fresh : Int) (t : Nest) (H : Hp) (Q : VK) (E : XK), NV K H x t → t.ht < d → t.sz ≤ 600000 → (∀ (y : V) (H' : Hp), Grows H H' → NV K H' y (t.put item fresh) → Q y H') → sp0 [x, .int item, .int fresh] H Q E) :
    FnOk P w K mg base CX0 (k + 1) f fd ["nest", "item", "fresh"] (spPut K d) := by
  have GF : FnOk P w K mg base CX0 (d + 2) fF dF ["nest"] (spFolk K d) := ok_folk FF T gFolk bFF d
  refine F.ok scPut (fun vs H Q E h => ?_) (fun cdv A outer s H vs Q E hr h => ?_)
  · obtain ⟨x, i, j, t, rfl, _⟩ := h
    rfl
  · obtain ⟨x, item, fresh, t, rfl, nv, ht, hz, kq⟩ := h
    refine ⟨_, (pss_cons (ps_if (pt_val (pe_callB call_isi (by rfl) T.isi (by decide +kernel) (pa_cons (pv 0) (pa_cons (pe_bltn (v := .ty "int") (u := .type "int") (by rfl) T.int (by decide +kernel) rfl) pa_nil)))) (pss_one (ps_ret (pe_ifExp (pt_cmpR op_eq (pv 0) (pv 1) (nomark _)) (pe_tup (pa_cons (pv 0) (pa_cons (pv 2) pa_nil))) (pv 0)))) pss_nil)
      (pss_cons (ps_if (pt_cmpR op_eq (pe_callB (cr_max rfl) (by rfl) T0.max (by decide +kernel) (pa_cons (pe_lc (own := [("half", 3)]) (g := gName 3) (tt := tYes) rfl scPut.nd (pi_tup (pv 0)) (blkOk_by (own := [("half", 3)]) (N := ["nest", "item", "fresh", "half"]) (sc := defScope sPut) (by decide +kernel)) (fun _ _ _ _ _ => pg_name (i := 3) scPut.nd rfl (Or.inl rfl)) (fun _ _ _ _ _ => pts_nil) (fun _ _ _ _ _ => (pe_callB (id := "min") (r := rMin K) (by exact cr_min rfl) (by rfl) T0.min (by decide +kernel) (pa_cons (pe_call GF (hr.mono hk) rfl gFolk FF.kp bFF .nil pass0 (pa_cons (pv 3) pa_nil)) pa_nil)))) pa_nil)) (pe_op op_sub pe_int (pv 1)) (nomark _)) (pss_one (ps_ret (pe_tup (pa_cons (pv 0) (pa_cons (pv 2) pa_nil))))) pss_nil)
      (pss_one (ps_ret (pe_callTy call_tuple_of (by rfl) T.tuple (by decide +kernel) (pa_cons (pe_lc (own := [("half", 3)]) (g := gName 3) (tt := tYes) rfl scPut.nd (pi_tup (pv 0)) (blkOk_by (own := [("half", 3)]) (N := ["nest", "item", "fresh", "half"]) (sc := defScope sPut) (by decide +kernel)) (fun _ _ _ _ _ => pg_name (i := 3) scPut.nd rfl (Or.inl rfl)) (fun _ _ _ _ _ => pts_nil) (fun _ _ _ _ _ => (pe_call G0 hr rfl gPut F.kp bF .nil pass0 (pa_cons (pv 3) (pa_cons (pv 1) (pa_cons (pv 2) pa_nil)))))) pa_nil)))))), ?_⟩
    cases nv with
    | leaf i =>
      refine ⟨_, rfl, _, _, _, _, true, rfl, .ty "int", .base (.int i), kit_ty (by decide +kernel), true, rfl, iteT ⟨_, rfl, _, rfl, rfl, _, rfl, ?_⟩⟩
      refine ite2 (fun e => ?_) (fun e => ?_)
      · have e' : i = item := by simpa using e
        refine ⟨_, rfl, _, rfl, (by show 2 ≤ sizeLine; decide), fun t ht => kq (.ref t) _ (Grows.new ht) ?_⟩
        show NV K _ _ (if i = item then _ else _)
        rw [if_pos e']
        exact .node upd_same (.leaf i) (.leaf fresh)
      · have e' : ¬ i = item := by simpa using e
        refine ⟨_, rfl, kq (.int i) H .refl ?_⟩
        show NV K _ _ (if i = item then _ else _)
        rw [if_neg e']
        exact .leaf i
    | @node t x y l r at_t nl nr =>
      have hlz : l.sz + r.sz ≤ 600000 := hz
      have hlh : max l.ht r.ht + 1 ≤ d := ht
      let hv : Nat → Nest := fun j => if j = 0 then l else r
      have half : ∀ (i : Nat) (z : V) (H' : Hp), [x, y][i]? = some z → Grows H H' → NV K H' z (hv i) ∧ (hv i).ht < d ∧ (hv i).sz ≤ 600000 := fun i z H' e s => by
        match i, e with
        | 0, e =>
          obtain rfl : x = z := Option.some.inj e
          exact ⟨nl.keep s, (show l.ht < d by omega), (show l.sz ≤ 600000 by omega)⟩
        | 1, e =>
          obtain rfl : y = z := Option.some.inj e
          exact ⟨nr.keep s, (show r.ht < d by omega), (show r.sz ≤ 600000 by omega)⟩
      refine ⟨_, rfl, _, _, _, _, false, rfl, .ty "int", .base (.tup at_t), kit_ty (by decide +kernel), false, rfl, iteF ?_⟩
      refine ⟨_, rfl, t, rfl, ⟨_, SqT.of at_t⟩, fun D hD => lc_tupX (K := K) (fun j z _ => z = .int (hv j).mn) (fun _ _ _ _ _ h => h) (fun _ _ _ _ h _ _ => h) hD (SqT.of at_t) (by show 2 ≤ 1000000; decide) (fun i z H' Rk ez sm _ kR => ?_) fun H1 ys m => ?_⟩
      · obtain ⟨n1, n2, n3⟩ := half i z H' ez sm
        refine ⟨rfl, _, rfl, z, hv i, rfl, n1, Nat.le_of_lt n2, n3, fun p H2 s2 _ e2 => ⟨p, (hv i).folk, rfl, SqL.of e2, ?_, fun m hm hle => kR (.int m) H2 s2 (by rw [Nest.mn_eq hm hle])⟩⟩
        exact List.length_pos_of_mem (hv i).mn_ok.1
      · have two : ys = [.int l.mn, .int r.mn] := by
          have len : ys.length = 2 := m.len
          match ys, len, m.rel with
          | [u, v], _, rel =>
            have a := rel 0 u rfl
            have b := rel 1 v rfl
            rw [a, b]
            rfl
        have top := m.top
        rw [two] at top
        refine ⟨D, [l.mn, r.mn], rfl, SqL.of top, (by show 0 < 2; decide), fun mx hmx hge => ⟨_, rfl, _, _, rfl, rfl, rfl, _, rfl, ?_⟩⟩
        have emx : mx = max l.mn r.mn := by
          have g1 := hge l.mn (List.mem_cons_self)
          have g2 := hge r.mn (List.mem_cons_of_mem _ List.mem_cons_self)
          have g3 : mx = l.mn ∨ mx = r.mn := by simpa using hmx
          omega
        have s1 := m.grow
        refine ite2 (fun e => ?_) (fun e => ?_)
        · have e' : max l.mn r.mn = 0 - item := by
            rw [← emx]
            simpa using e
          refine ⟨_, rfl, _, rfl, (by show 2 ≤ sizeLine; decide), fun q hq => kq (.ref q) _ (s1.trans (Grows.new hq)) ?_⟩
          show NV K _ _ (if max l.mn r.mn = 0 - item then _ else _)
          rw [if_pos e']
          have s2 : Grows H (upd H1 q (.tup [.ref t, .int fresh])) := s1.trans (Grows.new hq)
          exact .node upd_same (.node (s2 _ _ at_t) (nl.keep s2) (nr.keep s2)) (.leaf fresh)
        · have e' : ¬ max l.mn r.mn = 0 - item := by
            rw [← emx]
            simpa using e
          refine ⟨_, rfl, t, rfl, ⟨_, SqT.of (s1 _ _ at_t)⟩, fun D2 hD2 => lc_tupX (K := K) (fun j z G => NV K G z ((hv j).put item fresh)) (fun _ _ _ _ s h => h.keep s) (fun _ _ _ _ h e u => h.free e u) hD2 (SqT.of (s1 _ _ at_t)) (by show 2 ≤ 1000000; decide) (fun i z H' Rk ez sm _ kR => ?_) fun H2 ys2 m2 => ?_⟩
          · obtain ⟨n1, n2, n3⟩ := half i z H' ez (s1.trans sm)
            exact ⟨rfl, _, rfl, _, rfl, _, rfl, inner z item fresh (hv i) H' _ _ n1 n2 n3 fun y' H3 s3 nv3 => kR y' H3 s3 nv3⟩
          · have len2 : ys2.length = 2 := m2.len
            refine ⟨D2, ys2, rfl, .inl ⟨SqL.of m2.top, fun q hq => kq (.ref q) _ ((s1.trans m2.grow).trans (Grows.new hq)) ?_⟩⟩
            show NV K _ _ (if max l.mn r.mn = 0 - item then _ else _)
            rw [if_neg e']
            match ys2, len2, m2.rel, hq with
            | [u, v], _, rel, hq => exact .node upd_same ((rel 0 u rfl).keep (Grows.new hq)) ((rel 1 v rfl).keep (Grows.new hq))
theorem ok_put {f fF : Addr} {fd dF : FuncData} (F : Fun K "_law_put" "_law_put" sPut f fd) (T : TxtP mg) (T0 : Txt0 mg) (gPut : mg "_law_put" = some (.ref f)) (bF : Binds K fd ["nest", "item", "fresh"] []) (FF : Fun K "_law_folk" "_law_folk" sFolk fF dF) (gFolk : mg "_law_folk" = some (.ref fF)) (bFF : Binds K dF ["nest"] []) : ∀ d, FnOk P w K mg base CX0 (d + 3) f fd ["nest", "item", "fresh"] (spPut K d)
  | 0 => put_body F T T0 gPut bF FF gFolk bFF (Nat.le_refl _) ((fn_no (f := f) (fd := fd)).mono (by decide)) fun _ _ _ _ _ _ _ _ h _ _ => absurd h (Nat.not_lt_zero _)
  | d + 1 => put_body F T T0 gPut bF FF gFolk bFF (Nat.le_refl _) (ok_put F T T0 gPut bF FF gFolk bFF d) fun x i j t H Q E nv h hz kq => ⟨x, i, j, t, rfl, nv, Nat.le_of_lt_succ h, hz, kq⟩
end
end K02

namespace K02
open PySem PySem.Spec PyProof.Rows L2 SortR LcM
abbrev sNest : Stmt := top 32
abbrev sLots : Stmt := top 33
theorem Nest.put_ht (i j : Int) : ∀ t : Nest, (t.put i j).ht ≤ t.ht + 1
  | .leaf k => by
    unfold Nest.put
    split
    · show max (0 : Nat) 0 + 1 ≤ 0 + 1
      omega
    · exact Nat.zero_le _
  | .node l r => by
    have a := Nest.put_ht i j l
    have b := Nest.put_ht i j r
    unfold Nest.put
    split
    · show max (max l.ht r.ht + 1) 0 + 1 ≤ max l.ht r.ht + 1 + 1
      omega
    · show max (l.put i j).ht (r.put i j).ht + 1 ≤ max l.ht r.ht + 1 + 1
      omega
theorem Nest.sz_pos : ∀ t : Nest, 1 ≤ t.sz
  | .leaf _ => Nat.le_refl _
  | .node l r => by
    have := Nest.sz_pos l
    show 1 ≤ l.sz + r.sz
    omega
theorem Nest.put_sz (i j : Int) : ∀ t : Nest, (t.put i j).sz ≤ 2 * t.sz
  | .leaf k => by
    unfold Nest.put
    split
    · exact Nat.le_refl _
    · show 1 ≤ 2 * 1
      decide
  | .node l r => by
    have a := Nest.put_sz i j l
    have b := Nest.put_sz i j r
    have c := Nest.sz_pos l
    have d := Nest.sz_pos r
    unfold Nest.put
    split
    · show l.sz + r.sz + 1 ≤ 2 * (l.sz + r.sz)
      omega
    · show (l.put i j).sz + (r.put i j).sz ≤ 2 * (l.sz + r.sz)
      omega
/-- the first n newcomers come -/
def nestN (is : List Int) : Nat → Nest
  | 0 => .leaf 0
  | n + 1 => (nestN is n).put (is.getD n 0) (n + 1)
theorem nestN_ht (is : List Int) : ∀ n, (nestN is n).ht ≤ n
  | 0 => Nat.le_refl _
  | n + 1 => Nat.le_trans (Nest.put_ht _ _ _) (Nat.succ_le_succ (nestN_ht is n))
theorem nestN_sz (is : List Int) : ∀ n, (nestN is n).sz ≤ 2 ^ n
  | 0 => Nat.le_refl _
  | n + 1 => by
    have := nestN_sz is n
    have := Nest.put_sz (is.getD n 0) (n + 1) (nestN is n)
    show ((nestN is n).put (is.getD n 0) (n + 1)).sz ≤ 2 ^ (n + 1)
    rw [Nat.pow_succ]
    omega
def spNest (K : PySem.W.Frag) : Sp := fun vs H Q _ => ∃ (a : Addr) (is : List Int), vs = [.ref a] ∧ SqL K H a (is.map V.int) ∧ is.length ≤ 19 ∧ ∀ (y : V) (H' : Hp), Grows H H' → NV K H' y (nestN is is.length) → Q y H'
/-- all groups of two persons or more -/
def Nest.lots : Nest → List (List Int)
  | .leaf _ => []
  | .node l r => ((Nest.node l r).folk :: (l.lots ++ r.lots)).mergeSort fun p q => decide (p ≤ q)
theorem Nest.lots_len : ∀ t : Nest, t.lots.length + 1 = t.sz
  | .leaf _ => rfl
  | .node l r => by
    have a := Nest.lots_len l
    have b := Nest.lots_len r
    show (((Nest.node l r).folk :: (l.lots ++ r.lots)).mergeSort _).length + 1 = l.sz + r.sz
    rw [List.length_mergeSort, List.length_cons, List.length_append]
    omega
def spLots (K : PySem.W.Frag) (d : Nat) : Sp := fun vs H Q _ => ∃ (x : V) (t : Nest), vs = [x] ∧ NV K H x t ∧ t.ht ≤ d ∧ t.sz ≤ 600000 ∧
  ∀ (p : Addr) (cs : List (Addr × List Int)) (H' : Hp), cs.map (·.2) = t.lots → Grows H H' → H p = none → Nw H H' cs → (∀ c ∈ cs, c.1 ≠ p) → H' p = some (.lst (cs.map fun c => V.ref c.1)) → Q (.ref p) H'
section
variable {P : Program} {w : World} {K : PySem.W.Frag} {mg : Str → Option Value} {base : Heap}
theorem scNest : FnScope ["items", "nest", "spot", "item"] ["items"] (defScope sNest) := ⟨rfl, rfl, rfl, by decide +kernel, rfl, by decide +kernel, by decide +kernel⟩
theorem scLots : FnScope ["nest"] ["nest"] (defScope sLots) := ⟨rfl, rfl, rfl, by decide +kernel, rfl, by decide +kernel, by decide +kernel⟩
theorem ok_nest {f fP : Addr} {fd dP : FuncData} (F : Fun K "_law_nest" "_law_nest" sNest f fd) (T : TxtP mg) (gPut : mg "_law_put" = some (.ref fP)) (FP : Fun K "_law_put" "_law_put" sPut fP dP) (bFP : Binds K dP ["nest", "item", "fresh"] [])
    (GP : FnOk P w K mg base CX0 22 fP dP ["nest", "item", "fresh"] (spPut K 19)) : FnOk P w K mg base CX0 23 f fd ["items"] (spNest K) := by
  refine F.ok scNest (fun vs H Q E h => ?_) (fun cdv A outer s H vs Q E hr h => ?_)
  · obtain ⟨a, is, rfl, _⟩ := h
    rfl
  · obtain ⟨a, is, rfl, hS, hn, kq⟩ := h
    refine ⟨_, (pss_cons (ps_set (i := 1) scNest.nd rfl (.inl rfl) pe_int)
      (pss_cons (ps_for PassesOwn.never rfl (pi_enum (by rfl) T.enumerate (pa_cons (pv 0) pa_nil)) (pg_tup (by rfl) (pgs_cons (pg_name (i := 2) scNest.nd rfl (.inl rfl)) (pgs_cons (pg_name (i := 3) scNest.nd rfl (.inl rfl)) pgs_nil)))
      (pss_one (ps_set (i := 1) scNest.nd rfl (.inl rfl) (pe_call GP (hr.mono (by decide)) rfl gPut FP.kp bFP .nil pass0 (pa_cons (pv 1) (pa_cons (pv 3) (pa_cons (pe_op op_add (pv 2) pe_int) pa_nil)))))))
      (pss_one (ps_ret (pv 1))))), ?_⟩
    refine ⟨_, rfl, a, _, rfl, hS, for_enumL (K := K) (xs := is.map V.int) (fun i σ H' => ∃ (y : V) (o1 o2 : Option V), σ = [some (.ref a), some y, o1, o2] ∧ Grows H H' ∧ NV K H' y (nestN is i)) ⟨.int 0, none, none, rfl, .refl, .leaf 0⟩ (fun i σ H' ⟨_, _, _, _, s, _⟩ => s.seq hS) (fun i x Tp σ H' hx ⟨y, o1, o2, e, s, nv⟩ hT => ?_) fun σ H' ⟨y, o1, o2, e, s, nv⟩ => ?_⟩
    · subst e
      have il := (List.getElem?_eq_some_iff.mp hx).1
      rw [List.length_map] at il
      obtain rfl := at_map (d := 0) hx
      have h1 := nestN_ht is i
      have h2 := nestN_sz is i
      have h3 : (2 : Nat) ^ i ≤ 2 ^ 19 := Nat.pow_le_pow_right (by decide) (by omega)
      have h4 : (2 : Nat) ^ 19 = 524288 := by decide
      refine ⟨Tp, _, rfl, SqT.of upd_same, rfl, _, _, rfl, _, _, rfl, rfl, _, rfl, _, rfl, _, rfl, _, _, rfl, rfl, y, _, _, nestN is i, rfl, nv.keep (Grows.new hT), by omega, by omega, fun z H2 s2 nv2 => ?_⟩
      exact ⟨z, _, _, rfl, (s.trans (Grows.new hT)).trans s2, nv2⟩
    · subst e
      rw [List.length_map] at nv
      exact ⟨_, rfl, kq y H' s nv⟩
end
end K02

namespace K02
open PySem PySem.Spec PyProof.Rows L2 SortR LcM
section
variable {P : Program} {w : World} {K : PySem.W.Frag} {mg : Str → Option Value} {base : Heap}
theorem lots_body {k d : Nat} {sp0 : Sp} {f fF : Addr} {fd dF : FuncData} (F : Fun K "_law_lots" "_law_lots" sLots f fd) (T : TxtP mg) (gLots : mg "_law_lots" = some (.ref f)) (bF : Binds K fd ["nest"] []) (FF : Fun K "_law_folk" "_law_folk" sFolk fF dF) (gFolk : mg "_law_folk" = some (.ref fF)) (bFF : Binds K dF ["nest"] [])
    (hk : d + 2 ≤ k) (G0 : FnOk P w K mg base CX0 k f fd ["nest"] sp0)
    (inner : ∀ (x : V) (t : Nest) (H : Hp) (Q : VK) (E : XK), NV K H x t → t.ht < d → t.sz ≤ 600000 → (∀ (p : Addr) (cs : List (Addr × List Int)) (H' : Hp), cs.map (·.2) = t.lots → Grows H H' → H p = none → Nw H H' cs → (∀ c ∈ cs, c.1 ≠ p) → H' p = some (.lst (cs.map fun c => V.ref c.1)) → Q (.ref p) H') → sp0 [x] H Q E) :
    FnOk P w K mg base CX0 (k + 1) f fd ["nest"] (spLots K d) := by
  have GF : FnOk P w K mg base CX0 (d + 2) fF dF ["nest"] (spFolk K d) := ok_folk FF T gFolk bFF d
  refine F.ok scLots (fun vs H Q E h => ?_) (fun cdv A outer s H vs Q E hr h => ?_)
  · obtain ⟨x, t, rfl, _⟩ := h
    rfl
  · obtain ⟨x, t, rfl, nv, ht, hz, kq⟩ := h
    refine ⟨_, (pss_cons (ps_if (pt_val (pe_callB call_isi (by rfl) T.isi (by decide +kernel) (pa_cons (pv 0) (pa_cons (pe_bltn (v := .ty "int") (u := .type "int") (by rfl) T.int (by decide +kernel) rfl) pa_nil)))) (pss_one (ps_ret (pe_lst pa_nil))) pss_nil)
      (pss_one (ps_ret (pe_callB (call_sortedR hr.units) (by rfl) T.sorted (by decide +kernel) (pa_cons (pe_op op_cat (pe_op op_cat (pe_lst (pa_cons (pe_call GF (hr.mono hk) rfl gFolk FF.kp bFF .nil pass0 (pa_cons (pv 0) pa_nil)) pa_nil)) (pe_call G0 hr rfl gLots F.kp bF .nil pass0 (pa_cons (pe_ix (r := rIxT K) ix_tup (pv 0) pe_int (fun _ _ => rfl)) pa_nil))) (pe_call G0 hr rfl gLots F.kp bF .nil pass0 (pa_cons (pe_ix (r := rIxT K) ix_tup (pv 0) pe_int (fun _ _ => rfl)) pa_nil))) pa_nil))))), ?_⟩
    cases nv with
    | leaf i =>
      refine ⟨_, rfl, _, _, _, _, true, rfl, .ty "int", .base (.int i), kit_ty (by decide +kernel), true, rfl, iteT ⟨(by show 0 ≤ sizeLine; decide), fun l hl => ?_⟩⟩
      exact kq l [] _ rfl (Grows.new hl) hl ⟨(fun _ m => nomatch m), (fun _ m => nomatch m), List.Pairwise.nil⟩ (fun _ m => nomatch m) upd_same
    | @node t x y l r at_t nl nr =>
      have hlz : l.sz + r.sz ≤ 600000 := hz
      have hlh : max l.ht r.ht + 1 ≤ d := ht
      have zl := l.lots_len
      have zr := r.lots_len
      refine ⟨_, rfl, _, _, _, _, false, rfl, .ty "int", .base (.tup at_t), kit_ty (by decide +kernel), false, rfl, iteF ?_⟩
      refine ⟨_, rfl, .ref t, .node l r, rfl, .node at_t nl nr, ht, hz, fun pF H1 s1 n1 e1 => ⟨(by show 1 ≤ sizeLine; decide), fun L1 nL1 => ?_⟩⟩
      have g1 : Grows H (upd H1 L1 (.lst [.ref pF])) := s1.trans (Grows.new nL1)
      refine ⟨_, rfl, t, _, 0, x, rfl, rfl, SqT.of (g1 _ _ at_t), rfl, inner x l _ _ _ (nl.keep g1) (by omega) (by omega) fun p1 cs1 H2 m2 s2 n2 nw2 ap2 top2 => ?_⟩
      have len1 : cs1.length = l.lots.length := by rw [← m2, List.length_map]
      refine ⟨L1, p1, _, _, rfl, rfl, s2 _ _ upd_same, top2, ?_, fun L2 nL2 => ?_⟩
      · rw [List.length_map, len1]
        have : (600001 : Nat) ≤ sizeLine := by decide
        show 1 + _ ≤ sizeLine
        omega
      have g2 : Grows H (upd H2 L2 (.lst ([V.ref pF] ++ cs1.map fun c => V.ref c.1))) := (g1.trans s2).trans (Grows.new nL2)
      refine ⟨_, rfl, t, _, 1, y, rfl, rfl, SqT.of (g2 _ _ at_t), rfl, inner y r _ _ _ (nr.keep g2) (by omega) (by omega) fun p3 cs3 H3 m3 s3 n3 nw3 ap3 top3 => ?_⟩
      have len3 : cs3.length = r.lots.length := by rw [← m3, List.length_map]
      refine ⟨L2, p3, _, _, rfl, rfl, s3 _ _ upd_same, top3, ?_, fun L4 nL4 => ?_⟩
      · rw [List.length_append, List.length_map, List.length_map, len1, len3]
        have : (600001 : Nat) ≤ sizeLine := by decide
        show 1 + _ + _ ≤ sizeLine
        omega
      obtain ⟨G, eG⟩ : ∃ G, G = upd H3 L4 (.lst (([V.ref pF] ++ cs1.map fun c => V.ref c.1) ++ cs3.map fun c => V.ref c.1)) := ⟨_, rfl⟩
      rw [← eG]
      have s4 : Grows H3 G := eG ▸ Grows.new nL4
      obtain ⟨bs, ebs⟩ : ∃ bs : List (Addr × List Int), bs = (pF, (Nest.node l r).folk) :: (cs1 ++ cs3) := ⟨_, rfl⟩
      have c1H2 : Grows (upd H1 L1 (.lst [.ref pF])) H2 := s2
      have toG2 : Grows H2 G := ((Grows.new nL2).trans s3).trans s4
      have pF_at : (upd H1 L1 (.lst [.ref pF])) pF = some (.lst ((Nest.node l r).folk.map V.int)) := Grows.new nL1 _ _ e1
      have each : ∀ b ∈ bs, G b.1 = some (.lst (b.2.map V.int)) := fun b m => by
        rw [ebs] at m
        rcases List.mem_cons.mp m with z | z
        · rw [z]
          exact toG2 _ _ (s2 _ _ pF_at)
        · rcases List.mem_append.mp z with z | z
          · exact toG2 _ _ (nw2.lists b z)
          · exact s4 _ _ (nw3.lists b z)
      have fresh : ∀ b ∈ bs, H b.1 = none := fun b m => by
        rw [ebs] at m
        rcases List.mem_cons.mp m with z | z
        · rw [z]
          exact n1
        · rcases List.mem_append.mp z with z | z
          · exact none_back g1 (nw2.new b z)
          · exact none_back g2 (nw3.new b z)
      have nod : (bs.map (·.1)).Nodup := by
        rw [ebs, List.map_cons, List.map_append]
        refine List.nodup_cons.mpr ⟨fun z => ?_, List.nodup_append.mpr ⟨nw2.nodup, nw3.nodup, fun a ma b mb => ?_⟩⟩
        · rcases List.mem_append.mp z with z | z
          · obtain ⟨c, mc, e⟩ := List.mem_map.mp z
            exact ne_of_none pF_at (nw2.new c mc) e.symm
          · obtain ⟨c, mc, e⟩ := List.mem_map.mp z
            exact ne_of_none (Grows.new nL2 _ _ (s2 _ _ pF_at)) (nw3.new c mc) e.symm
        · obtain ⟨c, mc, rfl⟩ := List.mem_map.mp ma
          obtain ⟨c', mc', rfl⟩ := List.mem_map.mp mb
          exact ne_of_none (Grows.new nL2 _ _ (nw2.lists c mc)) (nw3.new c' mc')
      have topG : G L4 = some (.lst (bs.map fun b => V.ref b.1)) := by
        rw [eG, upd_same, ebs, List.map_cons, List.map_append]
        rfl
      refine ⟨L4, bs, rfl, SqL.of topG, fun b m => SqL.of (each b m), fun p np => ?_⟩
      have mem : ∀ b, b ∈ bs.mergeSort rowLe → b ∈ bs := fun b m => List.mem_mergeSort.mp m
      have gG : Grows H G := (g2.trans s3).trans s4
      refine kq p (bs.mergeSort rowLe) _ ?_ (gG.trans (Grows.new np)) (none_back gG np) ⟨fun b m => ?_, fun b m => fresh b (mem b m), ?_⟩ (fun b m e => ?_) upd_same
      · rw [sort_rows, ebs, List.map_cons, List.map_append, m2, m3]
        rfl
      · exact Grows.new np _ _ (each b (mem b m))
      · exact (((List.mergeSort_perm bs rowLe).map (·.1)).nodup_iff).mpr nod
      · have z := each b (mem b m)
        rw [e, np] at z
        cases z
theorem ok_lots {f fF : Addr} {fd dF : FuncData} (F : Fun K "_law_lots" "_law_lots" sLots f fd) (T : TxtP mg) (gLots : mg "_law_lots" = some (.ref f)) (bF : Binds K fd ["nest"] []) (FF : Fun K "_law_folk" "_law_folk" sFolk fF dF) (gFolk : mg "_law_folk" = some (.ref fF)) (bFF : Binds K dF ["nest"] []) : ∀ d, FnOk P w K mg base CX0 (d + 3) f fd ["nest"] (spLots K d)
  | 0 => lots_body F T gLots bF FF gFolk bFF (Nat.le_refl _) ((fn_no (f := f) (fd := fd)).mono (by decide)) fun _ _ _ _ _ _ h _ _ => absurd h (Nat.not_lt_zero _)
  | d + 1 => lots_body F T gLots bF FF gFolk bFF (Nat.le_refl _) (ok_lots F T gLots bF FF gFolk bFF d) fun x t H Q E nv h hz kq => ⟨x, t, rfl, nv, Nat.le_of_lt_succ h, hz, kq⟩
end
end K02

namespace K02
open PySem PySem.Spec PyProof.Rows L2 SortR LcM
theorem plist_of {n : Int} {ks : List Int} (up : ks.Pairwise (· < ·)) (rng : ∀ x ∈ ks, 0 ≤ x ∧ x < n) : plist n ks = true := by
  unfold plist inR ascI
  rw [Bool.and_eq_true]
  refine ⟨List.all_eq_true.mpr fun i hi => ?_, List.all_eq_true.mpr fun i hi => ?_⟩
  · have il := List.mem_range.mp hi
    have e : ks.getD i 0 = ks[i] := by rw [List.getD_eq_getElem?_getD, List.getElem?_eq_getElem il]; rfl
    have := rng _ (List.getElem_mem il)
    rw [e, decide_eq_true this.1, decide_eq_true this.2]
    rfl
  · have il := List.mem_range.mp hi
    have l1 : i < ks.length := by omega
    have l2 : i + 1 < ks.length := by omega
    have e1 : ks.getD i 0 = ks[i] := by rw [List.getD_eq_getElem?_getD, List.getElem?_eq_getElem l1]; rfl
    have e2 : ks.getD (i + 1) 0 = ks[i + 1] := by rw [List.getD_eq_getElem?_getD, List.getElem?_eq_getElem l2]; rfl
    rw [e1, e2]
    exact decide_eq_true (List.pairwise_iff_getElem.mp up i (i + 1) l1 l2 (Nat.lt_succ_self i))
theorem gr_none {p a : Addr} {H H' : Hp} (g : Gr p H H') (h : H' a = none) (n : a ≠ p) : H a = none := by
  rcases Option.eq_none_or_eq_some (H a) with z | ⟨o, z⟩
  · exact z
  · rw [g a o n z] at h
    cases h
theorem rg_ints (n : Int) : rgV 0 n = ((List.range n.toNat).map fun i => (0 + (i : Nat) : Int)).map V.int := by
  unfold rgV
  rw [List.map_map, Int.sub_zero]
  rfl
theorem rg_up (n : Nat) : ((List.range n).map fun i => (0 + (i : Nat) : Int)).Pairwise (· < ·) := by
  rw [List.pairwise_map]
  exact List.pairwise_lt_range.imp fun {a b} h => by omega
theorem rg_in (n : Nat) : ∀ x ∈ (List.range n).map fun i => (0 + (i : Nat) : Int), 0 ≤ x ∧ x < n := fun x hx => by
  obtain ⟨i, hi, e⟩ := List.mem_map.mp hx
  have := List.mem_range.mp hi
  omega
theorem inV_ints (i : Int) (ns : List Int) : inV (.int i) (ns.map V.int) = decide (i ∈ ns) := by
  unfold inV
  induction ns with
  | nil => rfl
  | cons x ns ih =>
    rw [List.map_cons, List.any_cons, ih]
    show ((x == i) || decide (i ∈ ns)) = decide (i ∈ x :: ns)
    by_cases e : x = i
    · rw [e, beq_self_eq_true, Bool.true_or, decide_eq_true List.mem_cons_self]
    · rw [beq_eq_false_iff_ne.mpr e, Bool.false_or]
      by_cases m : i ∈ ns
      · rw [decide_eq_true m, decide_eq_true (List.mem_cons_of_mem _ m)]
      · rw [decide_eq_false m, decide_eq_false fun z => (List.mem_cons.mp z).elim (fun q => e q.symm) m]
theorem flat_ints (ns : List Int) : (ns.map V.int).all flatV = true := by
  rw [List.all_map]
  exact List.all_eq_true.mpr fun _ _ => rfl
end K02

namespace K02
open PySem PySem.Spec PyProof.Rows L2 SortR LcM
theorem rng_map {α β : Type} (ns : List α) (d : α) (f : α → β) : (List.range ns.length).map (fun i => f (ns.getD i d)) = ns.map f := by
  refine List.ext_getElem (by rw [List.length_map, List.length_map, List.length_range]) fun j j1 j2 => ?_
  rw [List.length_map] at j2
  rw [List.getElem_map, List.getElem_map, List.getElem_range, List.getD_eq_getElem?_getD, List.getElem?_eq_getElem j2]
  rfl
theorem maskI_mk {ns : List Int} : maskI ns = ((mk (ns.map Int.toNat) : Nat) : Int) := by
  unfold maskI
  rw [rng_map ns 0 fun x => (1 : Int) * 2 ^ x.toNat]
  induction ns with
  | nil => rfl
  | cons x ns ih =>
    rw [List.map_cons, List.sum_cons, ih, List.map_cons, mk_cons, Int.one_mul, Int.natCast_add, Int.natCast_pow]
    rfl
/-- ascending lists of persons that lie apart, or one within the other -/
def Nice (xs ys : List Int) : Prop := (∀ z ∈ xs, z ∉ ys) ∨ (∀ z ∈ xs, z ∈ ys) ∨ ∀ z ∈ ys, z ∈ xs
theorem up_nat {xs : List Int} (h : xs.Pairwise (· < ·)) (p : ∀ x ∈ xs, 0 ≤ x) : (xs.map Int.toNat).Pairwise (· < ·) := by
  rw [List.pairwise_map]
  exact h.imp_of_mem fun {a b} ha hb lt => by
    have := p a ha
    have := p b hb
    omega
theorem mem_nat {xs : List Int} (p : ∀ x ∈ xs, 0 ≤ x) {i : Nat} : i ∈ xs.map Int.toNat ↔ (i : Int) ∈ xs := by
  rw [List.mem_map]
  constructor
  · rintro ⟨x, hx, rfl⟩
    rw [Int.toNat_of_nonneg (p x hx)]
    exact hx
  · intro h
    exact ⟨_, h, rfl⟩
theorem crossI_no {xs ys : List Int} (hx : xs.Pairwise (· < ·)) (hy : ys.Pairwise (· < ·)) (px : ∀ x ∈ xs, 0 ≤ x) (py : ∀ x ∈ ys, 0 ≤ x) (h : Nice xs ys) : crossI (maskI xs) (maskI ys) = false := by
  have h' : (∀ z ∈ xs.map Int.toNat, z ∉ ys.map Int.toNat) ∨ (∀ z ∈ xs.map Int.toNat, z ∈ ys.map Int.toNat) ∨ ∀ z ∈ ys.map Int.toNat, z ∈ xs.map Int.toNat := by
    rcases h with h | h | h
    · exact .inl fun z hz hz2 => h _ ((mem_nat px).mp hz) ((mem_nat py).mp hz2)
    · exact .inr (.inl fun z hz => (mem_nat py).mpr (h _ ((mem_nat px).mp hz)))
    · exact .inr (.inr fun z hz => (mem_nat px).mpr (h _ ((mem_nat py).mp hz)))
  have m := mk_and (up_nat hx px) (up_nat hy py) h'
  rw [maskI_mk, maskI_mk]
  unfold crossI
  rw [PyProof.Rows.bitAnd_pp (Int.natCast_nonneg _) (Int.natCast_nonneg _), Int.toNat_natCast, Int.toNat_natCast]
  generalize mk (xs.map Int.toNat) = a at m
  generalize mk (ys.map Int.toNat) = b at m
  have e : inV (.int ((a &&& b : Nat) : Int)) [.int 0, .int (a : Int), .int (b : Int)] = true := by
    unfold inV
    rcases m with m | m | m
    · rw [m]
      rfl
    · rw [m]
      simp [eqV]
    · rw [m]
      simp [eqV]
  rw [e]
  rfl
end K02

namespace K02
open PySem PySem.Spec PyProof.Rows L2 SortR LcM
/-- the persons, as they sit -/
def Nest.lv : Nest → List Int
  | .leaf i => [i]
  | .node l r => l.lv ++ r.lv
theorem Nest.folk_perm : ∀ t : Nest, t.folk.Perm t.lv
  | .leaf _ => .refl _
  | .node l r => (List.mergeSort_perm _ _).trans ((Nest.folk_perm l).append (Nest.folk_perm r))
theorem Nest.folk_le : ∀ t : Nest, t.folk.Pairwise (· ≤ ·)
  | .leaf _ => List.pairwise_singleton _ _
  | .node l r => by
    have h := List.pairwise_mergeSort (le := intLe) (fun a b c h1 h2 => by
      unfold intLe at *
      simp only [decide_eq_true_eq] at *
      omega) (fun a b => by
      unfold intLe
      simp only [Bool.or_eq_true, decide_eq_true_eq]
      omega) (l.folk ++ r.folk)
    exact h.imp fun {a b} z => by
      unfold intLe at z
      exact of_decide_eq_true z
theorem Nest.folk_up {t : Nest} (h : t.lv.Nodup) : t.folk.Pairwise (· < ·) := by
  have n : t.folk.Nodup := (t.folk_perm.nodup_iff).mpr h
  exact (t.folk_le.and n).imp fun {a b} z => by
    have := z.1
    have := z.2
    omega
theorem Nest.lots_mem {l r : Nest} {q : List Int} : q ∈ (Nest.node l r).lots ↔ q = (Nest.node l r).folk ∨ q ∈ l.lots ∨ q ∈ r.lots := by
  show q ∈ List.mergeSort _ _ ↔ _
  rw [List.mem_mergeSort, List.mem_cons, List.mem_append]
theorem Nest.sz_lv : ∀ t : Nest, t.lv.length = t.sz
  | .leaf _ => rfl
  | .node l r => by
    show (l.lv ++ r.lv).length = l.sz + r.sz
    rw [List.length_append, Nest.sz_lv l, Nest.sz_lv r]
/-- each group: some of the persons, two or more, ascending -/
theorem Nest.lot_ok : ∀ (t : Nest), t.lv.Nodup → ∀ q ∈ t.lots, (∀ z ∈ q, z ∈ t.lv) ∧ 2 ≤ q.length ∧ q.Pairwise (· < ·)
  | .leaf _, _, q, h => nomatch h
  | .node l r, hn, q, h => by
    obtain ⟨n1, n2, _⟩ := List.nodup_append.mp hn
    rcases Nest.lots_mem.mp h with e | e | e
    · subst e
      refine ⟨fun z hz => (Nest.folk_perm _).mem_iff.mp hz, ?_, Nest.folk_up hn⟩
      rw [Nest.folk_len]
      have := l.sz_pos
      have := r.sz_pos
      show 2 ≤ l.sz + r.sz
      omega
    · obtain ⟨a, b, c⟩ := Nest.lot_ok l n1 q e
      exact ⟨fun z hz => List.mem_append.mpr (.inl (a z hz)), b, c⟩
    · obtain ⟨a, b, c⟩ := Nest.lot_ok r n2 q e
      exact ⟨fun z hz => List.mem_append.mpr (.inr (a z hz)), b, c⟩
theorem Nest.lots_nice : ∀ (t : Nest), t.lv.Nodup → ∀ p ∈ t.lots, ∀ q ∈ t.lots, Nice p q
  | .leaf _, _, p, h, _, _ => nomatch h
  | .node l r, hn, p, hp, q, hq => by
    obtain ⟨n1, n2, n3⟩ := List.nodup_append.mp hn
    have all : ∀ s ∈ (Nest.node l r).lots, ∀ z ∈ s, z ∈ (Nest.node l r).folk := fun s hs z hz => (Nest.folk_perm _).mem_iff.mpr ((Nest.lot_ok _ hn s hs).1 z hz)
    rcases Nest.lots_mem.mp hp with e | e | e
    · subst e
      exact .inr (.inr (all q hq))
    · rcases Nest.lots_mem.mp hq with f | f | f
      · subst f
        exact .inr (.inl (all p hp))
      · exact Nest.lots_nice l n1 p e q f
      · exact .inl fun z hz hz2 => n3 z ((Nest.lot_ok l n1 p e).1 z hz) z ((Nest.lot_ok r n2 q f).1 z hz2) rfl
    · rcases Nest.lots_mem.mp hq with f | f | f
      · subst f
        exact .inr (.inl (all p hp))
      · exact .inl fun z hz hz2 => n3 z ((Nest.lot_ok l n1 q f).1 z hz2) z ((Nest.lot_ok r n2 p e).1 z hz) rfl
      · exact Nest.lots_nice r n2 p e q f
theorem Nest.lv_ne : ∀ t : Nest, ∃ z, z ∈ t.lv
  | .leaf i => ⟨i, List.mem_singleton.mpr rfl⟩
  | .node l r => let ⟨z, h⟩ := Nest.lv_ne l; ⟨z, List.mem_append.mpr (.inl h)⟩
theorem Nest.lots_nodup : ∀ (t : Nest), t.lv.Nodup → t.lots.Nodup
  | .leaf _, _ => List.Pairwise.nil
  | .node l r, hn => by
    obtain ⟨n1, n2, n3⟩ := List.nodup_append.mp hn
    show (List.mergeSort _ _).Nodup
    refine ((List.mergeSort_perm _ _).nodup_iff).mpr (List.nodup_cons.mpr ⟨fun h => ?_, List.nodup_append.mpr ⟨Nest.lots_nodup l n1, Nest.lots_nodup r n2, fun a ha b hb e => ?_⟩⟩)
    · have mem : ∀ z ∈ (Nest.node l r).lv, z ∈ (Nest.node l r).folk := fun z hz => (Nest.folk_perm _).mem_iff.mpr hz
      rcases List.mem_append.mp h with h | h
      · obtain ⟨z, hz⟩ := r.lv_ne
        exact n3 z ((Nest.lot_ok l n1 _ h).1 z (mem z (List.mem_append.mpr (.inr hz)))) z hz rfl
      · obtain ⟨z, hz⟩ := l.lv_ne
        exact n3 z hz z ((Nest.lot_ok r n2 _ h).1 z (mem z (List.mem_append.mpr (.inl hz)))) rfl
    · subst e
      obtain ⟨a1, a2, _⟩ := Nest.lot_ok l n1 a ha
      obtain ⟨b1, _, _⟩ := Nest.lot_ok r n2 a hb
      cases a with
      | nil => exact absurd a2 (by decide)
      | cons z a => exact n3 z (a1 z List.mem_cons_self) z (b1 z List.mem_cons_self) rfl
end K02

namespace K02
open PySem PySem.Spec PyProof.Rows L2 SortR LcM
theorem sorted_rows (rs : List (List Int)) : (rs.mergeSort fun p q => decide (p ≤ q)).Pairwise (· ≤ ·) := by
  have h := List.pairwise_mergeSort (le := fun p q : List Int => decide (p ≤ q)) (fun a b c h1 h2 => decide_eq_true (List.le_trans (of_decide_eq_true h1) (of_decide_eq_true h2)))
    (fun a b => by
      simp only [Bool.or_eq_true, decide_eq_true_eq]
      exact List.le_total a b) rs
  exact h.imp fun {a b} z => of_decide_eq_true z
theorem strict_rows {rs : List (List Int)} (h : rs.Pairwise (· ≤ ·)) (n : rs.Nodup) : rs.Pairwise (· < ·) :=
  (h.and n).imp fun {a b} z => (List.le_iff_lt_or_eq.mp z.1).resolve_right z.2
theorem ascR_of {rs : List (List Int)} (up : rs.Pairwise (· < ·)) : ascR rs = true := by
  unfold ascR
  refine List.all_eq_true.mpr fun i hi => ?_
  have il := List.mem_range.mp hi
  have l1 : i < rs.length := by omega
  have l2 : i + 1 < rs.length := by omega
  have e1 : rs.getD i [] = rs[i] := by rw [List.getD_eq_getElem?_getD, List.getElem?_eq_getElem l1]; rfl
  have e2 : rs.getD (i + 1) [] = rs[i + 1] := by rw [List.getD_eq_getElem?_getD, List.getElem?_eq_getElem l2]; rfl
  rw [e1, e2]
  exact decide_eq_true (List.pairwise_iff_getElem.mp up i (i + 1) l1 l2 (Nat.lt_succ_self i))
theorem Nest.lots_le : ∀ t : Nest, t.lots.Pairwise (· ≤ ·)
  | .leaf _ => List.Pairwise.nil
  | .node l r => sorted_rows _
/-- a nest of the persons 0 .. n - 1 -/
structure Nest.Full (t : Nest) (n : Nat) : Prop where
  nodup : t.lv.Nodup
  rng : ∀ x ∈ t.lv, 0 ≤ x ∧ x < n
  size : t.sz = n
theorem isP_lots {t : Nest} {n : Nat} (f : t.Full n) (h : n ≤ 20) : isP t.lots = true := by
  have len := t.lots_len
  rw [f.size] at len
  have ok := Nest.lot_ok t f.nodup
  have pos : ∀ q ∈ t.lots, ∀ x ∈ q, 0 ≤ x := fun q hq x hx => (f.rng x ((ok q hq).1 x hx)).1
  unfold isP
  simp only [Bool.and_eq_true, decide_eq_true_eq, Bool.not_eq_true']
  refine ⟨⟨⟨by omega, List.all_eq_true.mpr fun i hi => ?_⟩, ascR_of (strict_rows t.lots_le (Nest.lots_nodup t f.nodup))⟩, ?_⟩
  · have il := List.mem_range.mp hi
    have e : t.lots.getD i [] = t.lots[i] := by rw [List.getD_eq_getElem?_getD, List.getElem?_eq_getElem il]; rfl
    obtain ⟨a, b, c⟩ := ok _ (List.getElem_mem il)
    rw [e]
    unfold group
    rw [plist_of c fun x hx => ?_, Bool.true_and]
    · exact decide_eq_true (by omega)
    · have := f.rng x (a x hx)
      omega
  · unfold anyX
    refine List.any_eq_false.mpr fun k hk => ?_
    have kl := List.mem_range.mp hk
    obtain ⟨i, j, e⟩ : ∃ i j, (Comb.prs t.lots.length)[k] = (i, j) := ⟨_, _, rfl⟩
    have ek : (Comb.prs t.lots.length)[k]? = some (i, j) := by rw [List.getElem?_eq_getElem kl, e]
    obtain ⟨l1, l2, _⟩ := Comb.prs_step ek
    have ed : (Comb.prs t.lots.length).getD k (0, 0) = (i, j) := by rw [List.getD_eq_getElem?_getD, ek]; rfl
    have il : i < t.lots.length := by omega
    have e1 : t.lots.getD i [] = t.lots[i] := by rw [List.getD_eq_getElem?_getD, List.getElem?_eq_getElem il]; rfl
    have e2 : t.lots.getD j [] = t.lots[j] := by rw [List.getD_eq_getElem?_getD, List.getElem?_eq_getElem l2]; rfl
    rw [ed]
    show ¬ crossI (maskI (t.lots.getD i [])) (maskI (t.lots.getD j [])) = true
    rw [e1, e2]
    have m1 := List.getElem_mem il
    have m2 := List.getElem_mem l2
    rw [crossI_no (ok _ m1).2.2 (ok _ m2).2.2 (pos _ m1) (pos _ m2) (Nest.lots_nice t f.nodup _ m1 _ m2)]
    exact Bool.false_ne_true
end K02

namespace K02
open PySem PySem.Spec PyProof.Rows L2 SortR LcM
/-- the makers of all groups -/
def Nest.mks : Nest → List Int
  | .leaf _ => []
  | .node l r => max l.mn r.mn :: (l.mks ++ r.mks)
theorem Nest.mn_lv (t : Nest) : t.mn ∈ t.lv := (t.folk_perm.mem_iff).mp t.mn_ok.1
theorem Nest.mks_perm : ∀ t : Nest, (t.mn :: t.mks).Perm t.lv
  | .leaf _ => .refl _
  | .node l r => by
    have a := Nest.mks_perm l
    have b := Nest.mks_perm r
    have c : (l.mn :: l.mks ++ (r.mn :: r.mks)).Perm (l.lv ++ r.lv) := a.append b
    refine List.Perm.trans ?_ c
    show (min l.mn r.mn :: max l.mn r.mn :: (l.mks ++ r.mks)).Perm (l.mn :: (l.mks ++ (r.mn :: r.mks)))
    have d : (l.mn :: (l.mks ++ (r.mn :: r.mks))).Perm (l.mn :: r.mn :: (l.mks ++ r.mks)) := List.Perm.cons _ List.perm_middle
    refine List.Perm.trans ?_ d.symm
    rcases Int.le_total l.mn r.mn with h | h
    · rw [Int.min_eq_left h, Int.max_eq_right h]
    · rw [Int.min_eq_right h, Int.max_eq_left h]
      exact List.Perm.swap _ _ _
theorem Nest.put_pos {i f : Int} (hi : 0 ≤ i) : ∀ t : Nest, t.lv.Nodup → (∀ x ∈ t.lv, 0 ≤ x) → (t.put i f).lv.Perm (if i ∈ t.lv then t.lv ++ [f] else t.lv)
  | .leaf k, _, _ => by
    unfold Nest.put
    by_cases e : k = i
    · rw [if_pos e, if_pos (show i ∈ (Nest.leaf k).lv from List.mem_singleton.mpr e.symm)]
      exact .refl _
    · rw [if_neg e, if_neg (show ¬ i ∈ (Nest.leaf k).lv from fun z => e (List.mem_singleton.mp z).symm)]
  | .node l r, hn, hp => by
    obtain ⟨n1, n2, n3⟩ := List.nodup_append.mp hn
    have pl : ∀ x ∈ l.lv, 0 ≤ x := fun x hx => hp x (List.mem_append.mpr (.inl hx))
    have pr : ∀ x ∈ r.lv, 0 ≤ x := fun x hx => hp x (List.mem_append.mpr (.inr hx))
    have m1 := pl _ l.mn_lv
    have m2 := pr _ r.mn_lv
    have m3 : l.mn ≠ r.mn := n3 _ l.mn_lv _ r.mn_lv
    have a := Nest.put_pos hi l n1 pl (f := f)
    have b := Nest.put_pos hi r n2 pr (f := f)
    unfold Nest.put
    rw [if_neg (by omega)]
    show ((l.put i f).lv ++ (r.put i f).lv).Perm (if i ∈ l.lv ++ r.lv then (l.lv ++ r.lv) ++ [f] else l.lv ++ r.lv)
    by_cases h1 : i ∈ l.lv
    · have h2 : i ∉ r.lv := fun z => n3 i h1 i z rfl
      rw [if_pos h1] at a
      rw [if_neg h2] at b
      rw [if_pos (List.mem_append.mpr (.inl h1))]
      refine (a.append b).trans ?_
      rw [List.append_assoc, List.append_assoc]
      exact List.Perm.append_left _ List.perm_append_comm
    · rw [if_neg h1] at a
      by_cases h2 : i ∈ r.lv
      · rw [if_pos h2] at b
        rw [if_pos (List.mem_append.mpr (.inr h2))]
        refine (a.append b).trans ?_
        rw [List.append_assoc]
      · rw [if_neg h2] at b
        rw [if_neg fun z => (List.mem_append.mp z).elim h1 h2]
        exact a.append b
theorem Nest.put_neg {i f : Int} (hi : i < 0) : ∀ t : Nest, t.mks.Nodup → (∀ x ∈ t.lv, 0 ≤ x) → (t.put i f).lv.Perm (if 0 - i ∈ t.mks then t.lv ++ [f] else t.lv)
  | .leaf k, _, hp => by
    have := hp k (List.mem_singleton.mpr rfl)
    unfold Nest.put
    rw [if_neg (by omega), if_neg (show ¬ 0 - i ∈ (Nest.leaf k).mks from fun z => nomatch z)]
  | .node l r, hn, hp => by
    obtain ⟨n0, n⟩ := List.nodup_cons.mp hn
    obtain ⟨n1, n2, n3⟩ := List.nodup_append.mp n
    have a := Nest.put_neg hi l n1 (fun x hx => hp x (List.mem_append.mpr (.inl hx))) (f := f)
    have b := Nest.put_neg hi r n2 (fun x hx => hp x (List.mem_append.mpr (.inr hx))) (f := f)
    unfold Nest.put
    by_cases e : max l.mn r.mn = 0 - i
    · rw [if_pos e, if_pos (show 0 - i ∈ (Nest.node l r).mks from e ▸ List.mem_cons_self)]
      exact .refl _
    · rw [if_neg e]
      show ((l.put i f).lv ++ (r.put i f).lv).Perm (if 0 - i ∈ max l.mn r.mn :: (l.mks ++ r.mks) then (l.lv ++ r.lv) ++ [f] else l.lv ++ r.lv)
      by_cases h1 : 0 - i ∈ l.mks
      · have h2 : 0 - i ∉ r.mks := fun z => n3 _ h1 _ z rfl
        rw [if_pos h1] at a
        rw [if_neg h2] at b
        rw [if_pos (List.mem_cons_of_mem _ (List.mem_append.mpr (.inl h1)))]
        refine (a.append b).trans ?_
        rw [List.append_assoc, List.append_assoc]
        exact List.Perm.append_left _ List.perm_append_comm
      · rw [if_neg h1] at a
        by_cases h2 : 0 - i ∈ r.mks
        · rw [if_pos h2] at b
          rw [if_pos (List.mem_cons_of_mem _ (List.mem_append.mpr (.inr h2)))]
          refine (a.append b).trans ?_
          rw [List.append_assoc]
        · rw [if_neg h2] at b
          rw [if_neg fun z => (List.mem_cons.mp z).elim (fun q => e q.symm) fun q => (List.mem_append.mp q).elim h1 h2]
          exact a.append b
/-- who comes by an item within its bounds comes once -/
theorem Nest.put_full {t : Nest} {n : Nat} (f : t.Full n) (has : ∀ x : Nat, x < n → (x : Int) ∈ t.lv) {i : Int} (h0 : -(n : Int) < i) (h1 : i < n) (hn : 0 < n) : (t.put i n).Full (n + 1) ∧ ∀ x : Nat, x < n + 1 → (x : Int) ∈ (t.put i n).lv := by
  have perm : (t.put i n).lv.Perm (t.lv ++ [(n : Int)]) := by
    by_cases hi : 0 ≤ i
    · have p := Nest.put_pos hi t f.nodup (fun x hx => (f.rng x hx).1) (f := n)
      have m : i ∈ t.lv := by
        have := has i.toNat (by omega)
        rw [Int.toNat_of_nonneg hi] at this
        exact this
      rw [if_pos m] at p
      exact p
    · have nd : (t.mn :: t.mks).Nodup := (t.mks_perm.nodup_iff).mpr f.nodup
      have p := Nest.put_neg (by omega) t (List.nodup_cons.mp nd).2 (fun x hx => (f.rng x hx).1) (f := n) (i := i)
      have m : 0 - i ∈ t.mks := by
        have q : 0 - i ∈ t.lv := by
          have := has (0 - i).toNat (by omega)
          rw [Int.toNat_of_nonneg (by omega)] at this
          exact this
        have zero := has 0 hn
        have least : t.mn = 0 := by
          have a := t.mn_ok.2 0 ((t.folk_perm.mem_iff).mpr zero)
          have b := (f.rng _ t.mn_lv).1
          omega
        rcases List.mem_cons.mp ((t.mks_perm.mem_iff).mpr q) with z | z
        · omega
        · exact z
      rw [if_pos m] at p
      exact p
  refine ⟨⟨(perm.nodup_iff).mpr (List.nodup_append.mpr ⟨f.nodup, List.nodup_cons.mpr ⟨(fun z => nomatch z), List.Pairwise.nil⟩, fun a ha b hb e => ?_⟩), fun x hx => ?_, ?_⟩, fun x hx => (perm.mem_iff).mpr ?_⟩
  · have := (f.rng a ha).2
    have eb : b = n := by simpa using hb
    omega
  · rcases List.mem_append.mp ((perm.mem_iff).mp hx) with z | z
    · have := f.rng x z
      omega
    · have eb : x = n := by simpa using z
      omega
  · rw [← Nest.sz_lv, perm.length_eq, List.length_append, Nest.sz_lv, f.size]
    rfl
  · by_cases e : x < n
    · exact List.mem_append.mpr (.inl (has x e))
    · have : x = n := by omega
      rw [this]
      exact List.mem_append.mpr (.inr List.mem_cons_self)
theorem nestN_full (is : List Int) (h : Bnd is) : ∀ n, n ≤ is.length → (nestN is n).Full (n + 1) ∧ ∀ x : Nat, x < n + 1 → (x : Int) ∈ (nestN is n).lv
  | 0, _ => ⟨⟨List.nodup_cons.mpr ⟨(fun z => nomatch z), List.Pairwise.nil⟩, fun x hx => by rw [List.mem_singleton.mp hx]; omega, rfl⟩, fun x hx => by
      have : x = 0 := by omega
      rw [this]
      exact List.mem_singleton.mpr rfl⟩
  | n + 1, hn => by
    obtain ⟨f, has⟩ := nestN_full is h n (Nat.le_of_succ_le hn)
    have e : is[n]? = some is[n] := List.getElem?_eq_getElem hn
    have b := h n _ e
    have eg : is.getD n 0 = is[n] := by rw [List.getD_eq_getElem?_getD, e]; rfl
    have q := Nest.put_full f has (i := is.getD n 0) (by rw [eg]; omega) (by rw [eg]; omega) (Nat.succ_pos n)
    exact q
end K02

namespace K02
open PySem PySem.Spec PyProof.Rows L2 SortR LcM RepA
abbrev sNeedPr : Stmt := top 13
abbrev sNeedG : Stmt := top 20
abbrev sBoth : Stmt := top 21
abbrev sParts : Stmt := top 22
abbrev sMaker : Stmt := top 23
abbrev sDepth : Stmt := top 24
abbrev sLeast : Stmt := top 25
structure PtsF (K : PySem.W.Frag) (mg : Str → Option Value) where
  (fNeedPr fNeedG fBoth fParts fMaker fDepth fLeast : Addr)
  (dNeedPr dNeedG dBoth dParts dMaker dDepth dLeast : FuncData)
  FNeedPr : Fun K "need_person" "need_person" sNeedPr fNeedPr dNeedPr
  FNeedG : Fun K "need_group_in" "need_group_in" sNeedG fNeedG dNeedG
  FBoth : Fun K "both_parts" "both_parts" sBoth fBoth dBoth
  FParts : Fun K "parts_of" "parts_of" sParts fParts dParts
  FMaker : Fun K "maker_of" "maker_of" sMaker fMaker dMaker
  FDepth : Fun K "depth_of" "depth_of" sDepth fDepth dDepth
  FLeast : Fun K "least_group" "least_group" sLeast fLeast dLeast
  gNeedPr : mg "need_person" = some (.ref fNeedPr)
  gNeedG : mg "need_group_in" = some (.ref fNeedG)
  gBoth : mg "both_parts" = some (.ref fBoth)
  gParts : mg "parts_of" = some (.ref fParts)
  gMaker : mg "maker_of" = some (.ref fMaker)
  gDepth : mg "depth_of" = some (.ref fDepth)
  gLeast : mg "least_group" = some (.ref fLeast)
  bNeedPr : Binds K dNeedPr ["person", "persons"] []
  bNeedG : Binds K dNeedG ["parting", "group"] []
  bBoth : Binds K dBoth ["parting", "group"] []
  bParts : Binds K dParts ["parting", "group"] []
  bMaker : Binds K dMaker ["parting", "group"] []
  bDepth : Binds K dDepth ["parting", "person"] []
  bLeast : Binds K dLeast ["parting", "one", "other"] []
theorem units65 {A : Around} {k : Nat} (hr : Room k A) : A.units + 65 < cLine := by
  have := hr.un
  omega
theorem any_rows (ns : List Int) : ∀ rs : List (List Int), ((rs.map fun r => PyData.list (r.map .int)).any fun z => PyData.eqv z (.list (ns.map .int))) = decide (ns ∈ rs)
  | [] => (decide_eq_false fun z => nomatch z).symm
  | r :: rs => by
    rw [List.map_cons, List.any_cons, any_rows ns rs, eqv_ints]
    by_cases h : r = ns
    · rw [decide_eq_true h, Bool.true_or, decide_eq_true (by rw [h]; exact List.mem_cons_self)]
    · rw [decide_eq_false h, Bool.false_or]
      by_cases m : ns ∈ rs
      · rw [decide_eq_true m, decide_eq_true (List.mem_cons_of_mem _ m)]
      · rw [decide_eq_false m, decide_eq_false fun z => (List.mem_cons.mp z).elim (fun q => h q.symm) m]
theorem isP_group {rs : List (List Int)} (h : isP rs = true) {r : List Int} (hr : r ∈ rs) : group (rs.length + 1) r = true := by
  unfold isP at h
  simp only [Bool.and_eq_true] at h
  obtain ⟨i, hi, e⟩ := List.getElem_of_mem hr
  have g := List.all_eq_true.mp h.1.1.2 i (List.mem_range.mpr hi)
  rw [List.getD_eq_getElem?_getD, List.getElem?_eq_getElem hi, Option.getD_some, e] at g
  exact g
theorem isP_lt {rs : List (List Int)} (h : isP rs = true) : rs.length < 20 := by
  unfold isP at h
  simp only [Bool.and_eq_true, decide_eq_true_eq] at h
  omega
theorem group_two {n : Int} {r : List Int} (h : group n r = true) : 2 ≤ r.length := by
  unfold group at h
  simp only [Bool.and_eq_true, decide_eq_true_eq] at h
  omega
theorem isP_ne {rs : List (List Int)} (h : isP rs = true) : ∀ r ∈ rs, r ≠ [] := fun r hr z => by
  have := group_two (isP_group h hr)
  rw [z] at this
  exact absurd this (by decide)
/-- the part with the least person: the greatest one that begins alike -/
def firstN (rs : List (List Int)) (g : List Int) : Nat → List Int
  | 0 => [g.getD 0 0]
  | n + 1 => let f := firstN rs g n; let r := rs.getD n []
    if r.getD 0 0 = g.getD 0 0 ∧ f.length < r.length ∧ r.length < g.length then r else f
def firR (rs : List (List Int)) (g : List Int) : List Int := firstN rs g rs.length
def secR (rs : List (List Int)) (g : List Int) : List Int := g.filter fun x => decide (x ∉ firR rs g)
/-- a new list of two new lists of ints -/
structure Two (H H' : Hp) (p q1 q2 : Addr) (x y : List Int) : Prop where
  top : H' p = some (.lst [.ref q1, .ref q2])
  e1 : H' q1 = some (.lst (x.map V.int))
  e2 : H' q2 = some (.lst (y.map V.int))
  np : H p = none
  n1 : H q1 = none
  n2 : H q2 = none
  p1 : q1 ≠ p
  p2 : q2 ≠ p
  q12 : q1 ≠ q2
theorem Two.back {H0 H H' : Hp} {p q1 q2 : Addr} {x y : List Int} (t : Two H H' p q1 q2 x y) (s : Grows H0 H) : Two H0 H' p q1 q2 x y :=
  ⟨t.top, t.e1, t.e2, none_back s t.np, none_back s t.n1, none_back s t.n2, t.p1, t.p2, t.q12⟩
theorem Two.on {H H' G : Hp} {p q1 q2 : Addr} {x y : List Int} (t : Two H H' p q1 q2 x y) (s : Grows H' G) : Two H G p q1 q2 x y :=
  ⟨s _ _ t.top, s _ _ t.e1, s _ _ t.e2, t.np, t.n1, t.n2, t.p1, t.p2, t.q12⟩
/-- the first one of the shortest -/
def fMin (js : List (List Int)) (r : List Int) : Prop := ∃ k, k < js.length ∧ js.getD k [] = r ∧ ∀ j, j < js.length → r.length ≤ (js.getD j []).length ∧ (j < k → r.length < (js.getD j []).length)
def has2 (i j : Int) (rs : List (List Int)) : List (List Int) := rs.filter fun r => decide (i ∈ r) && decide (j ∈ r)
def spNeedPr : Sp := fun vs H Q _ => ∃ i n : Int, vs = [.int i, .int n] ∧ 0 ≤ i ∧ i < n ∧ Q .non H
def spNeedG (K : PySem.W.Frag) : Sp := fun vs H Q _ => ∃ (a b : Addr) (bs : List (Addr × List Int)) (g : List Int), vs = [.ref a, .ref b] ∧ Rw K H a bs ∧ Sz (bs.map (·.2)) ∧ isP (bs.map (·.2)) = true ∧ SqL K H b (g.map V.int) ∧ g ∈ bs.map (·.2) ∧ ∀ H', Grows H H' → Q .non H'
def spBoth (K : PySem.W.Frag) : Sp := fun vs H Q _ => ∃ (a b : Addr) (bs : List (Addr × List Int)) (g : List Int), vs = [.ref a, .ref b] ∧ Rw K H a bs ∧ SqL K H b (g.map V.int) ∧ g ≠ [] ∧ (∀ r ∈ bs.map (·.2), r ≠ []) ∧ g.length ≤ 1000 ∧ bs.length ≤ 1000 ∧
  ∀ (p q1 q2 : Addr) (H' : Hp), Grows H H' → Two H H' p q1 q2 (firR (bs.map (·.2)) g) (secR (bs.map (·.2)) g) → Q (.ref p) H'
def spParts (K : PySem.W.Frag) : Sp := fun vs H Q _ => ∃ (a b : Addr) (bs : List (Addr × List Int)) (g : List Int), vs = [.ref a, .ref b] ∧ Rw K H a bs ∧ Sz (bs.map (·.2)) ∧ isP (bs.map (·.2)) = true ∧ SqL K H b (g.map V.int) ∧ g ∈ bs.map (·.2) ∧
  ∀ (p q1 q2 : Addr) (H' : Hp), Grows H H' → Two H H' p q1 q2 (firR (bs.map (·.2)) g) (secR (bs.map (·.2)) g) → Q (.ref p) H'
def spMaker (K : PySem.W.Frag) : Sp := fun vs H Q _ => ∃ (a b : Addr) (bs : List (Addr × List Int)) (g : List Int), vs = [.ref a, .ref b] ∧ Rw K H a bs ∧ Sz (bs.map (·.2)) ∧ isP (bs.map (·.2)) = true ∧ SqL K H b (g.map V.int) ∧ g ∈ bs.map (·.2) ∧ secR (bs.map (·.2)) g ≠ [] ∧
  ∀ H', Grows H H' → Q (.int ((secR (bs.map (·.2)) g).getD 0 0)) H'
def spDepth (K : PySem.W.Frag) : Sp := fun vs H Q _ => ∃ (a : Addr) (bs : List (Addr × List Int)) (i : Int), vs = [.ref a, .int i] ∧ Rw K H a bs ∧ Sz (bs.map (·.2)) ∧ isP (bs.map (·.2)) = true ∧ 0 ≤ i ∧ i < bs.length + 1 ∧
  ∀ H', Grows H H' → Q (.int (((bs.map (·.2)).filter fun r => decide (i ∈ r)).length : Nat)) H'
def spLeast (K : PySem.W.Frag) : Sp := fun vs H Q _ => ∃ (a : Addr) (bs : List (Addr × List Int)) (i j : Int), vs = [.ref a, .int i, .int j] ∧ Rw K H a bs ∧ Sz (bs.map (·.2)) ∧ isP (bs.map (·.2)) = true ∧ 0 ≤ i ∧ i < bs.length + 1 ∧ 0 ≤ j ∧ j < bs.length + 1 ∧ i ≠ j ∧ has2 i j (bs.map (·.2)) ≠ [] ∧
  ∀ (p : Addr) (r : List Int) (H' : Hp), Grows H H' → H p = none → H' p = some (.lst (r.map V.int)) → fMin (has2 i j (bs.map (·.2))) r → Q (.ref p) H'
section
variable {P : Program} {w : World} {K : PySem.W.Frag} {mg : Str → Option Value} {base : Heap}
theorem scNeedPr : FnScope ["person", "persons"] ["person", "persons"] (defScope sNeedPr) := ⟨rfl, rfl, rfl, by decide +kernel, rfl, by decide +kernel, by decide +kernel⟩
theorem scNeedG : FnScope ["parting", "group", "persons"] ["parting", "group"] (defScope sNeedG) := ⟨rfl, rfl, rfl, by decide +kernel, rfl, by decide +kernel, by decide +kernel⟩
theorem scBoth : FnScope ["parting", "group", "first", "inner", "person"] ["parting", "group"] (defScope sBoth) := ⟨rfl, rfl, rfl, by decide +kernel, rfl, by decide +kernel, by decide +kernel⟩
theorem scParts : FnScope ["parting", "group"] ["parting", "group"] (defScope sParts) := ⟨rfl, rfl, rfl, by decide +kernel, rfl, by decide +kernel, by decide +kernel⟩
theorem scMaker : FnScope ["parting", "group"] ["parting", "group"] (defScope sMaker) := ⟨rfl, rfl, rfl, by decide +kernel, rfl, by decide +kernel, by decide +kernel⟩
theorem scDepth : FnScope ["parting", "person", "group"] ["parting", "person"] (defScope sDepth) := ⟨rfl, rfl, rfl, by decide +kernel, rfl, by decide +kernel, by decide +kernel⟩
theorem scLeast : FnScope ["parting", "one", "other", "persons", "group"] ["parting", "one", "other"] (defScope sLeast) := ⟨rfl, rfl, rfl, by decide +kernel, rfl, by decide +kernel, by decide +kernel⟩
theorem ok_needPr (Z : ProgF K mg) (T : TxtP mg) (Y : PtsF K mg) : FnOk P w K mg base CX0 3 Y.fNeedPr Y.dNeedPr ["person", "persons"] spNeedPr := by
  have GPer : FnOk P w K mg base CX0 2 Z.fPer Z.dPer ["thing", "persons"] (spPerson K) := ok_person Z T
  refine Y.FNeedPr.ok scNeedPr (fun vs H Q E h => ?_) (fun cdv A outer s H vs Q E hr h => ?_)
  · obtain ⟨i, n, rfl, _⟩ := h
    rfl
  · obtain ⟨i, n, rfl, h1, h2, k⟩ := h
    refine ⟨_, (pss_one (ps_if (pt_not (pt_val (pe_call GPer (hr.mono (by decide)) rfl Z.gPer Z.FPer.kp Z.bPer .nil pass0 (pa_cons (pv 0) (pa_cons (pv 1) pa_nil))))) (pss_one ps_never) pss_nil)), ?_⟩
    refine ⟨_, rfl, _, rfl, _, "int", n, rfl, .base (.int i), by decide, (fun _ => ⟨i, rfl, ?_⟩), fun z => absurd rfl z⟩
    rw [decide_eq_true h1, decide_eq_true h2]
    exact ⟨_, rfl, iteF k⟩
theorem ok_needG (Z : ProgF K mg) (T : TxtP mg) (Y : PtsF K mg) : FnOk P w K mg base CX0 7 Y.fNeedG Y.dNeedG ["parting", "group"] (spNeedG K) := by
  have GPs : FnOk P w K mg base CX0 6 Z.fPs Z.dPs ["parting"] (spPs K) := ok_persons Z T
  have GGr : FnOk P w K mg base CX0 4 Z.fGr Z.dGr ["thing", "persons"] (spPL K group) := ok_group Z T
  refine Y.FNeedG.ok scNeedG (fun vs H Q E h => ?_) (fun cdv A outer s H vs Q E hr h => ?_)
  · obtain ⟨a, b, bs, g, rfl, _⟩ := h
    rfl
  · obtain ⟨a, b, bs, g, rfl, hB, hz, hp, hS, hg, k⟩ := h
    refine ⟨_, (pss_cons (ps_set (i := 2) scNeedG.nd rfl (.inl rfl) (pe_call GPs (hr.mono (by decide)) rfl Z.gPs Z.FPs.kp Z.bPs .nil pass0 (pa_cons (pv 0) pa_nil)))
      (pss_one (ps_if (PW.pt (pw_or (pt_not (pt_val (pe_call GGr (hr.mono (by decide)) rfl Z.gGr Z.FGr.kp Z.bGr .nil pass0 (pa_cons (pv 1) (pa_cons (pv 2) pa_nil))))) (pw_or1 (pt_cmpR (r := rNotInD K) (by exact op_notInD (units65 hr)) (pv 1) (pv 0) (by rfl))))) (pss_one ps_never) pss_nil))), ?_⟩
    have gg := isP_group hp hg
    rw [List.length_map] at gg
    refine ⟨_, rfl, a, bs, rfl, hB, hz, hp, fun H1 s1 => ⟨_, rfl, _, rfl, b, _, g, rfl, s1.seq hS, hz.2 _ hg, fun H2 s2 => ?_⟩⟩
    rw [gg]
    refine ⟨_, rfl, iteF ⟨_, rfl, _, rfl, .list (g.map .int), (bs.map (·.2)).map fun r => .list (r.map .int), .lst ((s1.trans s2).seq hS) (rows_dp g), .lst ((hB.keep s1).keep s2).top (rows_data ((hB.keep s1).keep s2).each), shaped_ints g, shaped_rows _, ?_⟩⟩
    rw [any_rows, decide_eq_true hg]
    exact ⟨_, rfl, iteF (k _ (s1.trans s2))⟩
theorem at_head {r : List Int} (h : r ≠ []) : atI (r.map V.int) 0 = some (V.int (r.getD 0 0)) := by
  have pz : 0 < r.length := List.length_pos_iff.mpr h
  refine atI_nat (j := 0) ?_
  rw [List.getElem?_map, List.getD_eq_getElem?_getD, List.getElem?_eq_getElem pz]
  rfl
end
end K02

namespace K02
open PySem PySem.Spec PyProof.Rows L2 SortR LcM RepA
theorem filt {α : Type} (d : α) (p : α → Bool) (cs : List α) : ((List.range cs.length).filter fun i => p (cs.getD i d)).map (fun i => cs.getD i d) = cs.filter p := by
  have e : (fun i => p (cs.getD i d)) = p ∘ (fun i => cs.getD i d) := rfl
  rw [e, ← List.filter_map]
  congr 1
  refine List.ext_getElem (by rw [List.length_map, List.length_range]) fun i h1 h2 => ?_
  rw [List.getElem_map, List.getElem_range, List.getD_eq_getElem?_getD, List.getElem?_eq_getElem h2]
  rfl
theorem kept_rows (p : List Int → Bool) (bs : List (Addr × List Int)) : kept (fun i => p (bs.getD i (0, [])).2) (fun i => V.ref (bs.getD i (0, [])).1) bs.length = (bs.filter fun b => p b.2).map fun b => V.ref b.1 := by
  rw [← filt (0, []) (fun c => p c.2) bs, List.map_map]
  rfl
theorem snd_filter (p : List Int → Bool) (bs : List (Addr × List Int)) : (bs.map (·.2)).filter p = (bs.filter fun b => p b.2).map (·.2) := by
  rw [List.filter_map]
  rfl
section
variable {P : Program} {w : World} {K : PySem.W.Frag} {mg : Str → Option Value} {base : Heap}
theorem ok_both (T : TxtP mg) (Y : PtsF K mg) : FnOk P w K mg base CX0 1 Y.fBoth Y.dBoth ["parting", "group"] (spBoth K) := by
  refine Y.FBoth.ok scBoth (fun vs H Q E h => ?_) (fun cdv A outer s H vs Q E hr h => ?_)
  · obtain ⟨a, b, bs, g, rfl, _⟩ := h
    rfl
  · obtain ⟨a, b, bs, g, rfl, hB, hb, hne, hrs, hgl, hbl, k⟩ := h
    refine ⟨_, (pss_cons (ps_set (i := 2) scBoth.nd rfl (.inr rfl) (pe_lst (pa_cons (pe_ix (r := rIxL K) ix_list (pv 1) pe_int (fun _ _ => rfl)) pa_nil)))
      (pss_cons (ps_for PassesOwn.never rfl (pi_list (pv 0)) (pg_name (i := 3) scBoth.nd rfl (.inl rfl))
      (pss_one (ps_if (PW.pt (pw_and (pt_cmpR op_eq (pe_ix (r := rIxL K) ix_list (pv 3) pe_int (fun _ _ => rfl)) (pe_ix (r := rIxL K) ix_list (pv 1) pe_int (fun _ _ => rfl)) (nomark _)) (pw_and1 (pt_chain op_lt op_lt (pe_callB call_len_seq (by rfl) T.len (by decide +kernel) (pa_cons (pv 2) pa_nil)) (pe_callB call_len_seq (by rfl) T.len (by decide +kernel) (pa_cons (pv 3) pa_nil)) (pe_callB call_len_seq (by rfl) T.len (by decide +kernel) (pa_cons (pv 1) pa_nil)))))) (pss_one (ps_set (i := 2) scBoth.nd rfl (.inr rfl) (pv 3))) pss_nil)))
      (pss_one (ps_ret (pe_lst (pa_cons (pe_callTy call_list_of (by rfl) T.list (by decide +kernel) (pa_cons (pv 2) pa_nil)) (pa_cons (pe_lc (own := [("person", 4)]) (g := gName 4)  rfl scBoth.nd (pi_list (pv 1)) (blkOk_by (own := [("person", 4)]) (N := ["parting", "group", "first", "inner", "person"]) (sc := defScope sBoth) (by decide +kernel)) (fun _ _ _ _ _ => pg_name (i := 4) scBoth.nd rfl (Or.inl rfl)) (fun _ _ _ _ _ => (pts_one (pt_cmpR (r := rIn K true) (by exact op_notIn_seq) (pv 4) (pv 2) (by rfl)))) (fun _ _ _ _ _ => (pv 4))) pa_nil))))))), ?_⟩
    refine ⟨_, rfl, b, _, 0, _, rfl, rfl, hb, at_head hne, (by show 1 ≤ sizeLine; decide), fun f0 hf0 => ?_⟩
    have g0 : Grows H (upd H f0 (.lst [V.int (g.getD 0 0)])) := Grows.new hf0
    refine ⟨_, rfl, a, rfl, ⟨_, (hB.keep g0).top⟩, for_list (K := K) (a := a) (xs := bs.map fun b => V.ref b.1) (fun i σ G => ∃ f o, σ = [some (.ref a), some (.ref b), some (.ref f), o, none] ∧ Grows H G ∧ SqL K G f ((firstN (bs.map (·.2)) g i).map V.int))
      ⟨f0, none, rfl, g0, SqL.of upd_same⟩ (fun i σ G _ ⟨_, _, _, g', _⟩ => (hB.keep g').top) (fun i x σ G hx ⟨f, o, e, g', ef⟩ => ?_) fun σ G ⟨f, o, e, g', ef⟩ => ?_⟩
    · subst e
      have il := (List.getElem?_eq_some_iff.mp hx).1
      rw [List.length_map] at il
      obtain rfl := at_map (d := (0, [])) hx
      have ei := (hB.keep g').at il
      have ne := hrs _ (mem_at il)
      have eb := g'.seq hb
      refine ⟨_, rfl, _, _, 0, _, rfl, rfl, ei, at_head ne, _, rfl, b, _, 0, _, rfl, rfl, eb, at_head hne, rfl, _, rfl, ?_⟩
      have same : ¬ ((bs.getD i (0, [])).2.getD 0 0 = g.getD 0 0 ∧ (firstN (bs.map (·.2)) g i).length < (bs.getD i (0, [])).2.length ∧ (bs.getD i (0, [])).2.length < g.length) → firstN (bs.map (·.2)) g (i + 1) = firstN (bs.map (·.2)) g i := fun z => by
        show (if _ then _ else _) = _
        rw [snd_at]
        exact if_neg z
      by_cases h1 : (bs.getD i (0, [])).2.getD 0 0 = g.getD 0 0
      · rw [decide_eq_true (congrArg V.int h1)]
        refine iteT ⟨_, rfl, f, _, rfl, .inl ef, _, rfl, _, _, rfl, .inl ei, _, _, rfl, rfl, _, rfl, ?_⟩
        rw [List.length_map, List.length_map]
        by_cases h2 : (firstN (bs.map (·.2)) g i).length < (bs.getD i (0, [])).2.length
        · rw [if_pos (decide_eq_true (show (((firstN (bs.map (·.2)) g i).length : Nat) : Int) < ((bs.getD i (0, [])).2.length : Nat) by omega))]
          refine ⟨_, rfl, b, _, rfl, .inl eb, _, _, rfl, rfl, _, rfl, ?_⟩
          rw [List.length_map]
          by_cases h3 : (bs.getD i (0, [])).2.length < g.length
          · rw [decide_eq_true (show (((bs.getD i (0, [])).2.length : Nat) : Int) < (g.length : Nat) by omega)]
            refine iteT ⟨_, rfl, _, _, rfl, g', ?_⟩
            have e : firstN (bs.map (·.2)) g (i + 1) = (bs.getD i (0, [])).2 := by
              show (if _ then _ else _) = _
              rw [snd_at]
              exact if_pos ⟨h1, h2, h3⟩
            rw [e]
            exact ei
          · rw [decide_eq_false (show ¬ (((bs.getD i (0, [])).2.length : Nat) : Int) < (g.length : Nat) by omega)]
            exact iteF ⟨f, _, rfl, g', by rw [same fun z => h3 z.2.2]; exact ef⟩
        · rw [if_neg (by rw [decide_eq_false (show ¬ (((firstN (bs.map (·.2)) g i).length : Nat) : Int) < ((bs.getD i (0, [])).2.length : Nat) by omega)]; exact Bool.false_ne_true)]
          refine ⟨_, rfl, iteF ⟨f, _, rfl, g', by rw [same fun z => h2 z.2.1]; exact ef⟩⟩
      · rw [decide_eq_false fun z => h1 (V.int.inj z)]
        exact iteF (iteF ⟨f, _, rfl, g', by rw [same fun z => h1 z.1]; exact ef⟩)
    · subst e
      rw [List.length_map, show firstN (bs.map (·.2)) g bs.length = firR (bs.map (·.2)) g by unfold firR; rw [List.length_map]] at ef
      have eb := g'.seq hb
      refine ⟨_, rfl, f, _, rfl, .inl ef, fun q1 hq1 => ?_⟩
      have g1 : Grows G (upd G q1 (.lst ((firR (bs.map (·.2)) g).map V.int))) := Grows.new hq1
      have eq1 : (upd G q1 (.lst ((firR (bs.map (·.2)) g).map V.int))) q1 = some (.lst ((firR (bs.map (·.2)) g).map V.int)) := upd_same
      refine ⟨_, rfl, b, rfl, ⟨_, g1.seq eb⟩, fun D hD => lc_listT (K := K) (fun i => decide (g.getD i 0 ∉ firR (bs.map (·.2)) g)) (fun i => V.int (g.getD i 0)) hD (g1.seq eb) (by rw [List.length_map]; omega) (fun i x G2 Ry Rn hx sm ky kn => ?_) fun G2 sm eD => ?_⟩
      · obtain rfl := at_map (d := 0) hx
        refine ⟨rfl, _, rfl, _, rfl, f, _, rfl, .inl ((g1.trans sm).seq ef), rfl, flat_ints _, _, rfl, ?_⟩
        show if (!inV (V.int (g.getD i 0)) ((firR (bs.map (·.2)) g).map V.int)) = true then _ else _
        rw [inV_ints]
        by_cases m : g.getD i 0 ∈ firR (bs.map (·.2)) g
        · rw [decide_eq_true m]
          exact iteF (kn (decide_eq_false fun z => z m) _ .refl)
        · rw [decide_eq_false m]
          exact iteT ⟨_, rfl, ky (decide_eq_true m) _ .refl⟩
      · rw [List.length_map] at eD
        have ek : kept (fun i => decide (g.getD i 0 ∉ firR (bs.map (·.2)) g)) (fun i => V.int (g.getD i 0)) g.length = (secR (bs.map (·.2)) g).map V.int := by
          unfold kept secR
          rw [← filt 0 (fun x => decide (x ∉ firR (bs.map (·.2)) g)) g, List.map_map]
          rfl
        rw [ek] at eD
        refine ⟨(by show 2 ≤ sizeLine; decide), fun p hp => ?_⟩
        have gp : Grows G2 (upd G2 p (.lst [V.ref q1, V.ref D])) := Grows.new hp
        have gall := ((g'.trans g1).trans sm).trans gp
        have e1p := sm _ _ eq1
        exact k p q1 D _ gall ⟨upd_same, gp _ _ e1p, gp _ _ eD, none_back ((g'.trans g1).trans sm) hp, none_back g' hq1, none_back (g'.trans g1) hD, ne_of_none e1p hp, ne_of_none eD hp, ne_of_none eq1 hD⟩
theorem ok_parts (Z : ProgF K mg) (T : TxtP mg) (Y : PtsF K mg) : FnOk P w K mg base CX0 8 Y.fParts Y.dParts ["parting", "group"] (spParts K) := by
  have GNeedG : FnOk P w K mg base CX0 7 Y.fNeedG Y.dNeedG ["parting", "group"] (spNeedG K) := ok_needG Z T Y
  have GBoth : FnOk P w K mg base CX0 1 Y.fBoth Y.dBoth ["parting", "group"] (spBoth K) := ok_both T Y
  refine Y.FParts.ok scParts (fun vs H Q E h => ?_) (fun cdv A outer s H vs Q E hr h => ?_)
  · obtain ⟨a, b, bs, g, rfl, _⟩ := h
    rfl
  · obtain ⟨a, b, bs, g, rfl, hB, hz, hp, hS, hg, k⟩ := h
    refine ⟨_, (pss_cons (ps_expr (pe_call GNeedG (hr.mono (by decide)) rfl Y.gNeedG Y.FNeedG.kp Y.bNeedG .nil pass0 (pa_cons (pv 0) (pa_cons (pv 1) pa_nil))))
      (pss_one (ps_ret (pe_call GBoth (hr.mono (by decide)) rfl Y.gBoth Y.FBoth.kp Y.bBoth .nil pass0 (pa_cons (pv 0) (pa_cons (pv 1) pa_nil)))))), ?_⟩
    have lt := isP_lt hp
    rw [List.length_map] at lt
    exact ⟨_, rfl, _, rfl, a, b, bs, g, rfl, hB, hz, hp, hS, hg, fun H1 s1 => ⟨_, rfl, _, rfl, a, b, bs, g, rfl, hB.keep s1, s1.seq hS, isP_ne hp _ hg, isP_ne hp, hz.2 _ hg, by omega, fun p q1 q2 H2 s2 t => k p q1 q2 H2 (s1.trans s2) (t.back s1)⟩⟩
theorem ok_maker (Z : ProgF K mg) (T : TxtP mg) (Y : PtsF K mg) : FnOk P w K mg base CX0 8 Y.fMaker Y.dMaker ["parting", "group"] (spMaker K) := by
  have GNeedG : FnOk P w K mg base CX0 7 Y.fNeedG Y.dNeedG ["parting", "group"] (spNeedG K) := ok_needG Z T Y
  have GBoth : FnOk P w K mg base CX0 1 Y.fBoth Y.dBoth ["parting", "group"] (spBoth K) := ok_both T Y
  refine Y.FMaker.ok scMaker (fun vs H Q E h => ?_) (fun cdv A outer s H vs Q E hr h => ?_)
  · obtain ⟨a, b, bs, g, rfl, _⟩ := h
    rfl
  · obtain ⟨a, b, bs, g, rfl, hB, hz, hp, hS, hg, hne, k⟩ := h
    refine ⟨_, (pss_cons (ps_expr (pe_call GNeedG (hr.mono (by decide)) rfl Y.gNeedG Y.FNeedG.kp Y.bNeedG .nil pass0 (pa_cons (pv 0) (pa_cons (pv 1) pa_nil))))
      (pss_one (ps_ret (pe_ix (r := rIxL K) ix_list (pe_ix (r := rIxL K) ix_list (pe_call GBoth (hr.mono (by decide)) rfl Y.gBoth Y.FBoth.kp Y.bBoth .nil pass0 (pa_cons (pv 0) (pa_cons (pv 1) pa_nil))) pe_int (fun _ _ => rfl)) pe_int (fun _ _ => rfl))))), ?_⟩
    have lt := isP_lt hp
    rw [List.length_map] at lt
    exact ⟨_, rfl, _, rfl, a, b, bs, g, rfl, hB, hz, hp, hS, hg, fun H1 s1 => ⟨_, rfl, _, rfl, a, b, bs, g, rfl, hB.keep s1, s1.seq hS, isP_ne hp _ hg, isP_ne hp, hz.2 _ hg, by omega, fun p q1 q2 H2 s2 t => ⟨_, _, 1, V.ref q2, rfl, rfl, SqL.of t.top, rfl, _, _, 0, _, rfl, rfl, SqL.of t.e2, at_head hne, k H2 (s1.trans s2)⟩⟩⟩
theorem ok_depth (Z : ProgF K mg) (T : TxtP mg) (Y : PtsF K mg) : FnOk P w K mg base CX0 7 Y.fDepth Y.dDepth ["parting", "person"] (spDepth K) := by
  have GNeedPr : FnOk P w K mg base CX0 3 Y.fNeedPr Y.dNeedPr ["person", "persons"] spNeedPr := ok_needPr Z T Y
  have GPs : FnOk P w K mg base CX0 6 Z.fPs Z.dPs ["parting"] (spPs K) := ok_persons Z T
  refine Y.FDepth.ok scDepth (fun vs H Q E h => ?_) (fun cdv A outer s H vs Q E hr h => ?_)
  · obtain ⟨a, bs, i, rfl, _⟩ := h
    rfl
  · obtain ⟨a, bs, i, rfl, hB, hz, hp, i0, i1, k⟩ := h
    refine ⟨_, (pss_cons (ps_expr (pe_call GNeedPr (hr.mono (by decide)) rfl Y.gNeedPr Y.FNeedPr.kp Y.bNeedPr .nil pass0 (pa_cons (pv 1) (pa_cons (pe_call GPs (hr.mono (by decide)) rfl Z.gPs Z.FPs.kp Z.bPs .nil pass0 (pa_cons (pv 0) pa_nil)) pa_nil))))
      (pss_one (ps_ret (pe_callB call_len_seq (by rfl) T.len (by decide +kernel) (pa_cons (pe_lc (own := [("group", 2)]) (g := gName 2)  rfl scDepth.nd (pi_list (pv 0)) (blkOk_by (own := [("group", 2)]) (N := ["parting", "person", "group"]) (sc := defScope sDepth) (by decide +kernel)) (fun _ _ _ _ _ => pg_name (i := 2) scDepth.nd rfl (Or.inl rfl)) (fun _ _ _ _ _ => (pts_one (pt_cmpR (r := rIn K false) (by exact op_in_seq) (pv 1) (pv 2) (by rfl)))) (fun _ _ _ _ _ => (pv 2))) pa_nil))))), ?_⟩
    have lt := isP_lt hp
    rw [List.length_map] at lt
    refine ⟨_, rfl, _, rfl, a, bs, rfl, hB, hz, hp, fun H1 s1 => ⟨i, _, rfl, i0, i1, ?_⟩⟩
    have hB1 := hB.keep s1
    refine ⟨_, rfl, a, rfl, ⟨_, hB1.top⟩, fun D hD => lc_listT (K := K) (fun j => decide (i ∈ (bs.getD j (0, [])).2)) (fun j => V.ref (bs.getD j (0, [])).1) hD hB1.top (by rw [List.length_map]; omega) (fun j x G Ry Rn hx sm ky kn => ?_) fun G sm eD => ?_⟩
    · have il := (List.getElem?_eq_some_iff.mp hx).1
      rw [List.length_map] at il
      obtain rfl := at_map (d := (0, [])) hx
      refine ⟨rfl, _, rfl, _, rfl, _, _, rfl, .inl ((hB1.keep sm).at il), rfl, flat_ints _, _, rfl, ?_⟩
      show if (inV (V.int i) ((bs.getD j (0, [])).2.map V.int)) = true then _ else _
      rw [inV_ints]
      by_cases m : i ∈ (bs.getD j (0, [])).2
      · rw [decide_eq_true m]
        exact iteT ⟨_, rfl, ky (decide_eq_true m) _ .refl⟩
      · rw [decide_eq_false m]
        exact iteF (kn (decide_eq_false m) _ .refl)
    · rw [List.length_map, kept_rows (fun r => decide (i ∈ r)) bs] at eD
      refine ⟨D, _, rfl, .inl (SqL.of eD), ?_⟩
      have kk := k G (s1.trans sm)
      rw [snd_filter, List.length_map] at kk
      rw [List.length_map]
      exact kk
theorem ok_least (Z : ProgF K mg) (T : TxtP mg) (TC : Txt0 mg) (Y : PtsF K mg) : FnOk P w K mg base CX0 7 Y.fLeast Y.dLeast ["parting", "one", "other"] (spLeast K) := by
  have GNeedPr : FnOk P w K mg base CX0 3 Y.fNeedPr Y.dNeedPr ["person", "persons"] spNeedPr := ok_needPr Z T Y
  have GPs : FnOk P w K mg base CX0 6 Z.fPs Z.dPs ["parting"] (spPs K) := ok_persons Z T
  refine Y.FLeast.ok scLeast (fun vs H Q E h => ?_) (fun cdv A outer s H vs Q E hr h => ?_)
  · obtain ⟨a, bs, i, j, rfl, _⟩ := h
    rfl
  · obtain ⟨a, bs, i, j, rfl, hB, hz, hp, i0, i1, j0, j1, ij, hne, k⟩ := h
    refine ⟨_, (pss_cons (ps_set (i := 3) scLeast.nd rfl (.inl rfl) (pe_call GPs (hr.mono (by decide)) rfl Z.gPs Z.FPs.kp Z.bPs .nil pass0 (pa_cons (pv 0) pa_nil)))
      (pss_cons (ps_expr (pe_call GNeedPr (hr.mono (by decide)) rfl Y.gNeedPr Y.FNeedPr.kp Y.bNeedPr .nil pass0 (pa_cons (pv 1) (pa_cons (pv 3) pa_nil))))
      (pss_cons (ps_expr (pe_call GNeedPr (hr.mono (by decide)) rfl Y.gNeedPr Y.FNeedPr.kp Y.bNeedPr .nil pass0 (pa_cons (pv 2) (pa_cons (pv 3) pa_nil))))
      (pss_cons (ps_if (pt_cmpR op_eq (pv 1) (pv 2) (nomark _)) (pss_one ps_never) pss_nil)
      (pss_one (ps_ret (pe_callTy call_list_of (by rfl) T.list (by decide +kernel) (pa_cons (pe_minLen rfl (by rfl) TC.min (by rfl) T.len (pe_lc (own := [("group", 4)]) (g := gName 4)  rfl scLeast.nd (pi_list (pv 0)) (blkOk_by (own := [("group", 4)]) (N := ["parting", "one", "other", "persons", "group"]) (sc := defScope sLeast) (by decide +kernel)) (fun _ _ _ _ _ => pg_name (i := 4) scLeast.nd rfl (Or.inl rfl)) (fun _ _ _ _ _ => (pts_one (PW.pt (pw_and (pt_cmpR (r := rIn K false) (by exact op_in_seq) (pv 1) (pv 4) (by rfl)) (pw_and1 (pt_cmpR (r := rIn K false) (by exact op_in_seq) (pv 2) (pv 4) (by rfl))))))) (fun _ _ _ _ _ => (pv 4)))) pa_nil)))))))), ?_⟩
    have lt := isP_lt hp
    rw [List.length_map] at lt
    refine ⟨_, rfl, a, bs, rfl, hB, hz, hp, fun H1 s1 => ⟨_, rfl, _, rfl, i, _, rfl, i0, i1, _, rfl, _, rfl, j, _, rfl, j0, j1, _, rfl, _, rfl, rfl, _, rfl, ?_⟩⟩
    rw [decide_eq_false fun z => ij (V.int.inj z)]
    have hB1 := hB.keep s1
    refine iteF ⟨_, rfl, a, rfl, ⟨_, hB1.top⟩, fun D hD => lc_listT (K := K) (fun t => decide (i ∈ (bs.getD t (0, [])).2) && decide (j ∈ (bs.getD t (0, [])).2)) (fun t => V.ref (bs.getD t (0, [])).1) hD hB1.top (by rw [List.length_map]; omega) (fun t x G Ry Rn hx sm ky kn => ?_) fun G sm eD => ?_⟩
    · have il := (List.getElem?_eq_some_iff.mp hx).1
      rw [List.length_map] at il
      obtain rfl := at_map (d := (0, [])) hx
      refine ⟨rfl, _, rfl, _, rfl, _, _, rfl, .inl ((hB1.keep sm).at il), rfl, flat_ints _, _, rfl, ?_⟩
      show if (inV (V.int i) ((bs.getD t (0, [])).2.map V.int)) = true then _ else _
      rw [inV_ints]
      by_cases m : i ∈ (bs.getD t (0, [])).2
      · rw [decide_eq_true m]
        refine iteT ⟨_, rfl, _, rfl, _, _, rfl, .inl ((hB1.keep sm).at il), rfl, flat_ints _, _, rfl, ?_⟩
        show if (inV (V.int j) ((bs.getD t (0, [])).2.map V.int)) = true then _ else _
        rw [inV_ints]
        by_cases m2 : j ∈ (bs.getD t (0, [])).2
        · rw [decide_eq_true m2]
          exact iteT ⟨_, rfl, ky (by rw [decide_eq_true m, decide_eq_true m2]; rfl) _ .refl⟩
        · rw [decide_eq_false m2]
          exact iteF (kn (by rw [decide_eq_true m, decide_eq_false m2]; rfl) _ .refl)
      · rw [decide_eq_false m]
        exact iteF (iteF (kn (by rw [decide_eq_false m]; rfl) _ .refl))
    · rw [List.length_map, kept_rows (fun r => decide (i ∈ r) && decide (j ∈ r)) bs] at eD
      have ejs : has2 i j (bs.map (·.2)) = (bs.filter fun b => decide (i ∈ b.2) && decide (j ∈ b.2)).map (·.2) := snd_filter _ _
      generalize eJ : (bs.filter fun b => decide (i ∈ b.2) && decide (j ∈ b.2)) = js at eD ejs
      have mem : ∀ c ∈ js, c ∈ bs := fun c hc => by
        rw [← eJ] at hc
        exact (List.mem_filter.mp hc).1
      rw [ejs] at hne k
      have jne : js ≠ [] := fun z => hne (by rw [z]; rfl)
      have s2 := s1.trans sm
      refine ⟨D, js, rfl, SqL.of eD, fun b hb => (hB.keep s2).each b (mem b hb), jne, fun q il fm => ⟨_, _, rfl, .inl ((hB.keep s2).each (js.getD q (0, [])) (mem _ ?_)), fun p hp => ?_⟩⟩
      · rw [List.getD_eq_getElem?_getD, List.getElem?_eq_getElem il]
        exact List.getElem_mem il
      · refine k p _ _ (s2.trans (Grows.new hp)) (none_back s2 hp) upd_same ⟨q, by rw [List.length_map]; exact il, snd_at js q, fun t ht => ?_⟩
        rw [List.length_map] at ht
        have := fm t ht
        unfold lenAt at this
        rw [snd_at]
        exact ⟨by omega, fun l => by have := this.2 l; omega⟩
end
end K02

namespace K02
open PySem PySem.Spec PyProof.Rows L2 SortR LcM
theorem asc_ext {α : Type} {R : α → α → Prop} (no : ∀ a b, R a b → R b a → False) : ∀ {xs ys : List α}, xs.Pairwise R → ys.Pairwise R → (∀ z, z ∈ xs ↔ z ∈ ys) → xs = ys
  | [], [], _, _, _ => rfl
  | [], y :: ys, _, _, h => nomatch (h y).mpr List.mem_cons_self
  | x :: xs, [], _, _, h => nomatch (h x).mp List.mem_cons_self
  | x :: xs, y :: ys, a, b, h => by
    obtain ⟨a1, a2⟩ := List.pairwise_cons.mp a
    obtain ⟨b1, b2⟩ := List.pairwise_cons.mp b
    have e : x = y := by
      rcases List.mem_cons.mp ((h x).mp List.mem_cons_self) with e | m
      · exact e
      · rcases List.mem_cons.mp ((h y).mpr List.mem_cons_self) with e | m2
        · exact e.symm
        · exact (no _ _ (a1 _ m2) (b1 _ m)).elim
    subst e
    rw [asc_ext no a2 b2 fun z => ⟨fun m => ?_, fun m => ?_⟩]
    · rcases List.mem_cons.mp ((h z).mp (List.mem_cons_of_mem _ m)) with e | q
      · subst e
        exact (no _ _ (a1 _ m) (a1 _ m)).elim
      · exact q
    · rcases List.mem_cons.mp ((h z).mpr (List.mem_cons_of_mem _ m)) with e | q
      · subst e
        exact (no _ _ (b1 _ m) (b1 _ m)).elim
      · exact q
theorem up_ext {xs ys : List Int} (a : xs.Pairwise (· < ·)) (b : ys.Pairwise (· < ·)) (h : ∀ z, z ∈ xs ↔ z ∈ ys) : xs = ys := asc_ext (fun x y p q => by omega) a b h
theorem up_nodup {xs : List Int} (a : xs.Pairwise (· < ·)) : xs.Nodup := a.imp fun {x y} h => by omega
/-! ### both parts of a group of a nest -/
inductive Nest.Sub : Nest → Nest → Prop
  | refl (t : Nest) : Nest.Sub t t
  | left {s l r : Nest} : Nest.Sub s l → Nest.Sub s (.node l r)
  | right {s l r : Nest} : Nest.Sub s r → Nest.Sub s (.node l r)
theorem Nest.Sub.trans {a b c : Nest} (x : Nest.Sub a b) (y : Nest.Sub b c) : Nest.Sub a c := by
  induction y with
  | refl => exact x
  | left _ ih => exact .left ih
  | right _ ih => exact .right ih
theorem Nest.Sub.nodup {s t : Nest} (h : Nest.Sub s t) (n : t.lv.Nodup) : s.lv.Nodup := by
  induction h with
  | refl => exact n
  | left _ ih => exact ih (List.nodup_append.mp n).1
  | right _ ih => exact ih (List.nodup_append.mp n).2.1
theorem Nest.Sub.lot {a b t : Nest} (h : Nest.Sub (.node a b) t) : (Nest.node a b).folk ∈ t.lots := by
  generalize e : Nest.node a b = s at h
  induction h with
  | refl =>
    subst e
    exact Nest.lots_mem.mpr (.inl rfl)
  | left _ ih => exact Nest.lots_mem.mpr (.inr (.inl ih))
  | right _ ih => exact Nest.lots_mem.mpr (.inr (.inr ih))
theorem Nest.Sub.nice {s t : Nest} (h : Nest.Sub s t) (n : t.lv.Nodup) {q : List Int} (hq : q ∈ t.lots) : Nice q s.folk := by
  cases s with
  | leaf i =>
    by_cases m : i ∈ q
    · exact .inr (.inr fun z hz => by rw [List.mem_singleton.mp hz]; exact m)
    · exact .inl fun z hz hz2 => m (by rw [← List.mem_singleton.mp hz2]; exact hz)
  | node a b => exact Nest.lots_nice t n q hq _ h.lot
theorem Nest.folk_mem {t : Nest} {z : Int} : z ∈ t.folk ↔ z ∈ t.lv := t.folk_perm.mem_iff
theorem Nest.folk_ne (t : Nest) : t.folk ≠ [] := fun z => by
  obtain ⟨x, hx⟩ := t.lv_ne
  have := Nest.folk_mem.mpr hx
  rw [z] at this
  cases this
theorem up_len : ∀ {xs ys : List Int}, xs.Nodup → (∀ z ∈ xs, z ∈ ys) → xs.length ≤ ys.length
  | [], _, _, _ => Nat.zero_le _
  | x :: xs, ys, n, h => by
    obtain ⟨n1, n2⟩ := List.nodup_cons.mp n
    have m := h x List.mem_cons_self
    have := up_len (ys := ys.erase x) n2 fun z hz => (List.mem_erase_of_ne fun q : z = x => n1 (q ▸ hz)).mpr (h z (List.mem_cons_of_mem _ hz))
    rw [List.length_erase_of_mem m] at this
    have := List.length_pos_of_mem m
    rw [List.length_cons]
    omega
theorem up_head {xs : List Int} (a : xs.Pairwise (· ≤ ·)) {m : Int} (hm : m ∈ xs) (le : ∀ z ∈ xs, m ≤ z) : xs.getD 0 0 = m := by
  cases xs with
  | nil => cases hm
  | cons x xs =>
    show x = m
    have h1 := le x List.mem_cons_self
    rcases List.mem_cons.mp hm with e | e
    · exact e.symm
    · have := (List.pairwise_cons.mp a).1 m e
      omega
theorem head_mem {xs : List Int} (h : xs ≠ []) : xs.getD 0 0 ∈ xs := by
  cases xs with
  | nil => exact absurd rfl h
  | cons x xs => exact List.mem_cons_self
theorem head_le {xs : List Int} (a : xs.Pairwise (· ≤ ·)) {z : Int} (h : z ∈ xs) : xs.getD 0 0 ≤ z := by
  cases xs with
  | nil => cases h
  | cons x xs =>
    rcases List.mem_cons.mp h with e | e
    · rw [e]
      exact Int.le_refl _
    · exact (List.pairwise_cons.mp a).1 z e
theorem firR_eq {rs : List (List Int)} {g A : List Int} (two : ∀ r ∈ rs, 2 ≤ r.length) (hA : A = [g.getD 0 0] ∨ (A ∈ rs ∧ A.getD 0 0 = g.getD 0 0 ∧ A.length < g.length))
    (k : ∀ r ∈ rs, r.getD 0 0 = g.getD 0 0 → r.length < g.length → r.length ≤ A.length ∧ (r.length = A.length → r = A)) : firR rs g = A := by
  have inv : ∀ n, n ≤ rs.length → (firstN rs g n = [g.getD 0 0] ∨ (firstN rs g n ∈ rs ∧ (firstN rs g n).getD 0 0 = g.getD 0 0 ∧ (firstN rs g n).length < g.length)) ∧
      ∀ i, i < n → (rs.getD i []).getD 0 0 = g.getD 0 0 → (rs.getD i []).length < g.length → (rs.getD i []).length ≤ (firstN rs g n).length := by
    intro n
    induction n with
    | zero => exact fun _ => ⟨.inl rfl, fun i hi => absurd hi (Nat.not_lt_zero i)⟩
    | succ n ih =>
      intro hn
      obtain ⟨a, b⟩ := ih (by omega)
      have mem : rs.getD n [] ∈ rs := by
        rw [List.getD_eq_getElem?_getD, List.getElem?_eq_getElem (by omega : n < rs.length)]
        exact List.getElem_mem _
      have e : firstN rs g (n + 1) = if (rs.getD n []).getD 0 0 = g.getD 0 0 ∧ (firstN rs g n).length < (rs.getD n []).length ∧ (rs.getD n []).length < g.length then rs.getD n [] else firstN rs g n := rfl
      rw [e]
      split
      · rename_i c
        refine ⟨.inr ⟨mem, c.1, c.2.2⟩, fun i hi h1 h2 => ?_⟩
        by_cases q : i = n
        · rw [q]
          exact Nat.le_refl _
        · have := b i (by omega) h1 h2
          omega
      · rename_i c
        refine ⟨a, fun i hi h1 h2 => ?_⟩
        by_cases q : i = n
        · subst q
          rcases Nat.lt_or_ge (firstN rs g i).length (rs.getD i []).length with l | l
          · exact absurd ⟨h1, l, h2⟩ c
          · exact l
        · exact b i (by omega) h1 h2
  obtain ⟨a, b⟩ := inv rs.length (Nat.le_refl _)
  unfold firR
  rcases hA with hA | ⟨m, h1, h2⟩
  · rcases a with a | ⟨a1, a2, a3⟩
    · rw [a, hA]
    · have := (k _ a1 a2 a3).1
      have := two _ a1
      rw [hA] at *
      simp only [List.length_cons, List.length_nil] at *
      omega
  · obtain ⟨i, hi, ei⟩ := List.getElem_of_mem m
    have ei2 : rs.getD i [] = A := by
      rw [List.getD_eq_getElem?_getD, List.getElem?_eq_getElem hi]
      exact ei
    have q := b i hi (by rw [ei2]; exact h1) (by rw [ei2]; exact h2)
    rw [ei2] at q
    rcases a with a | ⟨a1, a2, a3⟩
    · rw [a] at q
      have := two A m
      simp only [List.length_cons, List.length_nil] at q
      omega
    · have z := k _ a1 a2 a3
      exact z.2 (by omega)
/-- the persons of A and B, where A has the least one: what the program finds is A -/
theorem parts_one {t a b : Nest} (n : t.lv.Nodup) (ha : Nest.Sub a t) (hb : Nest.Sub b t) {g : List Int} (hgt : g ∈ t.lots) (hg : g.Pairwise (· < ·)) (mem : ∀ z, z ∈ g ↔ z ∈ a.folk ∨ z ∈ b.folk) (dis : ∀ z ∈ a.folk, z ∉ b.folk) (low : a.folk.getD 0 0 = g.getD 0 0) :
    firR t.lots g = a.folk ∧ secR t.lots g = b.folk := by
  have ua := Nest.folk_up (ha.nodup n)
  have ub := Nest.folk_up (hb.nodup n)
  have ok := Nest.lot_ok t n
  have ga : g.getD 0 0 ∈ a.folk := by
    rw [← low]
    exact head_mem a.folk_ne
  have e1 : firR t.lots g = a.folk := by
    refine firR_eq (fun r hr => (ok r hr).2.1) ?_ fun r hr h1 h2 => ?_
    · cases a with
      | leaf i => exact .inl (by rw [← low]; rfl)
      | node x y =>
        refine .inr ⟨ha.lot, low, ?_⟩
        obtain ⟨z, hz⟩ := b.lv_ne
        have hz := Nest.folk_mem.mpr hz
        have : (z :: (Nest.node x y).folk).length ≤ g.length := up_len (List.nodup_cons.mpr ⟨fun q => dis z q hz, up_nodup ua⟩) fun w hw => (mem w).mpr (by
          rcases List.mem_cons.mp hw with e | e
          · rw [e]
            exact .inr hz
          · exact .inl e)
        simp only [List.length_cons] at this
        omega
    · have ur := (ok r hr).2.2
      have rne : r ≠ [] := fun z => by
        have := (ok r hr).2.1
        rw [z] at this
        exact absurd this (by decide)
      have gr : g.getD 0 0 ∈ r := by
        rw [← h1]
        exact head_mem rne
      have small : ¬ ∀ z ∈ g, z ∈ r := fun z => by
        have := up_len (up_nodup hg) z
        omega
      have gg : g.getD 0 0 ∈ g := (mem _).mpr (.inl ga)
      have rg : ∀ z ∈ r, z ∈ g := by
        rcases Nest.lots_nice t n r hr g hgt with q | q | q
        · exact absurd gg (q _ gr)
        · exact q
        · exact absurd q small
      have ra : ∀ z ∈ r, z ∈ a.folk := by
        rcases hb.nice n hr with q | q | q
        · exact fun z hz => ((mem z).mp (rg z hz)).resolve_right (q z hz)
        · exact absurd (q _ gr) (dis _ ga)
        · rcases ha.nice n hr with p | p | p
          · exact absurd ga (p _ gr)
          · exact p
          · exact absurd (fun z hz => ((mem z).mp hz).elim (p z) (q z)) small
      refine ⟨up_len (up_nodup ur) ra, fun e => up_ext ur ua fun z => ⟨ra z, fun hz => ?_⟩⟩
      rcases Classical.em (z ∈ r) with q | q
      · exact q
      · have : (z :: r).length ≤ a.folk.length := up_len (List.nodup_cons.mpr ⟨q, up_nodup ur⟩) fun w hw => by
          rcases List.mem_cons.mp hw with c | c
          · rw [c]
            exact hz
          · exact ra w c
        simp only [List.length_cons] at this
        omega
  refine ⟨e1, ?_⟩
  unfold secR
  rw [e1]
  refine up_ext (hg.filter _) ub fun z => ?_
  rw [List.mem_filter, decide_eq_true_eq, mem]
  exact ⟨fun h => h.1.resolve_left h.2, fun h => ⟨.inr h, fun q => dis z q h⟩⟩
/-- both halves, that with the least person ahead -/
def Nest.two (l r : Nest) : List (List Int) := [l.folk, r.folk].mergeSort fun p q => decide (p ≤ q)
/-- each group with its halves -/
def Nest.halves : Nest → List (List Int × List (List Int))
  | .leaf _ => []
  | .node l r => ((Nest.node l r).folk, Nest.two l r) :: (l.halves ++ r.halves)
theorem Nest.halves_sub : ∀ {t : Nest} {c : List Int × List (List Int)}, c ∈ t.halves → ∃ l r, Nest.Sub (.node l r) t ∧ c = ((Nest.node l r).folk, Nest.two l r)
  | .leaf _, c, h => nomatch h
  | .node l r, c, h => by
    have h' : c ∈ ((Nest.node l r).folk, Nest.two l r) :: (l.halves ++ r.halves) := h
    rcases List.mem_cons.mp h' with e | h'
    · exact ⟨l, r, .refl _, e⟩
    · rcases List.mem_append.mp h' with m | m
      · obtain ⟨x, y, s, e⟩ := Nest.halves_sub m
        exact ⟨x, y, .left s, e⟩
      · obtain ⟨x, y, s, e⟩ := Nest.halves_sub m
        exact ⟨x, y, .right s, e⟩
theorem le_heads {xs ys : List Int} (h : xs ≤ ys) (hx : xs ≠ []) (hy : ys ≠ []) : xs.getD 0 0 ≤ ys.getD 0 0 := by
  cases xs with
  | nil => exact absurd rfl hx
  | cons x xs =>
    cases ys with
    | nil => exact absurd rfl hy
    | cons y ys =>
      show x ≤ y
      rcases List.cons_le_cons_iff.mp h with q | ⟨q, _⟩
      · omega
      · omega
theorem two_perm (l r : Nest) : Nest.two l r = [l.folk, r.folk] ∨ Nest.two l r = [r.folk, l.folk] := by
  have p : (Nest.two l r).Perm [l.folk, r.folk] := List.mergeSort_perm _ _
  have len := p.length_eq
  match e : Nest.two l r, len with
  | [x, y], _ =>
    rw [e] at p
    have mx := p.mem_iff.mp (List.mem_cons_self (a := x) (l := [y]))
    simp only [List.mem_cons, List.not_mem_nil, or_false] at mx
    rcases mx with rfl | rfl
    · have := List.perm_singleton.mp ((List.perm_cons _).mp p)
      exact .inl (by rw [this])
    · have := List.perm_singleton.mp ((List.perm_cons _).mp (p.trans (.swap _ _ _)))
      exact .inr (by rw [this])
theorem parts_all {t l r : Nest} (n : t.lv.Nodup) (h : Nest.Sub (.node l r) t) : [firR t.lots (Nest.node l r).folk, secR t.lots (Nest.node l r).folk] = Nest.two l r ∧ secR t.lots (Nest.node l r).folk ≠ [] := by
  have hl : Nest.Sub l t := (Nest.Sub.left (.refl _)).trans h
  have hr : Nest.Sub r t := (Nest.Sub.right (.refl _)).trans h
  have nd := h.nodup n
  have gm : ∀ z, z ∈ (Nest.node l r).folk ↔ z ∈ l.folk ∨ z ∈ r.folk := fun z => List.mem_mergeSort.trans List.mem_append
  have dis : ∀ z ∈ l.folk, z ∉ r.folk := fun z a b => (List.nodup_append.mp nd).2.2 z (Nest.folk_mem.mp a) z (Nest.folk_mem.mp b) rfl
  have up := Nest.folk_up nd
  have low : ∀ a b : Nest, (∀ z, z ∈ (Nest.node l r).folk ↔ z ∈ a.folk ∨ z ∈ b.folk) → a.folk ≤ b.folk → a.folk.getD 0 0 = (Nest.node l r).folk.getD 0 0 := fun a b m le => by
    refine (up_head (Nest.folk_le _) ((m _).mpr (.inl (head_mem a.folk_ne))) fun z hz => ?_).symm
    rcases (m z).mp hz with q | q
    · exact head_le a.folk_le q
    · have := head_le b.folk_le q
      have := le_heads le a.folk_ne b.folk_ne
      omega
  have srt : (Nest.two l r).Pairwise (· ≤ ·) := sorted_rows _
  rcases two_perm l r with e | e
  · rw [e] at srt ⊢
    have le : l.folk ≤ r.folk := (List.pairwise_cons.mp srt).1 _ List.mem_cons_self
    obtain ⟨a, b⟩ := parts_one n hl hr h.lot up gm dis (low l r gm le)
    rw [a, b]
    exact ⟨rfl, r.folk_ne⟩
  · rw [e] at srt ⊢
    have le : r.folk ≤ l.folk := (List.pairwise_cons.mp srt).1 _ List.mem_cons_self
    have gm2 : ∀ z, z ∈ (Nest.node l r).folk ↔ z ∈ r.folk ∨ z ∈ l.folk := fun z => (gm z).trans or_comm
    obtain ⟨a, b⟩ := parts_one n hr hl h.lot up gm2 (fun z a b => dis z b a) (low r l gm2 le)
    rw [a, b]
    exact ⟨rfl, l.folk_ne⟩
end K02

namespace K02
open PySem PySem.Spec PyProof.Rows L2 SortR LcM
abbrev sHal : Stmt := top 34
/-- rows, as plain lists -/
structure Rl (H : Hp) (a : Addr) (cs : List (Addr × List Int)) : Prop where
  top : H a = some (.lst (cs.map fun c => V.ref c.1))
  each : ∀ c ∈ cs, H c.1 = some (.lst (c.2.map V.int))
theorem Rl.keep {H H' : Hp} {a : Addr} {cs : List (Addr × List Int)} (r : Rl H a cs) (g : Grows H H') : Rl H' a cs := ⟨g _ _ r.top, fun c m => g _ _ (r.each c m)⟩
theorem Rl.rw {K : PySem.W.Frag} {H : Hp} {a : Addr} {cs : List (Addr × List Int)} (r : Rl H a cs) : Rw K H a cs := ⟨SqL.of r.top, fun c m => SqL.of (r.each c m)⟩
/-- a tuple (group, its halves) -/
def HV (H : Hp) (v : V) (c : List Int × List (List Int)) : Prop := ∃ (T F h : Addr) (us : List (Addr × List Int)), v = .ref T ∧ H T = some (.tup [.ref F, .ref h]) ∧ H F = some (.lst (c.1.map V.int)) ∧ Rl H h us ∧ us.map (·.2) = c.2
theorem HV.keep {H H' : Hp} {v : V} {c : List Int × List (List Int)} (x : HV H v c) (s : Grows H H') : HV H' v c := by
  obtain ⟨T, F, h, us, e, t, f, r, m⟩ := x
  exact ⟨T, F, h, us, e, s _ _ t, s _ _ f, r.keep s, m⟩
inductive HVs (H : Hp) : List V → List (List Int × List (List Int)) → Prop
  | nil : HVs H [] []
  | cons {v : V} {vs : List V} {c : List Int × List (List Int)} {cs : List (List Int × List (List Int))} : HV H v c → HVs H vs cs → HVs H (v :: vs) (c :: cs)
theorem HVs.keep {H H' : Hp} (s : Grows H H') : ∀ {vs : List V} {cs : List (List Int × List (List Int))}, HVs H vs cs → HVs H' vs cs
  | _, _, .nil => .nil
  | _, _, .cons a b => .cons (a.keep s) (HVs.keep s b)
theorem HVs.append {H : Hp} : ∀ {vs ws : List V} {cs ds : List (List Int × List (List Int))}, HVs H vs cs → HVs H ws ds → HVs H (vs ++ ws) (cs ++ ds)
  | _, _, _, _, .nil, y => y
  | _, _, _, _, .cons a b, y => .cons a (HVs.append b y)
theorem HVs.len {H : Hp} : ∀ {vs : List V} {cs : List (List Int × List (List Int))}, HVs H vs cs → vs.length = cs.length
  | _, _, .nil => rfl
  | _, _, .cons _ b => congrArg (· + 1) (HVs.len b)
theorem HVs.at {H : Hp} : ∀ {cs : List (List Int × List (List Int))} {vs : List V} {i : Nat} {v : V}, HVs H vs cs → vs[i]? = some v → ∃ c, c ∈ cs ∧ HV H v c
  | [], _, _, _, .nil, h => nomatch h
  | c :: cs, _, i, v, .cons (vs := vs) a b, h => by
    cases i with
    | zero =>
      cases h
      exact ⟨c, List.mem_cons_self, a⟩
    | succ i =>
      have h' : vs[i]? = some v := h
      obtain ⟨d, hd, q⟩ := HVs.at b h'
      exact ⟨d, List.mem_cons_of_mem _ hd, q⟩
theorem Nest.halves_len : ∀ t : Nest, t.halves.length + 1 = t.sz
  | .leaf _ => rfl
  | .node l r => by
    have a := Nest.halves_len l
    have b := Nest.halves_len r
    show (_ :: (l.halves ++ r.halves)).length + 1 = l.sz + r.sz
    rw [List.length_cons, List.length_append]
    omega
def spHal (K : PySem.W.Frag) (d : Nat) : Sp := fun vs H Q _ => ∃ (x : V) (t : Nest), vs = [x] ∧ NV K H x t ∧ t.ht ≤ d ∧ t.sz ≤ 600000 ∧
  ∀ (p : Addr) (ys : List V) (H' : Hp), Grows H H' → H p = none → HVs H' ys t.halves → H' p = some (.lst ys) → Q (.ref p) H'
section
variable {P : Program} {w : World} {K : PySem.W.Frag} {mg : Str → Option Value} {base : Heap}
theorem scHal : FnScope ["nest", "halves", "half"] ["nest"] (defScope sHal) := ⟨rfl, rfl, rfl, by decide +kernel, rfl, by decide +kernel, by decide +kernel⟩
theorem hal_body {k d : Nat} {sp0 : Sp} {f fF : Addr} {fd dF : FuncData} (F : Fun K "_law_halves" "_law_halves" sHal f fd) (T : TxtP mg) (gHal : mg "_law_halves" = some (.ref f)) (bF : Binds K fd ["nest"] []) (FF : Fun K "_law_folk" "_law_folk" sFolk fF dF) (gFolk : mg "_law_folk" = some (.ref fF)) (bFF : Binds K dF ["nest"] [])
    (hk : d + 2 ≤ k) (G0 : FnOk P w K mg base CX0 k f fd ["nest"] sp0)
    (inner : ∀ (x : V) (t : Nest) (H : Hp) (Q : VK) (E : XK), NV K H x t → t.ht < d → t.sz ≤ 600000 → (∀ (p : Addr) (ys : List V) (H' : Hp), Grows H H' → H p = none → HVs H' ys t.halves → H' p = some (.lst ys) → Q (.ref p) H') → sp0 [x] H Q E) :
    FnOk P w K mg base CX0 (k + 1) f fd ["nest"] (spHal K d) := by
  have GF : FnOk P w K mg base CX0 (d + 2) fF dF ["nest"] (spFolk K d) := ok_folk FF T gFolk bFF d
  refine F.ok scHal (fun vs H Q E h => ?_) (fun cdv A outer s H vs Q E hr h => ?_)
  · obtain ⟨x, t, rfl, _⟩ := h
    rfl
  · obtain ⟨x, t, rfl, nv, ht, hz, kq⟩ := h
    refine ⟨_, (pss_cons (ps_if (pt_val (pe_callB call_isi (by rfl) T.isi (by decide +kernel) (pa_cons (pv 0) (pa_cons (pe_bltn (v := .ty "int") (u := .type "int") (by rfl) T.int (by decide +kernel) rfl) pa_nil)))) (pss_one (ps_ret (pe_lst pa_nil))) pss_nil)
      (pss_cons (ps_set (i := 1) scHal.nd rfl (.inl rfl) (pe_callB (call_sortedR hr.units) (by rfl) T.sorted (by decide +kernel) (pa_cons (pe_lc (own := [("half", 2)]) (g := gName 2) (tt := tYes) rfl scHal.nd (pi_tup (pv 0)) (blkOk_by (own := [("half", 2)]) (N := ["nest", "halves", "half"]) (sc := defScope sHal) (by decide +kernel)) (fun _ _ _ _ _ => pg_name (i := 2) scHal.nd rfl (Or.inl rfl)) (fun _ _ _ _ _ => pts_nil) (fun _ _ _ _ _ => (pe_call GF (hr.mono hk) rfl gFolk FF.kp bFF .nil pass0 (pa_cons (pv 2) pa_nil)))) pa_nil)))
      (pss_one (ps_ret (pe_op op_cat (pe_op op_cat (pe_lst (pa_cons (pe_tup (pa_cons (pe_call GF (hr.mono hk) rfl gFolk FF.kp bFF .nil pass0 (pa_cons (pv 0) pa_nil)) (pa_cons (pv 1) pa_nil))) pa_nil)) (pe_call G0 hr rfl gHal F.kp bF .nil pass0 (pa_cons (pe_ix (r := rIxT K) ix_tup (pv 0) pe_int (fun _ _ => rfl)) pa_nil))) (pe_call G0 hr rfl gHal F.kp bF .nil pass0 (pa_cons (pe_ix (r := rIxT K) ix_tup (pv 0) pe_int (fun _ _ => rfl)) pa_nil))))))), ?_⟩
    cases nv with
    | leaf i =>
      refine ⟨_, rfl, _, _, _, _, true, rfl, .ty "int", .base (.int i), kit_ty (by decide +kernel), true, rfl, iteT ⟨(by show 0 ≤ sizeLine; decide), fun l hl => ?_⟩⟩
      exact kq l [] _ (Grows.new hl) hl .nil upd_same
    | @node t x y l r at_t nl nr =>
      have hlz : l.sz + r.sz ≤ 600000 := hz
      have hlh : max l.ht r.ht + 1 ≤ d := ht
      have zl := l.halves_len
      have zr := r.halves_len
      let hv : Nat → Nest := fun j => if j = 0 then l else r
      have half : ∀ (i : Nat) (z : V) (H' : Hp), [x, y][i]? = some z → Grows H H' → NV K H' z (hv i) ∧ (hv i).ht < d ∧ (hv i).sz ≤ 600000 := fun i z H' e s => by
        match i, e with
        | 0, e =>
          obtain rfl : x = z := Option.some.inj e
          exact ⟨nl.keep s, (show l.ht < d by omega), (show l.sz ≤ 600000 by omega)⟩
        | 1, e =>
          obtain rfl : y = z := Option.some.inj e
          exact ⟨nr.keep s, (show r.ht < d by omega), (show r.sz ≤ 600000 by omega)⟩
      refine ⟨_, rfl, _, _, _, _, false, rfl, .ty "int", .base (.tup at_t), kit_ty (by decide +kernel), false, rfl, iteF ?_⟩
      refine ⟨_, rfl, t, rfl, ⟨_, SqT.of at_t⟩, fun D hD => lc_tupX (K := K) (fun j z G => ∃ q, z = .ref q ∧ G q = some (.lst ((hv j).folk.map V.int)) ∧ q ≠ D) (fun _ _ _ _ s ⟨q, e, a, b⟩ => ⟨q, e, s _ _ a, b⟩) (fun _ _ _ _ ⟨q, e, a, b⟩ _ u => ⟨q, e, by rw [upd_ne b]; exact a, b⟩) hD (SqT.of at_t) (by show 2 ≤ 1000000; decide) (fun i z H' Rk ez sm nD kR => ?_) fun H1 ys m => ?_⟩
      · obtain ⟨n1, n2, n3⟩ := half i z H' ez sm
        exact ⟨rfl, _, rfl, z, hv i, rfl, n1, Nat.le_of_lt n2, n3, fun p H2 s2 nq e2 => kR (.ref p) H2 s2 ⟨p, rfl, e2, fun z => nD (by rw [← z]; exact nq)⟩⟩
      · have len : ys.length = 2 := m.len
        match ys, len, m with
        | [u, v], _, m =>
          obtain ⟨q0, rfl, a0, b0⟩ := m.rel 0 u rfl
          obtain ⟨q1, rfl, a1, b1⟩ := m.rel 1 v rfl
          have a0 : H1 q0 = some (.lst (l.folk.map V.int)) := a0
          have a1 : H1 q1 = some (.lst (r.folk.map V.int)) := a1
          refine ⟨D, [(q0, l.folk), (q1, r.folk)], rfl, SqL.of m.top, fun b hb => ?_, fun h nh => ?_⟩
          · simp only [List.mem_cons, List.not_mem_nil, or_false] at hb
            rcases hb with rfl | rfl
            · exact SqL.of a0
            · exact SqL.of a1
          generalize eus : [(q0, l.folk), (q1, r.folk)].mergeSort rowLe = us
          have mus : us.map (·.2) = Nest.two l r := by
            rw [← eus, sort_rows]
            rfl
          have rus : Rl (upd H1 h (.lst (us.map fun b => V.ref b.1))) h us := ⟨upd_same, fun c hc => by
            rw [← eus, List.mem_mergeSort] at hc
            simp only [List.mem_cons, List.not_mem_nil, or_false] at hc
            rcases hc with rfl | rfl
            · exact Grows.new nh _ _ a0
            · exact Grows.new nh _ _ a1⟩
          have g1 : Grows H (upd H1 h (.lst (us.map fun b => V.ref b.1))) := m.grow.trans (Grows.new nh)
          generalize upd H1 h (.lst (us.map fun b => V.ref b.1)) = H2 at rus g1
          refine ⟨_, rfl, .ref t, .node l r, rfl, .node (g1 _ _ at_t) (nl.keep g1) (nr.keep g1), ht, hz, fun pF H3 s3 n3 e3 => ⟨_, rfl, (by show 2 ≤ sizeLine; decide), fun T nT => ⟨(by show 1 ≤ sizeLine; decide), fun L1 nL1 => ?_⟩⟩⟩
          have g3 : Grows H3 (upd (upd H3 T (.tup [V.ref pF, V.ref h])) L1 (.lst [V.ref T])) := (Grows.new nT).trans (Grows.new nL1)
          have hvT : HV (upd (upd H3 T (.tup [V.ref pF, V.ref h])) L1 (.lst [V.ref T])) (.ref T) ((Nest.node l r).folk, Nest.two l r) :=
            ⟨T, pF, h, us, rfl, Grows.new nL1 _ _ upd_same, g3 _ _ e3, (rus.keep s3).keep g3, mus⟩
          have eL1 : (upd (upd H3 T (.tup [V.ref pF, V.ref h])) L1 (.lst [V.ref T])) L1 = some (.lst [V.ref T]) := upd_same
          have g13 := (g1.trans s3).trans g3
          generalize upd (upd H3 T (.tup [V.ref pF, V.ref h])) L1 (.lst [V.ref T]) = H4 at g3 hvT eL1 g13
          refine ⟨_, rfl, t, _, 0, x, rfl, rfl, SqT.of (g13 _ _ at_t), rfl, inner x l _ _ _ (nl.keep g13) (by omega) (by omega) fun p1 ys1 H5 s5 n5 v5 e5 => ⟨L1, p1, _, _, rfl, rfl, s5 _ _ eL1, e5, ?_, fun L2 nL2 => ?_⟩⟩
          · rw [v5.len]
            have : (600001 : Nat) ≤ sizeLine := by decide
            show 1 + _ ≤ sizeLine
            omega
          have g15 := (g13.trans s5).trans (Grows.new (o := .lst ([V.ref T] ++ ys1)) nL2)
          refine ⟨_, rfl, t, _, 1, y, rfl, rfl, SqT.of (g15 _ _ at_t), rfl, inner y r _ _ _ (nr.keep g15) (by omega) (by omega) fun p3 ys3 H7 s7 n7 v7 e7 => ⟨L2, p3, _, _, rfl, rfl, s7 _ _ upd_same, e7, ?_, fun L4 nL4 => ?_⟩⟩
          · rw [List.length_append, v5.len, v7.len]
            have : (600001 : Nat) ≤ sizeLine := by decide
            show 1 + _ + _ ≤ sizeLine
            omega
          have g7 : Grows H5 (upd H7 L4 (.lst ([V.ref T] ++ ys1 ++ ys3))) := (Grows.new (o := .lst ([V.ref T] ++ ys1)) nL2).trans (s7.trans (Grows.new nL4))
          refine kq L4 _ _ ((g13.trans s5).trans g7) (none_back (g15.trans s7) nL4) (HVs.append (.cons (hvT.keep (s5.trans g7)) (v5.keep g7)) (v7.keep (Grows.new nL4))) upd_same
theorem ok_hal {f fF : Addr} {fd dF : FuncData} (F : Fun K "_law_halves" "_law_halves" sHal f fd) (T : TxtP mg) (gHal : mg "_law_halves" = some (.ref f)) (bF : Binds K fd ["nest"] []) (FF : Fun K "_law_folk" "_law_folk" sFolk fF dF) (gFolk : mg "_law_folk" = some (.ref fF)) (bFF : Binds K dF ["nest"] []) : ∀ d, FnOk P w K mg base CX0 (d + 3) f fd ["nest"] (spHal K d)
  | 0 => hal_body F T gHal bF FF gFolk bFF (Nat.le_refl _) ((fn_no (f := f) (fd := fd)).mono (by decide)) fun _ _ _ _ _ _ h _ _ => absurd h (Nat.not_lt_zero _)
  | d + 1 => hal_body F T gHal bF FF gFolk bFF (Nat.le_refl _) (ok_hal F T gHal bF FF gFolk bFF d) fun x t H Q E nv h hz kq => ⟨x, t, rfl, nv, Nat.le_of_lt_succ h, hz, kq⟩
end
end K02

namespace K02
open PySem PySem.Spec PyProof.Rows L2 SortR LcM RepA
abbrev sPR : Stmt := top 35
abbrev sLR : Stmt := top 36
abbrev sRight : Stmt := top 37
structure TxtW (mg : Str → Option Value) : Prop extends TxtP mg, Txt0 mg where
  repr : mg "repr" = none
structure LawF (K : PySem.W.Frag) (mg : Str → Option Value) where
  Z : ProgF K mg
  Y : PtsF K mg
  T : TxtW mg
  (fPouch fDip fItems fFolk fPut fNest fLots fHal fPR fLR fRight : Addr)
  (dPouch dDip dItems dFolk dPut dNest dLots dHal dPR dLR dRight : FuncData)
  FPouch : Fun K "_law_pouch" "_law_pouch" sPouch fPouch dPouch
  FDip : Fun K "_law_dip" "_law_dip" sDip fDip dDip
  FItems : Fun K "_law_items" "_law_items" sItems fItems dItems
  FFolk : Fun K "_law_folk" "_law_folk" sFolk fFolk dFolk
  FPut : Fun K "_law_put" "_law_put" sPut fPut dPut
  FNest : Fun K "_law_nest" "_law_nest" sNest fNest dNest
  FLots : Fun K "_law_lots" "_law_lots" sLots fLots dLots
  FHal : Fun K "_law_halves" "_law_halves" sHal fHal dHal
  FPR : Fun K "_law_parts_right" "_law_parts_right" sPR fPR dPR
  FLR : Fun K "_law_least_right" "_law_least_right" sLR fLR dLR
  FRight : Fun K "_law_right" "_law_right" sRight fRight dRight
  gPouch : mg "_law_pouch" = some (.ref fPouch)
  gDip : mg "_law_dip" = some (.ref fDip)
  gItems : mg "_law_items" = some (.ref fItems)
  gFolk : mg "_law_folk" = some (.ref fFolk)
  gPut : mg "_law_put" = some (.ref fPut)
  gNest : mg "_law_nest" = some (.ref fNest)
  gLots : mg "_law_lots" = some (.ref fLots)
  gHal : mg "_law_halves" = some (.ref fHal)
  gPR : mg "_law_parts_right" = some (.ref fPR)
  gLR : mg "_law_least_right" = some (.ref fLR)
  gRight : mg "_law_right" = some (.ref fRight)
  bPouch : Binds K dPouch ["script", "at"] []
  bDip : Binds K dDip ["pouch", "wide"] []
  bItems : Binds K dItems ["pouch", "many"] []
  bFolk : Binds K dFolk ["nest"] []
  bPut : Binds K dPut ["nest", "item", "fresh"] []
  bNest : Binds K dNest ["items"] []
  bLots : Binds K dLots ["nest"] []
  bHal : Binds K dHal ["nest"] []
  bPR : Binds K dPR ["nest", "lots"] []
  bLR : Binds K dLR ["pouch", "lots", "many"] []
  bRight : Binds K dRight ["pouch", "many"] []
  kbParts : KBinds K Y.dParts ["parting", "group"] ["group", "parting"] (fun us ws => us ++ ws.reverse) (fun vs zs => vs ++ zs.reverse)
  kbMaker : KBinds K Y.dMaker ["parting", "group"] ["group", "parting"] (fun us ws => us ++ ws.reverse) (fun vs zs => vs ++ zs.reverse)
  kbDepth : KBinds K Y.dDepth ["parting", "person"] ["person", "parting"] (fun us ws => us ++ ws.reverse) (fun vs zs => vs ++ zs.reverse)
  kbLeast : KBinds K Y.dLeast ["parting", "one", "other"] ["other", "one", "parting"] (fun us ws => us ++ ws.reverse) (fun vs zs => vs ++ zs.reverse)
  kbPs : KBinds K Z.dPs ["parting"] ["parting"] (fun us ws => us ++ ws) (fun vs zs => vs ++ zs)
section
variable {P : Program} {w : World} {K : PySem.W.Frag} {mg : Str → Option Value} {base : Heap}
theorem LawF.TD (W : LawF K mg) : TxtD mg W.fDip := ⟨W.T.toTxt0, W.gDip⟩
theorem LawF.pouch (W : LawF K mg) : FnOk P w K mg base CX0 1 W.fPouch W.dPouch ["script", "at"] (spPouch K) := ok_pouch W.FPouch W.T.toTxt0
theorem LawF.dip (W : LawF K mg) : FnOk P w K mg base CX0 1 W.fDip W.dDip ["pouch", "wide"] spDip := ok_dip W.FDip W.T.toTxt0
theorem LawF.items (W : LawF K mg) : FnOk P w K mg base CX0 2 W.fItems W.dItems ["pouch", "many"] spItems := ok_items W.FItems W.TD W.FDip W.bDip
theorem LawF.nest (W : LawF K mg) : FnOk P w K mg base CX0 23 W.fNest W.dNest ["items"] (spNest K) := ok_nest W.FNest W.T.toTxtP W.gPut W.FPut W.bPut (ok_put W.FPut W.T.toTxtP W.T.toTxt0 W.gPut W.bPut W.FFolk W.gFolk W.bFolk 19)
theorem LawF.lots (W : LawF K mg) : FnOk P w K mg base CX0 22 W.fLots W.dLots ["nest"] (spLots K 19) := ok_lots W.FLots W.T.toTxtP W.gLots W.bLots W.FFolk W.gFolk W.bFolk 19
theorem LawF.hal (W : LawF K mg) : FnOk P w K mg base CX0 22 W.fHal W.dHal ["nest"] (spHal K 19) := ok_hal W.FHal W.T.toTxtP W.gHal W.bHal W.FFolk W.gFolk W.bFolk 19
end
theorem Rw.dp {K : PySem.W.Frag} {H : Hp} {a : Addr} {bs : List (Addr × List Int)} (r : Rw K H a bs) : Dp K H (.ref a) (PyData.list (rowD (bs.map (·.2)))) := .lst r.top (rows_data r.each)
theorem Two.dp {K : PySem.W.Frag} {H H' : Hp} {p q1 q2 : Addr} {x y : List Int} (t : Two H H' p q1 q2 x y) : Dp K H' (.ref p) (PyData.list (rowD [x, y])) :=
  .lst (SqL.of t.top) (.cons (.lst (SqL.of t.e1) (rows_dp x)) (.cons (.lst (SqL.of t.e2) (rows_dp y)) .nil))
theorem brief_one {a : PyData} {ds : List PyData} {m : Nat} (e : a = .list ds) (x : Brief m a) (l : m ≤ 100000) : PyData.showableAll ds = true ∧ PyData.depthAll ds ≤ 40 ∧ (listText (PyData.shownAll ds)).length ≤ sizeLine := by
  subst e
  refine ⟨?_, ?_, ?_⟩
  · have := x.sh
    simpa only [PyData.showable] using this
  · have := x.dp
    simp only [PyData.depth] at this
    omega
  · have e : (PyData.list ds).shown = listText (PyData.shownAll ds) := by simp only [PyData.shown]
    rw [← e]
    exact PyData.shown_fits (B := 13) (by decide) (by decide) x.lv (by have := x.wt; omega)
theorem two_ints {i : Int} (h : i.natAbs < 10 ^ 12) : PyData.showableAll [.int i, .int i] = true ∧ PyData.depthAll [.int i, .int i] ≤ 40 ∧ (listText (PyData.shownAll [.int i, .int i])).length ≤ sizeLine :=
  brief_one (a := .list ([i, i].map .int)) rfl (brief_ints fun x hx => by
    simp only [List.mem_cons, List.not_mem_nil, or_false, or_self] at hx
    rw [hx]
    exact h) (by show 2 * 42 ≤ 100000; decide)
theorem grows_off {G X : Hp} {p : Addr} {o : HO} (g : Grows G X) (n : G p = none) : Grows G (upd X p o) := fun b u e => by
  rw [upd_ne (ne_of_none e n)]
  exact g b u e
/-- a group of a nest, and its halves, as the program finds them -/
structure Hlf (rs : List (List Int)) (c : List Int × List (List Int)) : Prop where
  lot : c.1 ∈ rs
  two : [firR rs c.1, secR rs c.1] = c.2
  ne : secR rs c.1 ≠ []
  sm : ∀ r ∈ c.2, Smalls r ∧ r.length ≤ 20
def spPR (K : PySem.W.Frag) : Sp := fun vs H Q _ => ∃ (x : V) (t : Nest) (l : Addr) (cs : List (Addr × List Int)), vs = [x, .ref l] ∧ NV K H x t ∧ t.ht ≤ 19 ∧ t.sz ≤ 20 ∧ Rl H l cs ∧ isP (cs.map (·.2)) = true ∧ Sz (cs.map (·.2)) ∧ (∀ c ∈ t.halves, Hlf (cs.map (·.2)) c) ∧ ∀ H', Grows H H' → Q (.bl true) H'
section
variable {P : Program} {w : World} {K : PySem.W.Frag} {mg : Str → Option Value} {base : Heap}
theorem scPR : FnScope ["nest", "lots", "lot", "halves", "found", "due"] ["nest", "lots"] (defScope sPR) := ⟨rfl, rfl, rfl, by decide +kernel, rfl, by decide +kernel, by decide +kernel⟩
theorem ok_PR (W : LawF K mg) : FnG P w K mg base CX0 23 W.fPR W.dPR ["nest", "lots"] (spPR K) := by
  have T := W.T.toTxtP
  have GHal : FnOk P w K mg base CX0 22 W.fHal W.dHal ["nest"] (spHal K 19) := W.hal
  have GParts : FnOk P w K mg base CX0 8 W.Y.fParts W.Y.dParts ["parting", "group"] (spParts K) := ok_parts W.Z T W.Y
  have GMaker : FnOk P w K mg base CX0 8 W.Y.fMaker W.Y.dMaker ["parting", "group"] (spMaker K) := ok_maker W.Z T W.Y
  refine okG W.FPR scPR (fun vs H Q E h => ?_) (fun cdv A outer s H vs Q E hr noG h => ?_)
  · obtain ⟨x, t, l, cs, rfl, _⟩ := h
    rfl
  · obtain ⟨x, t, l, cs, rfl, nv, ht, hz, rl, hp, hsz, hh, kq⟩ := h
    refine ⟨_, (pss_cons (ps_for PassesOwn.never rfl (pi_list (pe_call GHal (hr.mono (by decide)) rfl W.gHal W.FHal.kp W.bHal .nil pass0 (pa_cons (pv 0) pa_nil))) (pg_tup (by rfl) (pgs_cons (pg_name (i := 2) scPR.nd rfl (.inl rfl)) (pgs_cons (pg_name (i := 3) scPR.nd rfl (.inl rfl)) pgs_nil)))
      (pss_cons (ps_set (i := 4) scPR.nd rfl (.inl rfl) (pe_lst (pa_cons (pe_call GParts (hr.mono (by decide)) rfl W.Y.gParts W.Y.FParts.kp W.Y.bParts .nil pass0 (pa_cons (pv 1) (pa_cons (pv 2) pa_nil))) (pa_cons (pe_callKw GParts (hr.mono (by decide)) rfl W.Y.gParts W.Y.FParts.kp W.kbParts pass0 (pk_cons (pv 2) (pk_cons (pv 1) pk_nil))) pa_nil))))
      (pss_cons (ps_if (pt_cmpR op_ne (pe_callB (call_reprL noG hr.units) (by rfl) W.T.repr (by decide +kernel) (pa_cons (pv 4) pa_nil)) (pe_callB (call_reprL noG hr.units) (by rfl) W.T.repr (by decide +kernel) (pa_cons (pe_lst (pa_cons (pv 3) (pa_cons (pv 3) pa_nil))) pa_nil)) (nomark _)) (pss_one (ps_ret pe_bl)) pss_nil)
      (pss_cons (ps_expr (pe_bm PySem.F.plainAttrs_list PySem.F.slot_list_append PySem.F.type_list_append mt_append (pe_ix (r := rIxL K) ix_list (pv 4) pe_int (fun _ _ => rfl)) (pa_cons pe_non pa_nil)))
      (pss_cons (ps_expr (pe_bm PySem.F.plainAttrs_list PySem.F.slot_list_append PySem.F.type_list_append mt_append (pe_ix (r := rIxL K) ix_list (pe_ix (r := rIxL K) ix_list (pv 4) pe_int (fun _ _ => rfl)) pe_int (fun _ _ => rfl)) (pa_cons pe_non pa_nil)))
      (pss_cons (ps_expr (pe_bm PySem.F.plainAttrs_list PySem.F.slot_list_append PySem.F.type_list_append mt_append (pe_ix (r := rIxL K) ix_list (pe_ix (r := rIxL K) ix_list (pv 4) pe_int (fun _ _ => rfl)) pe_int (fun _ _ => rfl)) (pa_cons pe_non pa_nil)))
      (pss_cons (ps_if (pt_cmpR (op_neD hr.units) (pe_call GParts (hr.mono (by decide)) rfl W.Y.gParts W.Y.FParts.kp W.Y.bParts .nil pass0 (pa_cons (pv 1) (pa_cons (pv 2) pa_nil))) (pv 3) (nomark _)) (pss_one (ps_ret pe_bl)) pss_nil)
      (pss_cons (ps_set (i := 5) scPR.nd rfl (.inl rfl) (pe_ix (r := rIxL K) ix_list (pe_ix (r := rIxL K) ix_list (pv 3) pe_int (fun _ _ => rfl)) pe_int (fun _ _ => rfl)))
      (pss_one (ps_if (pt_cmpR op_ne (pe_callB (call_reprL noG hr.units) (by rfl) W.T.repr (by decide +kernel) (pa_cons (pe_lst (pa_cons (pe_call GMaker (hr.mono (by decide)) rfl W.Y.gMaker W.Y.FMaker.kp W.Y.bMaker .nil pass0 (pa_cons (pv 1) (pa_cons (pv 2) pa_nil))) (pa_cons (pe_callKw GMaker (hr.mono (by decide)) rfl W.Y.gMaker W.Y.FMaker.kp W.kbMaker pass0 (pk_cons (pv 2) (pk_cons (pv 1) pk_nil))) pa_nil))) pa_nil)) (pe_callB (call_reprL noG hr.units) (by rfl) W.T.repr (by decide +kernel) (pa_cons (pe_lst (pa_cons (pv 5) (pa_cons (pv 5) pa_nil))) pa_nil)) (nomark _)) (pss_one (ps_ret pe_bl)) pss_nil))))))))))
      (pss_one (ps_ret pe_bl))), ?_⟩
    refine ⟨_, rfl, x, t, rfl, nv, ht, by omega, fun a ys H1 s1 n1 hv ea => ⟨a, rfl, ⟨_, SqL.of ea⟩, for_list (K := K) (a := a) (xs := ys) (fun i σ G => ∃ o1 o2 o3 o4, σ = [some x, some (.ref l), o1, o2, o3, o4] ∧ Grows H1 G) ⟨_, _, _, _, rfl, .refl⟩ (fun i σ G _ ⟨_, _, _, _, _, g⟩ => SqL.of (g _ _ ea)) (fun i v σ G hx ⟨o1, o2, o3, o4, e, g⟩ => ?_) fun σ G ⟨o1, o2, o3, o4, e, g⟩ => ?_⟩⟩
    · subst e
      obtain ⟨⟨lot, hs⟩, hc, T0, F, h, us, rfl, eT, eF, rh, mh⟩ := hv.at hx
      obtain ⟨hl1, hl2, hl3, hl4⟩ := hh _ hc
      have eT := g _ _ eT
      have eFG := g _ _ eF
      have rh := rh.keep g
      have rlG := rl.keep (s1.trans g)
      dsimp only at hl1 hl2 hl3 hl4 eFG mh
      clear eF
      refine ⟨T0, _, rfl, SqT.of eT, rfl, _, _, rfl, _, _, rfl, rfl, ?_⟩
      refine ⟨_, rfl, _, rfl, l, F, cs, lot, rfl, rlG.rw, hsz, hp, SqL.of eFG, hl1, fun p1 q1 r1 G1 g1 t1 => ?_⟩
      refine ⟨_, rfl, _, rfl, l, F, cs, lot, rfl, (rlG.keep g1).rw, hsz, hp, SqL.of (g1 _ _ eFG), hl1, fun p2 q2 r2 G2 g2 t2 => ⟨(by show 2 ≤ sizeLine; decide), fun fo hfo => ?_⟩⟩
      have gfo := Grows.new (o := .lst [V.ref p1, V.ref p2]) hfo
      have efo : (upd G2 fo (.lst [V.ref p1, V.ref p2])) fo = some (.lst [V.ref p1, V.ref p2]) := upd_same
      have t1' := t1.on (g2.trans gfo)
      have t2' := t2.on gfo
      have rh3 := ((rh.keep g1).keep g2).keep gfo
      have rlG3 := ((rlG.keep g1).keep g2).keep gfo
      have eF3 := gfo _ _ (g2 _ _ (g1 _ _ eFG))
      have gG3 : Grows G (upd G2 fo (.lst [V.ref p1, V.ref p2])) := g1.trans (g2.trans gfo)
      have fop2 : fo ≠ p2 := (ne_of_none t2.top hfo).symm
      have fop1 : fo ≠ p1 := (ne_of_none (g2 _ _ t1.top) hfo).symm
      have foq2 : fo ≠ q2 := (ne_of_none t2.e1 hfo).symm
      generalize upd G2 fo (.lst [V.ref p1, V.ref p2]) = G3 at gfo efo t1' t2' rh3 rlG3 eF3 gG3
      obtain ⟨A, B, rfl⟩ : ∃ A B, hs = [A, B] := ⟨_, _, hl2.symm⟩
      have eA : firR (cs.map (·.2)) lot = A := (List.cons.inj hl2).1
      have eB : secR (cs.map (·.2)) lot = B := (List.cons.inj (List.cons.inj hl2).2).1
      rw [eA, eB] at t1' t2'
      have br := brief_rows (rs := [A, B]) (m := 20) hl4
      obtain ⟨u1, u2, u3⟩ := brief_two br br (by show 2 * (20 * 42 + 1) + 2 * (20 * 42 + 1) ≤ 100000; decide)
      have dh : ∀ X, Grows G3 X → Dp K X (.ref h) (.list (rowD [A, B])) := fun X s => by
        have := ((rh3.keep s).rw (K := K)).dp
        rwa [mh] at this
      refine ⟨_, rfl, fo, _, [PyData.list (rowD [A, B]), PyData.list (rowD [A, B])], rfl, SqL.of efo, .of_dp (.cons t1'.dp (.cons t2'.dp .nil)), u1, u2, u3, _, rfl, _, rfl, (by show 2 ≤ sizeLine; decide), fun q hq => ?_⟩
      have gq := Grows.new (o := .lst [V.ref h, V.ref h]) hq
      refine ⟨q, _, [PyData.list (rowD [A, B]), PyData.list (rowD [A, B])], rfl, SqL.of upd_same, .of_dp (.cons (dh _ gq) (.cons (dh _ gq) .nil)), u1, u2, u3, rfl, _, rfl, ?_⟩
      rw [decide_eq_true rfl]
      have t1q := t1'.on gq
      have t2q := t2'.on gq
      have efq := gq _ _ efo
      have gGq : Grows G (upd G3 q (.lst [V.ref h, V.ref h])) := gG3.trans gq
      generalize upd G3 q (.lst [V.ref h, V.ref h]) = G4 at t1q t2q efq gGq
      have p12 : p2 ≠ p1 := (ne_of_none t1.top t2.np).symm
      have q12 : q2 ≠ p1 := (ne_of_none t1.top t2.n1).symm
      have r12 : r2 ≠ p1 := (ne_of_none t1.top t2.n2).symm
      refine iteF ⟨_, rfl, fo, _, 0, V.ref p1, rfl, rfl, SqL.of efq, rfl, .inl ⟨rfl, _, SqL.of t1q.top⟩, p1, _, _, rfl, rfl, t1q.top, (by show 2 < sizeLine; decide), ?_⟩
      have k1 : Grows G (upd G4 p1 (.lst ([V.ref q1, V.ref r1] ++ [V.non]))) := grows_off gGq t1.np
      have e1f : (upd G4 p1 (.lst ([V.ref q1, V.ref r1] ++ [V.non]))) fo = some (.lst [V.ref p1, V.ref p2]) := (upd_ne fop1).trans efq
      have e1p : (upd G4 p1 (.lst ([V.ref q1, V.ref r1] ++ [V.non]))) p2 = some (.lst [V.ref q2, V.ref r2]) := (upd_ne p12).trans t2q.top
      have e1q : (upd G4 p1 (.lst ([V.ref q1, V.ref r1] ++ [V.non]))) q2 = _ := (upd_ne q12).trans t2q.e1
      have e1r : (upd G4 p1 (.lst ([V.ref q1, V.ref r1] ++ [V.non]))) r2 = _ := (upd_ne r12).trans t2q.e2
      generalize upd G4 p1 (.lst ([V.ref q1, V.ref r1] ++ [V.non])) = K1 at k1 e1f e1p e1q e1r
      have lenA : A.length ≤ 20 := (hl4 A List.mem_cons_self).2
      have lenB : B.length ≤ 20 := (hl4 B (List.mem_cons_of_mem _ List.mem_cons_self)).2
      refine ⟨_, rfl, fo, _, 1, V.ref p2, rfl, rfl, SqL.of e1f, rfl, p2, _, 0, V.ref q2, rfl, rfl, SqL.of e1p, rfl, .inl ⟨rfl, _, SqL.of e1q⟩, q2, _, _, rfl, rfl, e1q, (by rw [List.length_map]; exact small1000 (by omega)), ?_⟩
      have k2 : Grows G (upd K1 q2 (.lst (A.map V.int ++ [V.non]))) := grows_off k1 (none_back g1 t2.n1)
      have e2f : (upd K1 q2 (.lst (A.map V.int ++ [V.non]))) fo = some (.lst [V.ref p1, V.ref p2]) := (upd_ne foq2).trans e1f
      have e2p : (upd K1 q2 (.lst (A.map V.int ++ [V.non]))) p2 = some (.lst [V.ref q2, V.ref r2]) := (upd_ne t2.p1.symm).trans e1p
      have e2r : (upd K1 q2 (.lst (A.map V.int ++ [V.non]))) r2 = _ := (upd_ne t2.q12.symm).trans e1r
      generalize upd K1 q2 (.lst (A.map V.int ++ [V.non])) = K2 at k2 e2f e2p e2r
      refine ⟨_, rfl, fo, _, 1, V.ref p2, rfl, rfl, SqL.of e2f, rfl, p2, _, 1, V.ref r2, rfl, rfl, SqL.of e2p, rfl, .inl ⟨rfl, _, SqL.of e2r⟩, r2, _, _, rfl, rfl, e2r, (by rw [List.length_map]; exact small1000 (by omega)), ?_⟩
      have k3 : Grows G (upd K2 r2 (.lst (B.map V.int ++ [V.non]))) := grows_off k2 (none_back g1 t2.n2)
      generalize upd K2 r2 (.lst (B.map V.int ++ [V.non])) = K3 at k3
      refine ⟨_, rfl, _, rfl, l, F, cs, lot, rfl, (rlG.keep k3).rw, hsz, hp, SqL.of (k3 _ _ eFG), hl1, fun p3 q3 r3 G5 g5 t5 => ⟨_, rfl, .list (rowD [A, B]), .list (rowD [A, B]), ?_, ?_, shaped_rows _, shaped_rows _, _, rfl, ?_⟩⟩
      · rw [eA, eB] at t5
        exact t5.dp
      · have := ((rh.keep (k3.trans g5)).rw (K := K)).dp
        rwa [mh] at this
      have ee : PyData.eqv (.list (rowD [A, B])) (.list (rowD [A, B])) = true := (eqv_rows [A, B] [A, B]).trans (decide_eq_true rfl)
      rw [ee]
      have rhK := rh.keep (k3.trans g5)
      obtain ⟨a1, a2, rfl⟩ : ∃ a1 a2, us = [(a1, A), (a2, B)] := by
        match us, mh with
        | [(x1, y1), (x2, y2)], mh =>
          have e1 : y1 = A := (List.cons.inj mh).1
          have e2 : y2 = B := (List.cons.inj (List.cons.inj mh).2).1
          exact ⟨x1, x2, by rw [e1, e2]⟩
      have eh := rhK.top
      have ea2 := rhK.each (a2, B) (List.mem_cons_of_mem _ List.mem_cons_self)
      have Bne : B ≠ [] := by rw [← eB]; exact hl3
      refine iteF ⟨_, rfl, h, _, 1, V.ref a2, rfl, rfl, SqL.of eh, rfl, a2, _, 0, _, rfl, rfl, SqL.of ea2, at_head Bne, ?_⟩
      have k5 := k3.trans g5
      have dec : ∀ r, r ∈ [A, B] → Smalls r := fun r hr2 => (hl4 r hr2).1
      have Bs : (B.getD 0 0).natAbs < 10 ^ 12 := dec B (List.mem_cons_of_mem _ List.mem_cons_self) _ (head_mem Bne)
      obtain ⟨v1, v2, v3⟩ := two_ints Bs
      refine ⟨_, rfl, _, rfl, l, F, cs, lot, rfl, (rlG.keep k5).rw, hsz, hp, SqL.of (k5 _ _ eFG), hl1, hl3, fun G6 g6 => ?_⟩
      rw [eB]
      have k6 := k5.trans g6
      refine ⟨_, rfl, _, rfl, l, F, cs, lot, rfl, (rlG.keep k6).rw, hsz, hp, SqL.of (k6 _ _ eFG), hl1, hl3, fun G7 g7 => ?_⟩
      rw [eB]
      have k7 := k6.trans g7
      refine ⟨(by show 2 ≤ sizeLine; decide), fun fq hfq => ⟨fq, _, [PyData.int (B.getD 0 0), PyData.int (B.getD 0 0)], rfl, SqL.of upd_same, .of_dp (.cons (.int _) (.cons (.int _) .nil)), v1, v2, v3, _, rfl, _, rfl, (by show 2 ≤ sizeLine; decide), fun fr hfr => ⟨fr, _, [PyData.int (B.getD 0 0), PyData.int (B.getD 0 0)], rfl, SqL.of upd_same, .of_dp (.cons (.int _) (.cons (.int _) .nil)), v1, v2, v3, rfl, _, rfl, ?_⟩⟩⟩
      rw [decide_eq_true rfl]
      exact iteF ⟨_, _, _, _, rfl, g.trans ((k7.trans (Grows.new hfq)).trans (Grows.new hfr))⟩
    · subst e
      exact kq _ (s1.trans g)
end
end K02

namespace K02
open PySem PySem.Spec PyProof.Rows L2 SortR LcM RepA
def rng (n : Int) : List Int := (List.range n.toNat).map fun i => (0 + (i : Nat) : Int)
theorem rng_len {n : Int} (h : 1 ≤ n) : ((rng n).length : Int) = n := by
  unfold rng
  rw [List.length_map, List.length_range]
  omega
theorem rng_nodup (n : Int) : (rng n).Nodup := up_nodup (rg_up _)
theorem rng_mem {n x : Int} (h : x ∈ rng n) : 0 ≤ x ∧ x < n := by
  obtain ⟨i, hi, e⟩ := List.mem_map.mp h
  have := List.mem_range.mp hi
  omega
theorem gr_own {sd p : Addr} {H0 H : Hp} (g : Gr sd H0 H) (e : H0 p = none) (o : HO) : Gr sd H0 (upd H p o) := fun b u nb h => by
  have ne : b ≠ p := fun z => by rw [z, e] at h; cases h
  rw [upd_ne ne]
  exact g b u nb h
theorem Pch.off {H : Hp} {p x : Addr} {m : Int} (h : Pch H p m) (n : x ≠ p) (o : HO) : Pch (upd H x o) p m := by
  obtain ⟨d, b, k, e, r⟩ := h
  exact ⟨d, b, k, (upd_ne n.symm).trans e, r⟩
theorem erase_map {α β : Type} (f : α → β) : ∀ (l : List α) (k : Nat), (l.map f).eraseIdx k = (l.eraseIdx k).map f
  | [], _ => rfl
  | _ :: _, 0 => rfl
  | x :: l, k + 1 => congrArg (f x :: ·) (erase_map f l k)
theorem erase_perm {α : Type} : ∀ (l : List α) (k : Nat) (h : k < l.length), (l[k] :: l.eraseIdx k).Perm l
  | [], k, h => absurd h (Nat.not_lt_zero k)
  | x :: l, 0, _ => .refl _
  | x :: l, k + 1, h => (List.Perm.swap x (l[k]'(Nat.lt_of_succ_lt_succ h)) (l.eraseIdx k)).trans ((erase_perm l k (Nat.lt_of_succ_lt_succ h)).cons x)
theorem seq_in {v : Int} {n : Nat} (h0 : 0 ≤ v) (h1 : v < n) : seqIndex? v n = some v.toNat := by
  unfold seqIndex?
  dsimp only
  rw [if_neg (by omega : ¬ v < 0), if_pos (by rw [Bool.and_eq_true]; exact ⟨decide_eq_true h0, decide_eq_true h1⟩)]
/-- the law's least one is the program's -/
theorem least_same {js : List (List Int)} (up : js.Pairwise (· < ·)) {r q : List Int} (hr : fMin js r) (hq : q ∈ js) (k : ∀ x ∈ js, q.length < x.length ∨ (q.length = x.length ∧ q ≤ x)) : r = q := by
  obtain ⟨i, il, ei, hi⟩ := hr
  have er : js[i] = r := by
    rw [← ei, List.getD_eq_getElem?_getD, List.getElem?_eq_getElem il]
    rfl
  have rm : r ∈ js := by rw [← er]; exact List.getElem_mem il
  obtain ⟨j, jl, ej⟩ := List.getElem_of_mem hq
  have ej2 : js.getD j [] = q := by
    rw [List.getD_eq_getElem?_getD, List.getElem?_eq_getElem jl]
    exact ej
  have h1 := hi j jl
  rw [ej2] at h1
  rcases k r rm with h2 | ⟨h2, h3⟩
  · omega
  · rcases Nat.lt_trichotomy i j with l | l | l
    · have z := List.pairwise_iff_getElem.mp up i j il jl l
      rw [er, ej] at z
      exact absurd z (List.not_lt.mpr h3)
    · subst l
      rw [← er, ej]
    · have := h1.2 l
      omega
def spLR (K : PySem.W.Frag) : Sp := fun vs H Q _ => ∃ (p l : Addr) (n m : Int) (cs : List (Addr × List Int)), vs = [.ref p, .ref l, .int n] ∧ Pch H p m ∧ m < 2 ^ 40 ∧ 2 ≤ n ∧ n ≤ 20 ∧ l ≠ p ∧ Rl H l cs ∧ (∀ c ∈ cs, c.1 ≠ p) ∧ isP (cs.map (·.2)) = true ∧ Sz (cs.map (·.2)) ∧ (cs.length : Int) + 1 = n ∧ (∃ g ∈ cs.map (·.2), ∀ x : Int, 0 ≤ x → x < n → x ∈ g) ∧
  (cs.map (·.2)).Pairwise (· < ·) ∧ (∀ r ∈ cs.map (·.2), Smalls r ∧ r.length ≤ 20) ∧ ∀ H', Pch H' p (m + 2) → Gr p H H' → Q (.bl true) H'
section
variable {P : Program} {w : World} {K : PySem.W.Frag} {mg : Str → Option Value} {base : Heap}
theorem scLR : FnScope ["pouch", "lots", "many", "left", "low", "high", "due", "lot", "found"] ["pouch", "lots", "many"] (defScope sLR) := ⟨rfl, rfl, rfl, by decide +kernel, rfl, by decide +kernel, by decide +kernel⟩
theorem ok_LR (W : LawF K mg) : FnG P w K mg base CX0 8 W.fLR W.dLR ["pouch", "lots", "many"] (spLR K) := by
  have T := W.T.toTxtP
  have GDip : FnOk P w K mg base CX0 1 W.fDip W.dDip ["pouch", "wide"] spDip := W.dip
  have GLeast : FnOk P w K mg base CX0 7 W.Y.fLeast W.Y.dLeast ["parting", "one", "other"] (spLeast K) := ok_least W.Z T W.T.toTxt0 W.Y
  refine okG W.FLR scLR (fun vs H Q E h => ?_) (fun cdv A outer s H vs Q E hr noG h => ?_)
  · obtain ⟨p, l, n, m, cs, rfl, _⟩ := h
    rfl
  · obtain ⟨p, l, n, m, cs, rfl, hP, hm, n2, n20, lp, rl, cp, hip, hsz, len, ⟨g, hg, all⟩, up, sm, kq⟩ := h
    refine ⟨_, (pss_cons (ps_set (i := 3) scLR.nd rfl (.inl rfl) (pe_listRg rfl (by rfl) W.T.list (prg_1 (by rfl) W.T.range (pv 2))))
      (pss_cons (ps_asg (pe_tup (pa_cons (pe_bm PySem.F.plainAttrs_list PySem.F.slot_list_pop PySem.F.type_list_pop mt_popAt (pv 3) (pa_cons (pe_call GDip (hr.mono (by decide)) rfl W.gDip W.FDip.kp W.bDip .nil pass0 (pa_cons (pv 0) (pa_cons (pv 2) pa_nil))) pa_nil)) (pa_cons (pe_bm PySem.F.plainAttrs_list PySem.F.slot_list_pop PySem.F.type_list_pop mt_popAt (pv 3) (pa_cons (pe_call GDip (hr.mono (by decide)) rfl W.gDip W.FDip.kp W.bDip .nil pass0 (pa_cons (pv 0) (pa_cons (pe_op op_sub (pv 2) pe_int) pa_nil))) pa_nil)) pa_nil))) (pg_tup (by rfl) (pgs_cons (pg_name (i := 4) scLR.nd rfl (.inr rfl)) (pgs_cons (pg_name (i := 5) scLR.nd rfl (.inr rfl)) pgs_nil))))
      (pss_cons (ps_set (i := 6) scLR.nd rfl (.inl rfl) (pe_ix (r := rIxT K) ix_tup (pe_ix (r := rIxL K) ix_list (pe_callB (call_sortedP hr.units) (by rfl) W.T.sorted (by decide +kernel) (pa_cons (pe_lc (own := [("lot", 7)]) (g := gName 7) rfl scLR.nd (pi_list (pv 1)) (blkOk_by (own := [("lot", 7)]) (N := ["pouch", "lots", "many", "left", "low", "high", "due", "lot", "found"]) (sc := defScope sLR) (by decide +kernel)) (fun _ _ _ _ _ => pg_name (i := 7) scLR.nd rfl (Or.inl rfl)) (fun _ _ _ _ _ => (pts_one (PW.pt (pw_and (pt_cmpR (r := rIn K false) (by exact op_in_seq) (pv 4) (pv 7) (by rfl)) (pw_and1 (pt_cmpR (r := rIn K false) (by exact op_in_seq) (pv 5) (pv 7) (by rfl))))))) (fun _ _ _ _ _ => (pe_tup (pa_cons (pe_callB (id := "len") (r := rLenS K) (by exact call_lenK) (by rfl) W.T.len (by decide +kernel) (pa_cons (pv 7) pa_nil)) (pa_cons (pv 7) pa_nil))))) pa_nil)) pe_int (fun _ _ => rfl)) pe_int (fun _ _ => rfl)))
      (pss_cons (ps_set (i := 8) scLR.nd rfl (.inl rfl) (pe_lst (pa_cons (pe_call GLeast (hr.mono (by decide)) rfl W.Y.gLeast W.Y.FLeast.kp W.Y.bLeast .nil pass0 (pa_cons (pv 1) (pa_cons (pv 4) (pa_cons (pv 5) pa_nil)))) (pa_cons (pe_callKw GLeast (hr.mono (by decide)) rfl W.Y.gLeast W.Y.FLeast.kp W.kbLeast pass0 (pk_cons (pv 5) (pk_cons (pv 4) (pk_cons (pv 1) pk_nil)))) (pa_cons (pe_call GLeast (hr.mono (by decide)) rfl W.Y.gLeast W.Y.FLeast.kp W.Y.bLeast .nil pass0 (pa_cons (pv 1) (pa_cons (pv 5) (pa_cons (pv 4) pa_nil)))) pa_nil)))))
      (pss_cons (ps_if (pt_cmpR op_ne (pe_callB (call_reprL noG hr.units) (by rfl) W.T.repr (by decide +kernel) (pa_cons (pv 8) pa_nil)) (pe_callB (call_reprL noG hr.units) (by rfl) W.T.repr (by decide +kernel) (pa_cons (pe_op op_rep (pe_lst (pa_cons (pv 6) pa_nil)) pe_int) pa_nil)) (nomark _)) (pss_one (ps_ret pe_bl)) pss_nil)
      (pss_cons (ps_expr (pe_bm PySem.F.plainAttrs_list PySem.F.slot_list_append PySem.F.type_list_append mt_append (pe_ix (r := rIxL K) ix_list (pv 8) pe_int (fun _ _ => rfl)) (pa_cons pe_non pa_nil)))
      (pss_cons (ps_expr (pe_bm PySem.F.plainAttrs_list PySem.F.slot_list_append PySem.F.type_list_append mt_append (pe_ix (r := rIxL K) ix_list (pv 8) pe_int (fun _ _ => rfl)) (pa_cons pe_non pa_nil)))
      (pss_one (ps_ret (pe_and (pe_cmpR (op_eqD hr.units) (pe_call GLeast (hr.mono (by decide)) rfl W.Y.gLeast W.Y.FLeast.kp W.Y.bLeast .nil pass0 (pa_cons (pv 1) (pa_cons (pv 4) (pa_cons (pv 5) pa_nil)))) (pv 6) (nomark _)) (pe_one (pe_cmpR op_eq (pe_callB call_len_seq (by rfl) W.T.len (by decide +kernel) (pa_cons (pv 1) pa_nil)) (pe_op op_sub (pv 2) pe_int) (nomark _))))))))))))), ?_⟩
    have rl0 : (cs.length : Nat) < 20 := by
      have := isP_lt hip
      rw [List.length_map] at this
      exact this
    refine ⟨_, rfl, n, rfl, .of_le (by decide) (by omega) (by decide) (by omega), fun L hL => ?_⟩
    have nLp := pch_ne hP hL
    have hP1 := hP.same (.new hL (o := .lst (rgV 0 n)))
    have g1 : Gr p H (upd H L (.lst (rgV 0 n))) := .new hL
    have e1 : (upd H L (.lst (rgV 0 n))) L = some (.lst ((rng n).map V.int)) := by
      rw [upd_same, rg_ints]
      rfl
    generalize upd H L (.lst (rgV 0 n)) = G1 at hP1 g1 e1
    have rlen := rng_len (n := n) (by omega)
    refine ⟨_, rfl, .inl ⟨rfl, _, SqL.of e1⟩, _, rfl, _, rfl, p, n, m, rfl, hP1, by omega, by omega, ?_, fun v G2 v0 v1 hP2 but2 => ?_⟩
    · have : (20 : Nat) < 2 ^ 200 := by decide
      omega
    have e2 := (but2 L nLp).trans e1
    have vl : v.toNat < (rng n).length := by omega
    have at_v : ((rng n).map V.int)[v.toNat]? = some (V.int (rng n)[v.toNat]) := by
      rw [List.getElem?_map, List.getElem?_eq_getElem vl]
      rfl
    have ep := erase_perm (rng n) v.toNat vl
    have rlo := rng_mem (List.getElem_mem vl)
    generalize (rng n)[v.toNat] = lo at at_v ep rlo
    refine ⟨L, _, v, v.toNat, _, rfl, rfl, e2, by omega, by omega, by rw [List.length_map]; exact seq_in v0 (by omega), at_v, ?_⟩
    rw [erase_map]
    generalize (rng n).eraseIdx v.toNat = left at ep
    have g2 : Gr p H (upd G2 L (.lst (left.map V.int))) := gr_own (g1.trans (but_gr but2)) hL _
    have hP3 : Pch (upd G2 L (.lst (left.map V.int))) p (m + 1) := hP2.off nLp _
    have e3 : (upd G2 L (.lst (left.map V.int))) L = some (.lst (left.map V.int)) := upd_same
    generalize upd G2 L (.lst (left.map V.int)) = G3 at g2 hP3 e3
    have llen : (left.length : Int) + 1 = n := by
      have := ep.length_eq
      rw [List.length_cons] at this
      omega
    refine ⟨_, rfl, .inl ⟨rfl, _, SqL.of e3⟩, _, rfl, _, rfl, _, _, rfl, rfl, p, n - 1, m + 1, rfl, hP3, by omega, by omega, ?_, fun u G4 u0 u1 hP4 but4 => ?_⟩
    · have : (20 : Nat) < 2 ^ 200 := by decide
      omega
    have e4 := (but4 L nLp).trans e3
    have ul : u.toNat < left.length := by omega
    have at_u : (left.map V.int)[u.toNat]? = some (V.int left[u.toNat]) := by
      rw [List.getElem?_map, List.getElem?_eq_getElem ul]
      rfl
    have him : left[u.toNat] ∈ left := List.getElem_mem ul
    generalize left[u.toNat] = hi at at_u him
    refine ⟨L, _, u, u.toNat, _, rfl, rfl, e4, by omega, by omega, by rw [List.length_map]; exact seq_in u0 (by omega), at_u, ?_⟩
    have nd := (ep.nodup_iff).mpr (rng_nodup n)
    have rhi := rng_mem (ep.mem_iff.mp (List.mem_cons_of_mem _ him))
    have lohi : lo ≠ hi := fun z => (List.nodup_cons.mp nd).1 (z ▸ him)
    have g5 : Gr p H (upd G4 L (.lst ((left.map V.int).eraseIdx u.toNat))) := gr_own (g2.trans (but_gr but4)) hL _
    have hP5 : Pch (upd G4 L (.lst ((left.map V.int).eraseIdx u.toNat))) p (m + 1 + 1) := hP4.off nLp _
    generalize upd G4 L (.lst ((left.map V.int).eraseIdx u.toNat)) = G5 at g5 hP5
    have rl5 : Rl G5 l cs := ⟨g5 _ _ lp rl.top, fun c hc => g5 _ _ (cp c hc) (rl.each c hc)⟩
    refine ⟨(by show 2 ≤ sizeLine; decide), fun tt htt => ⟨tt, _, rfl, SqT.of upd_same, rfl, _, _, rfl, _, _, rfl, rfl, ?_⟩⟩
    have s6 : Grows G5 (upd G5 tt (.tup [V.int lo, V.int hi])) := Grows.new htt
    generalize upd G5 tt (.tup [V.int lo, V.int hi]) = G6 at s6
    have rl6 := rl5.keep s6
    have hne : has2 lo hi (cs.map (·.2)) ≠ [] := fun z => by
      have : g ∈ has2 lo hi (cs.map (·.2)) := List.mem_filter.mpr ⟨hg, by rw [decide_eq_true (all lo rlo.1 rlo.2), decide_eq_true (all hi rhi.1 rhi.2)]; rfl⟩
      rw [z] at this
      cases this
    have upj : (has2 lo hi (cs.map (·.2))).Pairwise (· < ·) := up.filter _
    refine ⟨_, rfl, l, rfl, ⟨_, SqL.of rl6.top⟩, fun D hD => lc_listP (K := K) (fun t => decide (lo ∈ (cs.getD t (0, [])).2) && decide (hi ∈ (cs.getD t (0, [])).2)) (fun t => cs.getD t (0, [])) hD (SqL.of rl6.top) (by rw [List.length_map]; omega) (fun t x G Ry Rn hx sm6 ky kn => ?_) fun G7 ds s7 eds tops eD => ?_⟩
    · have il := (List.getElem?_eq_some_iff.mp hx).1
      rw [List.length_map] at il
      obtain rfl := at_map (d := (0, [])) hx
      have row : G (cs.getD t (0, [])).1 = some (.lst ((cs.getD t (0, [])).2.map V.int)) := by
        rw [List.getD_eq_getElem?_getD, List.getElem?_eq_getElem il]
        exact (rl6.keep sm6).each _ (List.getElem_mem il)
      refine ⟨rfl, _, rfl, _, rfl, _, _, rfl, .inl (SqL.of row), rfl, flat_ints _, _, rfl, ?_⟩
      show if (inV (V.int lo) ((cs.getD t (0, [])).2.map V.int)) = true then _ else _
      rw [inV_ints]
      by_cases m1 : lo ∈ (cs.getD t (0, [])).2
      · rw [decide_eq_true m1]
        refine iteT ⟨_, rfl, _, rfl, _, _, rfl, .inl (SqL.of row), rfl, flat_ints _, _, rfl, ?_⟩
        show if (inV (V.int hi) ((cs.getD t (0, [])).2.map V.int)) = true then _ else _
        rw [inV_ints]
        by_cases m2 : hi ∈ (cs.getD t (0, [])).2
        · rw [decide_eq_true m2]
          refine iteT ⟨_, rfl, _, _, rfl, .inl (SqL.of row), _, rfl, (by show 2 ≤ sizeLine; decide), fun T hT => ky (by rw [decide_eq_true m1, decide_eq_true m2]; rfl) T _ (Grows.new hT) hT (by rw [upd_same, List.length_map])⟩
        · rw [decide_eq_false m2]
          exact iteF (kn (by rw [decide_eq_true m1, decide_eq_false m2]; rfl) _ .refl)
      · rw [decide_eq_false m1]
        exact iteF (iteF (kn (by rw [decide_eq_false m1]; rfl) _ .refl))
    · have eB : ((List.range (cs.map fun c => V.ref c.1).length).filter fun t => decide (lo ∈ (cs.getD t (0, [])).2) && decide (hi ∈ (cs.getD t (0, [])).2)).map (fun t => cs.getD t (0, [])) = cs.filter fun c => decide (lo ∈ c.2) && decide (hi ∈ c.2) := by
        rw [List.length_map]
        exact filt (0, []) (fun c => decide (lo ∈ c.2) && decide (hi ∈ c.2)) cs
      rw [eB] at eds
      have ejs : (ds.map (·.2)).map (·.2) = has2 lo hi (cs.map (·.2)) := by
        rw [eds]
        exact (snd_filter (fun r => decide (lo ∈ r) && decide (hi ∈ r)) cs).symm
      have inc : ∀ c ∈ ds, c.2 ∈ cs := fun c hc => by
        have : c.2 ∈ ds.map (·.2) := List.mem_map.mpr ⟨c, hc, rfl⟩
        rw [eds] at this
        exact (List.mem_filter.mp this).1
      have dne : ds ≠ [] := fun z => hne (by rw [← ejs, z]; rfl)
      obtain ⟨c, rest, ec, cm, cle⟩ := len_first dne
      have rl7 := rl6.keep s7
      refine ⟨D, ds, rfl, SqL.of eD, fun b hb => ⟨SqT.of (tops b hb), SqL.of (rl7.each _ (inc b hb))⟩, fun S hS => ?_⟩
      rw [ec]
      have s8 : Grows G7 (upd G7 S (.lst ((c :: rest).map fun b => V.ref b.1))) := Grows.new hS
      refine ⟨S, _, 0, V.ref c.1, rfl, rfl, SqL.of upd_same, atI_nat (j := 0) rfl, c.1, _, 1, V.ref c.2.1, rfl, rfl, SqT.of (s8 _ _ (tops c cm)), rfl, ?_⟩
      have s58 : Grows G5 _ := s6.trans (s7.trans s8)
      generalize upd G7 S (.lst ((c :: rest).map fun b => V.ref b.1)) = G8 at s8 s58
      have rl8 := rl5.keep s58
      have qm : c.2.2 ∈ has2 lo hi (cs.map (·.2)) := by
        rw [← ejs]
        exact List.mem_map.mpr ⟨c.2, List.mem_map.mpr ⟨c, cm, rfl⟩, rfl⟩
      have qk : ∀ x ∈ has2 lo hi (cs.map (·.2)), c.2.2.length < x.length ∨ (c.2.2.length = x.length ∧ c.2.2 ≤ x) := fun x hx => by
        rw [← ejs] at hx
        obtain ⟨y, hy, rfl⟩ := List.mem_map.mp hx
        obtain ⟨d, hd, rfl⟩ := List.mem_map.mp hy
        have := cle d hd
        unfold lenLe at this
        exact of_decide_eq_true this
      have q20 := sm _ (List.mem_filter.mp qm).1
      have swap : has2 hi lo (cs.map (·.2)) = has2 lo hi (cs.map (·.2)) := by
        unfold has2
        congr 1
        funext r
        exact Bool.and_comm _ _
      have em : c.2 ∈ cs := inc c cm
      have edue5 : G5 c.2.1 = some (.lst (c.2.2.map V.int)) := rl5.each _ em
      generalize c.2.1 = dueA at edue5
      generalize c.2.2 = q at qm qk q20 edue5
      have edue := s58 _ _ edue5
      have rlen2 : ((cs.length : Nat) : Int) + 1 = n := len
      refine ⟨_, rfl, _, rfl, _, rfl, l, cs, lo, hi, rfl, rl8.rw, hsz, hip, rlo.1, by omega, rhi.1, by omega, lohi, hne, fun p1 r1 G9 g9 np1 ep1 mn1 => ?_⟩
      have er1 := least_same upj mn1 qm qk
      rw [er1] at ep1
      clear er1 mn1
      have s9 := s58.trans g9
      refine ⟨_, rfl, _, rfl, _, rfl, l, cs, lo, hi, rfl, (rl5.keep s9).rw, hsz, hip, rlo.1, by omega, rhi.1, by omega, lohi, hne, fun p2 r2 G10 g10 np2 ep2 mn2 => ?_⟩
      have er2 := least_same upj mn2 qm qk
      rw [er2] at ep2
      clear er2 mn2
      have s10 := s9.trans g10
      refine ⟨_, rfl, _, rfl, _, rfl, l, cs, hi, lo, rfl, (rl5.keep s10).rw, hsz, hip, rhi.1, by omega, rlo.1, by omega, lohi.symm, (by rw [swap]; exact hne), fun p3 r3 G11 g11 np3 ep3 mn3 => ?_⟩
      rw [swap] at mn3
      have er3 := least_same upj mn3 qm qk
      rw [er3] at ep3
      clear er3 mn3
      have s11 := s10.trans g11
      have rows3 : ∀ r ∈ [q, q, q], Smalls r ∧ r.length ≤ 20 := fun r hr2 => by
        simp only [List.mem_cons, List.not_mem_nil, or_false, or_self] at hr2
        rw [hr2]
        exact q20
      obtain ⟨u1, u2, u3⟩ := brief_one (a := .list (rowD [q, q, q])) rfl (brief_rows rows3) (by show 3 * (20 * 42 + 1) ≤ 100000; decide)
      refine ⟨(by show 3 ≤ sizeLine; decide), fun fo hfo => ?_⟩
      have s12 := s11.trans (Grows.new (o := .lst [V.ref p1, V.ref p2, V.ref p3]) hfo)
      have f12 := Grows.new (o := .lst [V.ref p1, V.ref p2, V.ref p3]) hfo
      have efo : (upd G11 fo (.lst [V.ref p1, V.ref p2, V.ref p3])) fo = some (.lst [V.ref p1, V.ref p2, V.ref p3]) := upd_same
      have ep1' := f12 _ _ (g11 _ _ (g10 _ _ ep1))
      have ep2' := f12 _ _ (g11 _ _ ep2)
      have ep3' := f12 _ _ ep3
      have edue' := f12 _ _ (g11 _ _ (g10 _ _ (g9 _ _ edue)))
      have fop1 : fo ≠ p1 := (ne_of_none (g11 _ _ (g10 _ _ ep1)) hfo).symm
      have fop2 : fo ≠ p2 := (ne_of_none (g11 _ _ ep2) hfo).symm
      have p21 : p2 ≠ p1 := (ne_of_none ep1 np2).symm
      have np1' : G5 p1 = none := none_back s58 np1
      have np2' : G5 p2 = none := none_back s9 np2
      generalize upd G11 fo (.lst [V.ref p1, V.ref p2, V.ref p3]) = G12 at s12 efo ep1' ep2' ep3' edue'
      have one : ∀ (x : Addr) (X : Hp), X x = some (.lst (q.map V.int)) → Dp K X (.ref x) (.list (q.map .int)) := fun x X e => .lst (SqL.of e) (rows_dp q)
      refine ⟨_, rfl, fo, _, rowD [q, q, q], rfl, SqL.of efo, .of_dp (.cons (one _ _ ep1') (.cons (one _ _ ep2') (.cons (one _ _ ep3') .nil))), u1, u2, u3, _, rfl, (by show 1 ≤ sizeLine; decide), fun z1 hz1 => ⟨z1, 3, _, rfl, rfl, upd_same, by decide, by decide, (by show 1 * 3 ≤ sizeLine; decide), fun z3 hz3 => ?_⟩⟩
      have s13 := (Grows.new (o := .lst [V.ref dueA]) hz1).trans (Grows.new (o := .lst (List.replicate (3 : Int).toNat [V.ref dueA]).flatten) hz3)
      have ed3 := s13 _ _ edue'
      refine ⟨z3, [V.ref dueA, V.ref dueA, V.ref dueA], rowD [q, q, q], rfl, SqL.of upd_same, .of_dp (.cons (one _ _ ed3) (.cons (one _ _ ed3) (.cons (one _ _ ed3) .nil))), u1, u2, u3, rfl, _, rfl, ?_⟩
      rw [decide_eq_true rfl]
      have efo3 := s13 _ _ efo
      have ep1q := s13 _ _ ep1'
      have ep2q := s13 _ _ ep2'
      have s14 := s12.trans s13
      have small : q.length < sizeLine := small1000 (by have := q20.2; omega)
      refine iteF ⟨_, rfl, fo, _, 0, V.ref p1, rfl, rfl, SqL.of efo3, rfl, .inl ⟨rfl, _, SqL.of ep1q⟩, p1, _, _, rfl, rfl, ep1q, (by rw [List.length_map]; exact small), ?_⟩
      have k1 := grows_off (o := .lst (q.map V.int ++ [V.non])) s14 np1'
      refine ⟨_, rfl, fo, _, 1, V.ref p2, rfl, rfl, SqL.of ((upd_ne fop1).trans efo3), rfl, .inl ⟨rfl, _, SqL.of ((upd_ne p21).trans ep2q)⟩, p2, _, _, rfl, rfl, (upd_ne p21).trans ep2q, (by rw [List.length_map]; exact small), ?_⟩
      have k2 := grows_off (o := .lst (q.map V.int ++ [V.non])) k1 np2'
      refine ⟨_, rfl, _, rfl, _, rfl, l, cs, lo, hi, rfl, (rl5.keep k2).rw, hsz, hip, rlo.1, by omega, rhi.1, by omega, lohi, hne, fun p4 r4 G16 g16 np4 ep4 mn4 => ?_⟩
      have er4 := least_same upj mn4 qm qk
      rw [er4] at ep4
      clear er4 mn4
      have k3 := k2.trans g16
      refine ⟨_, rfl, .list (q.map .int), .list (q.map .int), one _ _ ep4, one _ _ (k3 _ _ edue5), shaped_ints q, shaped_ints q, ?_⟩
      rw [eqv_ints, decide_eq_true rfl]
      refine ⟨_, rfl, ?_⟩
      rw [if_pos rfl]
      refine ⟨_, rfl, l, _, rfl, .inl (SqL.of (rl5.keep k3).top), _, rfl, _, _, rfl, rfl, rfl, ?_⟩
      rw [List.length_map, decide_eq_true (show V.int ((cs.length : Nat) : Int) = V.int (n - 1) by rw [← rlen2, Int.add_sub_cancel])]
      exact kq _ ((hP5.same k3).le (by omega)) (g5.trans k3.gr)
end
end K02

namespace K02
open PySem PySem.Spec PyProof.Rows L2 SortR LcM RepA
theorem full_small {t : Nest} {n : Nat} (f : t.Full n) (h : n ≤ 20) {r : List Int} (inn : ∀ z ∈ r, z ∈ t.lv) (up : r.Pairwise (· < ·)) : Smalls r ∧ r.length ≤ 20 := by
  refine ⟨fun x hx => ?_, ?_⟩
  · have := f.rng x (inn x hx)
    have : (20 : Nat) < 10 ^ 12 := by decide
    omega
  · have a := up_len (up_nodup up) inn
    have b := t.sz_lv
    have c := f.size
    omega
theorem Nest.Sub.lv_in {s t : Nest} (h : Nest.Sub s t) : ∀ z ∈ s.lv, z ∈ t.lv := by
  induction h with
  | refl => exact fun z hz => hz
  | left _ ih => exact fun z hz => List.mem_append_left _ (ih z hz)
  | right _ ih => exact fun z hz => List.mem_append_right _ (ih z hz)
theorem full_half {t : Nest} {n : Nat} (f : t.Full n) (h : n ≤ 20) : ∀ c ∈ t.halves, Hlf t.lots c := fun c hc => by
  obtain ⟨l, r, s, rfl⟩ := Nest.halves_sub hc
  obtain ⟨a, b⟩ := parts_all f.nodup s
  refine ⟨s.lot, a, b, fun q hq => ?_⟩
  have hl : Nest.Sub l t := (Nest.Sub.left (.refl _)).trans s
  have hr : Nest.Sub r t := (Nest.Sub.right (.refl _)).trans s
  have one : ∀ x : Nest, Nest.Sub x t → Smalls x.folk ∧ x.folk.length ≤ 20 := fun x hx => full_small f h (fun z hz => hx.lv_in z (Nest.folk_mem.mp hz)) (Nest.folk_up (hx.nodup f.nodup))
  rcases two_perm l r with e | e <;> rw [e] at hq <;> simp only [List.mem_cons, List.not_mem_nil, or_false] at hq <;> rcases hq with rfl | rfl
  · exact one _ hl
  · exact one _ hr
  · exact one _ hr
  · exact one _ hl
theorem NV.gr {K : PySem.W.Frag} {H H' : Hp} {x : V} {t : Nest} {p : Addr} {m : Int} (n : NV K H x t) (hP : Pch H p m) (g : Gr p H H') : NV K H' x t := by
  induction n with
  | leaf i => exact .leaf i
  | @node t x y l r h _ _ a b =>
    refine .node (g _ _ (fun z => ?_) h) a b
    obtain ⟨_, _, _, q, _⟩ := hP
    rw [← z, h] at q
    cases q
def spRight : Sp := fun vs H Q _ => ∃ (p : Addr) (n m : Int), vs = [.ref p, .int n] ∧ Pch H p m ∧ m < 2 ^ 39 ∧ 1 ≤ n ∧ n ≤ 20 ∧ ∀ H', Pch H' p (m + 1000) → Gr p H H' → Q (.bl true) H'
section
variable {P : Program} {w : World} {K : PySem.W.Frag} {mg : Str → Option Value} {base : Heap}
theorem scRight : FnScope ["pouch", "many", "nest", "lots", "kept", "fresh", "due", "lot", "turn"] ["pouch", "many"] (defScope sRight) := ⟨rfl, rfl, rfl, by decide +kernel, rfl, by decide +kernel, by decide +kernel⟩
theorem ok_right (W : LawF K mg) : FnG P w K mg base CX0 24 W.fRight W.dRight ["pouch", "many"] spRight := by
  have T := W.T.toTxtP
  have GItems : FnOk P w K mg base CX0 2 W.fItems W.dItems ["pouch", "many"] spItems := W.items
  have GNest : FnOk P w K mg base CX0 23 W.fNest W.dNest ["items"] (spNest K) := W.nest
  have GLots : FnOk P w K mg base CX0 22 W.fLots W.dLots ["nest"] (spLots K 19) := W.lots
  have GPs : FnOk P w K mg base CX0 6 W.Z.fPs W.Z.dPs ["parting"] (spPs K) := ok_persons W.Z T
  have GDepth : FnOk P w K mg base CX0 7 W.Y.fDepth W.Y.dDepth ["parting", "person"] (spDepth K) := ok_depth W.Z T W.Y
  have GLR : FnG P w K mg base CX0 8 W.fLR W.dLR ["pouch", "lots", "many"] (spLR K) := ok_LR W
  have GPR : FnG P w K mg base CX0 23 W.fPR W.dPR ["nest", "lots"] (spPR K) := ok_PR W
  refine okG W.FRight scRight (fun vs H Q E h => ?_) (fun cdv A outer s H vs Q E hr noG h => ?_)
  · obtain ⟨p, n, m, rfl, _⟩ := h
    rfl
  · obtain ⟨p, n, m, rfl, hP, hm, n1, n20, kq⟩ := h
    refine ⟨_, (pss_cons (ps_set (i := 2) scRight.nd rfl (.inl rfl) (pe_call GNest (hr.mono (by decide)) rfl W.gNest W.FNest.kp W.bNest .nil pass0 (pa_cons (pe_call GItems (hr.mono (by decide)) rfl W.gItems W.FItems.kp W.bItems .nil pass0 (pa_cons (pv 0) (pa_cons (pv 1) pa_nil))) pa_nil)))
      (pss_cons (ps_set (i := 3) scRight.nd rfl (.inl rfl) (pe_call GLots (hr.mono (by decide)) rfl W.gLots W.FLots.kp W.bLots .nil pass0 (pa_cons (pv 2) pa_nil)))
      (pss_cons (ps_set (i := 4) scRight.nd rfl (.inl rfl) (pe_callB (call_reprL noG hr.units) (by rfl) W.T.repr (by decide +kernel) (pa_cons (pv 3) pa_nil)))
      (pss_cons (ps_if (pt_cmpR op_ne (pe_callB (call_reprL noG hr.units) (by rfl) W.T.repr (by decide +kernel) (pa_cons (pe_lst (pa_cons (pe_call GPs (hr.mono (by decide)) rfl W.Z.gPs W.Z.FPs.kp W.Z.bPs .nil pass0 (pa_cons (pv 3) pa_nil)) (pa_cons (pe_callKw GPs (hr.mono (by decide)) rfl W.Z.gPs W.Z.FPs.kp W.kbPs pass0 (pk_cons (pv 3) pk_nil)) pa_nil))) pa_nil)) (pe_callB (call_reprL noG hr.units) (by rfl) W.T.repr (by decide +kernel) (pa_cons (pe_lst (pa_cons (pv 1) (pa_cons (pv 1) pa_nil))) pa_nil)) (nomark _)) (pss_one (ps_ret pe_bl)) pss_nil)
      (pss_cons (ps_for PassesOwn.never rfl (pi_range1 (by rfl) W.T.range (pa_cons (pv 1) pa_nil)) (pg_name (i := 5) scRight.nd rfl (.inr rfl))
      (pss_cons (ps_set (i := 6) scRight.nd rfl (.inl rfl) (pe_callB call_len_seq (by rfl) W.T.len (by decide +kernel) (pa_cons (pe_lc (own := [("lot", 7)]) (g := gName 7)  rfl scRight.nd (pi_list (pv 3)) (blkOk_by (own := [("lot", 7)]) (N := ["pouch", "many", "nest", "lots", "kept", "fresh", "due", "lot", "turn"]) (sc := defScope sRight) (by decide +kernel)) (fun _ _ _ _ _ => pg_name (i := 7) scRight.nd rfl (Or.inl rfl)) (fun _ _ _ _ _ => (pts_one (pt_cmpR (r := rIn K false) (by exact op_in_seq) (pv 5) (pv 7) (by rfl)))) (fun _ _ _ _ _ => (pv 7))) pa_nil)))
      (pss_one (ps_if (pt_cmpR op_ne (pe_callB (call_reprL noG hr.units) (by rfl) W.T.repr (by decide +kernel) (pa_cons (pe_lst (pa_cons (pe_call GDepth (hr.mono (by decide)) rfl W.Y.gDepth W.Y.FDepth.kp W.Y.bDepth .nil pass0 (pa_cons (pv 3) (pa_cons (pv 5) pa_nil))) (pa_cons (pe_callKw GDepth (hr.mono (by decide)) rfl W.Y.gDepth W.Y.FDepth.kp W.kbDepth pass0 (pk_cons (pv 5) (pk_cons (pv 3) pk_nil))) pa_nil))) pa_nil)) (pe_callB (call_reprL noG hr.units) (by rfl) W.T.repr (by decide +kernel) (pa_cons (pe_lst (pa_cons (pv 6) (pa_cons (pv 6) pa_nil))) pa_nil)) (nomark _)) (pss_one (ps_ret pe_bl)) pss_nil))))
      (pss_cons (ps_for PassesOwn.never rfl (pi_range1 (by rfl) W.T.range (pa_cons (pe_op op_mul pe_int (pe_callTy call_int1 (by rfl) W.T.int (by decide +kernel) (pa_cons (pe_cmpR op_gt (pv 1) pe_int (nomark _)) pa_nil))) pa_nil)) (pg_name (i := 8) scRight.nd rfl (.inl rfl))
      (pss_one (ps_if (pt_not (pt_val (pe_callG GLR (hr.mono (by decide)) noG rfl W.gLR W.FLR.kp W.bLR .nil pass0 (pa_cons (pv 0) (pa_cons (pv 3) (pa_cons (pv 1) pa_nil)))))) (pss_one (ps_ret pe_bl)) pss_nil)))
      (pss_one (ps_ret (pe_and (pe_callG GPR (hr.mono (by decide)) noG rfl W.gPR W.FPR.kp W.bPR .nil pass0 (pa_cons (pv 2) (pa_cons (pv 3) pa_nil))) (pe_one (pe_cmpR op_eq (pe_callB (call_reprL noG hr.units) (by rfl) W.T.repr (by decide +kernel) (pa_cons (pv 3) pa_nil)) (pv 4) (nomark _)))))))))))), ?_⟩
    refine ⟨_, rfl, _, rfl, p, n, m, rfl, hP, by omega, by omega, n20, fun l xs H1 xl hb hP1 g1 nl el => ⟨l, xs, rfl, SqL.of el, by omega, fun y H2 s2 nv => ?_⟩⟩
    have en : ((xs.length + 1 : Nat) : Int) = n := by omega
    obtain ⟨full, has⟩ := nestN_full xs hb xs.length (Nat.le_refl _)
    have sz := full.size
    have ht := nestN_ht xs xs.length
    refine ⟨_, rfl, y, _, rfl, nv, by omega, by omega, fun a cs H3 ec s3 na nw nac ea => ?_⟩
    have lots_len := (nestN xs xs.length).lots_len
    generalize nestN xs xs.length = t at nv full has sz ht ec lots_len
    have csl : cs.length = xs.length := by
      rw [← List.length_map (f := (·.2)) (as := cs), ec]
      omega
    have hn : ((cs.length : Nat) : Int) + 1 = n := by omega
    have hip : isP (cs.map (·.2)) = true := by
      rw [ec]
      exact isP_lots full (by omega)
    have ok := Nest.lot_ok t full.nodup
    have sm : ∀ r ∈ cs.map (·.2), Smalls r ∧ r.length ≤ 20 := fun r hr2 => by
      rw [ec] at hr2
      exact full_small full (by omega) (ok r hr2).1 (ok r hr2).2.2
    have hsz : Sz (cs.map (·.2)) := ⟨by rw [List.length_map]; omega, fun r hr2 => by have := (sm r hr2).2; omega⟩
    have up : (cs.map (·.2)).Pairwise (· < ·) := by
      rw [ec]
      exact strict_rows t.lots_le (Nest.lots_nodup t full.nodup)
    have hh : ∀ c ∈ t.halves, Hlf (cs.map (·.2)) c := by
      rw [ec]
      exact full_half full (by omega)
    have rl : Rl H3 a cs := ⟨ea, nw.lists⟩
    have ap : a ≠ p := pch_ne (hP1.same s2) na
    have cp : ∀ c ∈ cs, c.1 ≠ p := fun c hc => pch_ne (hP1.same s2) (nw.new c hc)
    have g3 : Gr p H H3 := g1.trans (s2.trans s3).gr
    have hP3 := hP1.same (s2.trans s3)
    have nv3 := nv.keep s3
    have br := brief_rows sm
    obtain ⟨u1, u2, u3⟩ := brief_one (a := .list (rowD (cs.map (·.2)))) rfl br (by
      have : (cs.map (·.2)).length * (20 * 42 + 1) ≤ 19 * (20 * 42 + 1) := Nat.mul_le_mul_right _ (by rw [List.length_map]; omega)
      omega)
    have dd : ∀ X, Rl X a cs → DdAll K X (cs.map fun c => V.ref c.1) (rowD (cs.map (·.2))) := fun X r => .of_dp (rows_data (r.rw (K := K)).each)
    have ns : n.natAbs < 10 ^ 12 := by omega
    obtain ⟨w1, w2, w3⟩ := two_ints ns
    refine ⟨_, rfl, a, _, _, rfl, SqL.of rl.top, dd _ rl, u1, u2, u3, ?_⟩
    refine ⟨_, rfl, a, cs, rfl, rl.rw, hsz, hip, fun H4 s4 => ?_⟩
    rw [hn]
    refine ⟨_, rfl, a, cs, rfl, (rl.keep s4).rw, hsz, hip, fun H5 s5 => ?_⟩
    rw [hn]
    refine ⟨(by show 2 ≤ sizeLine; decide), fun q hq => ⟨q, _, [PyData.int n, PyData.int n], rfl, SqL.of upd_same, .of_dp (.cons (.int _) (.cons (.int _) .nil)), w1, w2, w3, _, rfl, _, rfl, (by show 2 ≤ sizeLine; decide), fun q2 hq2 => ⟨q2, _, [PyData.int n, PyData.int n], rfl, SqL.of upd_same, .of_dp (.cons (.int _) (.cons (.int _) .nil)), w1, w2, w3, rfl, _, rfl, ?_⟩⟩⟩
    rw [decide_eq_true rfl]
    have s6 : Grows H3 (upd (upd H5 q (.lst [V.int n, V.int n])) q2 (.lst [V.int n, V.int n])) := (s4.trans s5).trans ((Grows.new hq).trans (Grows.new hq2))
    generalize upd (upd H5 q (.lst [V.int n, V.int n])) q2 (.lst [V.int n, V.int n]) = H6 at s6
    refine iteF ⟨_, rfl, n, rfl, by omega, by omega, for_range (lo := 0) (n := n.toNat) (fun i σ G => ∃ o5 o6 o7, σ = [some (.ref p), some (.int n), some y, some (.ref a), some (.str (PyData.list (rowD (cs.map (·.2)))).shown), o5, o6, o7, none] ∧ Grows H3 G) ⟨_, _, _, rfl, s6⟩ (fun i σ G hi ⟨o5, o6, o7, e, g⟩ => ?_) fun σ G ⟨o5, o6, o7, e, g⟩ => ?_⟩
    · subst e
      have rlG := rl.keep g
      have i1 : (0 : Int) + (i : Nat) < n := by omega
      refine ⟨_, rfl, a, rfl, ⟨_, SqL.of rlG.top⟩, fun D hD => lc_listT (K := K) (fun j => decide ((0 + (i : Nat) : Int) ∈ (cs.getD j (0, [])).2)) (fun j => V.ref (cs.getD j (0, [])).1) hD (SqL.of rlG.top) (by rw [List.length_map]; omega) (fun j x G2 Ry Rn hx s7 ky kn => ?_) fun G2 s7 eD => ?_⟩
      · have il := (List.getElem?_eq_some_iff.mp hx).1
        rw [List.length_map] at il
        obtain rfl := at_map (d := (0, [])) hx
        refine ⟨rfl, _, rfl, _, rfl, _, _, rfl, .inl (((rlG.keep s7).rw (K := K)).at il), rfl, flat_ints _, _, rfl, ?_⟩
        show if (inV (V.int (0 + (i : Nat))) ((cs.getD j (0, [])).2.map V.int)) = true then _ else _
        rw [inV_ints]
        by_cases mm : (0 + (i : Nat) : Int) ∈ (cs.getD j (0, [])).2
        · rw [decide_eq_true mm]
          exact iteT ⟨_, rfl, ky (decide_eq_true mm) _ .refl⟩
        · rw [decide_eq_false mm]
          exact iteF (kn (decide_eq_false mm) _ .refl)
      · rw [List.length_map, kept_rows (fun r => decide ((0 + (i : Nat) : Int) ∈ r)) cs] at eD
        refine ⟨D, _, rfl, .inl (SqL.of eD), ?_⟩
        have ed : ((cs.filter fun b => decide ((0 + (i : Nat) : Int) ∈ b.2)).map fun b => V.ref b.1).length = ((cs.map (·.2)).filter fun r => decide ((0 + (i : Nat) : Int) ∈ r)).length := by
          rw [snd_filter, List.length_map, List.length_map]
        rw [ed]
        have dl : ((cs.map (·.2)).filter fun r => decide ((0 + (i : Nat) : Int) ∈ r)).length ≤ 20 := Nat.le_trans (List.length_filter_le _ _) (by rw [List.length_map]; omega)
        generalize hdue : ((cs.map (·.2)).filter fun r => decide ((0 + (i : Nat) : Int) ∈ r)).length = due at dl
        have big : (20 : Nat) < 10 ^ 12 := by decide
        obtain ⟨x1, x2, x3⟩ := two_ints (i := (due : Nat)) (by omega)
        have rl2 := rlG.keep s7
        refine ⟨_, rfl, _, rfl, a, cs, _, rfl, rl2.rw, hsz, hip, by omega, by omega, fun G3 s8 => ?_⟩
        rw [hdue]
        have rl3 := rl2.keep s8
        refine ⟨_, rfl, _, rfl, a, cs, _, rfl, rl3.rw, hsz, hip, by omega, by omega, fun G4 s9 => ?_⟩
        rw [hdue]
        have s10 := (g.trans s7).trans (s8.trans s9)
        refine ⟨(by show 2 ≤ sizeLine; decide), fun q hq => ⟨q, _, [PyData.int (due : Nat), PyData.int (due : Nat)], rfl, SqL.of upd_same, .of_dp (.cons (.int _) (.cons (.int _) .nil)), x1, x2, x3, _, rfl, _, rfl, (by show 2 ≤ sizeLine; decide), fun q2 hq2 => ⟨q2, _, [PyData.int (due : Nat), PyData.int (due : Nat)], rfl, SqL.of upd_same, .of_dp (.cons (.int _) (.cons (.int _) .nil)), x1, x2, x3, rfl, _, rfl, ?_⟩⟩⟩
        rw [decide_eq_true rfl]
        exact iteF ⟨_, _, _, rfl, s10.trans ((Grows.new hq).trans (Grows.new hq2))⟩
    · subst e
      have rlG := rl.keep g
      have hPG := hP3.same g
      have gG : Gr p H G := g3.trans g.gr
      have cpG := cp
      refine ⟨_, rfl, _, _, rfl, rfl, ?_⟩
      have cnt : ∃ k : Int, (if decide (n > 1) = true then (1 : Int) else 0) = k ∧ (k = 0 ∨ k = 1) ∧ (k = 1 → 2 ≤ n) := by
        by_cases h1 : n > 1
        · exact ⟨1, if_pos (decide_eq_true h1), .inr rfl, fun _ => by omega⟩
        · exact ⟨0, if_neg (by rw [decide_eq_false h1]; exact Bool.false_ne_true), .inl rfl, fun z => by omega⟩
      obtain ⟨k, ek, k01, kn⟩ := cnt
      refine .inr ⟨_, rfl, ?_⟩
      rw [ek]
      refine ⟨5, k, rfl, rfl, (.inl ⟨by decide, by decide⟩), 5 * k, rfl, by omega, by omega, for_range (lo := 0) (n := (5 * k).toNat) (fun i σ X => ∃ o8, σ = [some (.ref p), some (.int n), some y, some (.ref a), some (.str (PyData.list (rowD (cs.map (·.2)))).shown), o5, o6, o7, o8] ∧ Gr p G X ∧ Pch X p (m + 100 + 2 * i)) ⟨_, rfl, .refl, hPG.le (by omega)⟩ (fun i σ X hi ⟨o8, e, gx, hPX⟩ => ?_) fun σ X ⟨o8, e, gx, hPX⟩ => ?_⟩
      · subst e
        have k1 : k = 1 := by rcases k01 with rfl | rfl <;> omega
        have n2 := kn k1
        have rlX : Rl X a cs := ⟨gx _ _ ap rlG.top, fun c hc => gx _ _ (cp c hc) (rlG.each c hc)⟩
        refine ⟨_, rfl, _, rfl, _, rfl, p, a, n, _, cs, rfl, hPX, by omega, n2, n20, ap, rlX, cp, hip, hsz, hn, ?_, up, sm, fun X' hPX' gx' => ⟨_, rfl, _, rfl, gx.trans gx', hPX'.le (by omega)⟩⟩
        cases t with
        | leaf j =>
          have : (1 : Nat) = xs.length + 1 := sz
          omega
        | node l r =>
          refine ⟨(Nest.node l r).folk, by rw [ec]; exact Nest.lots_mem.mpr (.inl rfl), fun x x0 x1 => ?_⟩
          have := has x.toNat (by omega)
          rw [show ((x.toNat : Nat) : Int) = x by omega] at this
          exact Nest.folk_mem.mpr this
      · subst e
        have rlX : Rl X a cs := ⟨gx _ _ ap rlG.top, fun c hc => gx _ _ (cp c hc) (rlG.each c hc)⟩
        refine ⟨_, rfl, _, rfl, y, t, a, cs, rfl, (nv3.keep g).gr hPG gx, by omega, by omega, rlX, hip, hsz, hh, fun Z gz => ⟨_, rfl, ?_⟩⟩
        rw [if_pos rfl]
        refine ⟨_, rfl, a, _, _, rfl, SqL.of (rlX.keep gz).top, dd _ (rlX.keep gz), u1, u2, u3, _, rfl, rfl, ?_⟩
        rw [decide_eq_true rfl]
        refine kq _ ((hPX.same gz).le ?_) ((gG.trans gx).trans gz.gr)
        rcases k01 with rfl | rfl <;> simp <;> omega
end
end K02

namespace K02
open PySem PySem.Spec PyProof.Rows L2 SortR LcM RepA
abbrev sLaw : Stmt := top 38
def spLaw (K : PySem.W.Frag) : Sp := fun vs H Q _ => ∃ (a : Addr) (ns : List Int), vs = [.ref a] ∧ SqL K H a (ns.map V.int) ∧ ns.length ≤ 63 ∧ ∀ H', Q (.bl true) H'
theorem mm (k : Int) : ∃ J : Int, 1 ≤ J ∧ J ≤ 4 ∧ (if (if k < 4 then k else 4) > 1 then (if k < 4 then k else 4) else 1) = J := by
  refine ⟨_, ?_, ?_, rfl⟩
  · split <;> omega
  · split <;> split <;> omega
theorem gr_grows {sd : Addr} {H H0 H1 G : Hp} (g0 : Grows H H0) (n : H sd = none) (g : Gr sd H1 G) (g1 : Grows H0 H1) : Grows H G := fun b o e => g b o (fun z => by rw [z, n] at e; cases e) (g1 _ _ (g0 b o e))
abbrev four : List (List Int) := [[0, 1], [0, 1, 2, 3], [2, 3]]
def chain : List (List Int) := (List.range 19).map fun i => rng (2 + (i : Nat))
theorem four_is : isP four = true := by decide +kernel
theorem chain_is : isP chain = true := by decide +kernel
theorem four_sz : Sz four := ⟨by decide, by decide⟩
theorem chain_sz : Sz chain := by
  have h : (chain.length ≤ 1000 && chain.all fun r => decide (r.length ≤ 1000)) = true := by decide +kernel
  rw [Bool.and_eq_true, decide_eq_true_eq, List.all_eq_true] at h
  exact ⟨h.1, fun r hr => of_decide_eq_true (h.2 r hr)⟩
theorem f1 : [firR four [0, 1, 2, 3], secR four [0, 1, 2, 3]] = [[0, 1], [2, 3]] := by decide +kernel
theorem f2 : secR four [0, 1, 2, 3] = [2, 3] := by decide +kernel
theorem f3 : secR four [2, 3] = [3] := by decide +kernel
theorem f4 : (four.filter fun r => decide ((0 : Int) ∈ r)).length = 2 := by decide +kernel
theorem c1 : (chain.filter fun r => decide ((0 : Int) ∈ r)).length = 19 := by decide +kernel
theorem c2 : (chain.filter fun r => decide ((19 : Int) ∈ r)).length = 1 := by decide +kernel
theorem c3 : (chain.filter fun r => decide ((7 : Int) ∈ r)).length = 13 := by decide +kernel
theorem c4 : secR chain (rng 20) = [19] := by decide +kernel
theorem c5 : rng 20 ∈ chain := by decide +kernel
theorem c6 : rng 12 ∈ has2 3 11 chain := by decide +kernel
theorem c7 : ∀ x ∈ has2 3 11 chain, (rng 12).length < x.length ∨ ((rng 12).length = x.length ∧ rng 12 ≤ x) := by decide +kernel
theorem c8 : (has2 3 11 chain).Pairwise (· < ·) := by decide +kernel
theorem one_is : isP [[0, 1]] = true := by decide +kernel
theorem one_parts : [firR [[0, 1]] [0, 1], secR [[0, 1]] [0, 1]] = [[0], [1]] := by decide +kernel
abbrev due1 : PyData := .list [.list (rowD [[0, 1], [2, 3]]), .int 2, .int 3, .int 2]
theorem due1_eq : PyData.eqv due1 due1 = true := by decide +kernel
theorem due1_shaped : SeqAt.shaped due1 = true := by decide +kernel
abbrev due2 : PyData := .list [.int 19, .int 1, .int 13, .int 19, .list ((rng 12).map .int)]
theorem due2_eq : PyData.eqv due2 due2 = true := by decide +kernel
theorem due2_shaped : SeqAt.shaped due2 = true := by decide +kernel
theorem due3_eq : PyData.eqv (.list (rowD [[0], [1]])) (.list (rowD [[0], [1]])) = true := by decide +kernel
section
variable {P : Program} {w : World} {K : PySem.W.Frag} {mg : Str → Option Value} {base : Heap}
theorem scLaw : FnScope ["script", "at", "pouch", "many", "four", "chain", "fresh", "found"] ["script"] (defScope sLaw) := ⟨rfl, rfl, rfl, by decide +kernel, rfl, by decide +kernel, by decide +kernel⟩
theorem ok_law {f : Addr} {fd : FuncData} (F : Fun K "law" "law" sLaw f fd) (W : LawF K mg) : FnG P w K mg base CX0 25 f fd ["script"] (spLaw K) := by
  have T := W.T.toTxtP
  have GPouch : FnOk P w K mg base CX0 1 W.fPouch W.dPouch ["script", "at"] (spPouch K) := W.pouch
  have GDip : FnOk P w K mg base CX0 1 W.fDip W.dDip ["pouch", "wide"] spDip := W.dip
  have GRight : FnG P w K mg base CX0 24 W.fRight W.dRight ["pouch", "many"] spRight := ok_right W
  have GPs : FnOk P w K mg base CX0 6 W.Z.fPs W.Z.dPs ["parting"] (spPs K) := ok_persons W.Z T
  have GParts : FnOk P w K mg base CX0 8 W.Y.fParts W.Y.dParts ["parting", "group"] (spParts K) := ok_parts W.Z T W.Y
  have GMaker : FnOk P w K mg base CX0 8 W.Y.fMaker W.Y.dMaker ["parting", "group"] (spMaker K) := ok_maker W.Z T W.Y
  have GDepth : FnOk P w K mg base CX0 7 W.Y.fDepth W.Y.dDepth ["parting", "person"] (spDepth K) := ok_depth W.Z T W.Y
  have GLeast : FnOk P w K mg base CX0 7 W.Y.fLeast W.Y.dLeast ["parting", "one", "other"] (spLeast K) := ok_least W.Z T W.T.toTxt0 W.Y
  refine okG F scLaw (fun vs H Q E h => ?_) (fun cdv A outer s H vs Q E hr noG h => ?_)
  · obtain ⟨a, ns, rfl, _⟩ := h
    rfl
  · obtain ⟨a, ns, rfl, hS, hl, kq⟩ := h
    refine ⟨_, (pss_cons (ps_for PassesOwn.never rfl (pi_range1 (by rfl) W.T.range (pa_cons (pe_callB (call_max2 rfl) (by rfl) W.T.max (by decide +kernel) (pa_cons pe_int (pa_cons (pe_callB (call_min2 rfl) (by rfl) W.T.min (by decide +kernel) (pa_cons pe_int (pa_cons (pe_callB call_len_seq (by rfl) W.T.len (by decide +kernel) (pa_cons (pv 0) pa_nil)) pa_nil))) pa_nil))) pa_nil)) (pg_name (i := 1) scLaw.nd rfl (.inl rfl))
      (pss_cons (ps_set (i := 2) scLaw.nd rfl (.inl rfl) (pe_call GPouch (hr.mono (by decide)) rfl W.gPouch W.FPouch.kp W.bPouch .nil pass0 (pa_cons (pv 0) (pa_cons (pv 1) pa_nil))))
      (pss_one (ps_for PassesOwn.never rfl (pi_tup (pe_tup (pa_cons pe_int (pa_cons pe_int (pa_cons pe_int (pa_cons pe_int (pa_cons (pe_op op_add pe_int (pe_call GDip (hr.mono (by decide)) rfl W.gDip W.FDip.kp W.bDip .nil pass0 (pa_cons (pv 2) (pa_cons pe_int pa_nil)))) pa_nil))))))) (pg_name (i := 3) scLaw.nd rfl (.inl rfl))
      (pss_one (ps_if (pt_not (pt_val (pe_callG GRight (hr.mono (by decide)) noG rfl W.gRight W.FRight.kp W.bRight .nil pass0 (pa_cons (pv 2) (pa_cons (pv 3) pa_nil))))) (pss_one (ps_ret pe_bl)) pss_nil))))))
      (pss_cons (ps_par (i := 4) (j := 5) (by rfl) scLaw.nd rfl rfl (by decide) rfl rfl (pa_cons (pe_lst (pa_cons (pe_lst (pa_cons pe_int (pa_cons pe_int pa_nil))) (pa_cons (pe_lst (pa_cons pe_int (pa_cons pe_int (pa_cons pe_int (pa_cons pe_int pa_nil))))) (pa_cons (pe_lst (pa_cons pe_int (pa_cons pe_int pa_nil))) pa_nil)))) (pa_cons (pe_lc (own := [("fresh", 6)]) (g := gName 6) (tt := tYes) rfl scLaw.nd (pi_range2 (by rfl) W.T.range (pa_cons pe_int (pa_cons pe_int pa_nil))) (blkOk_by (own := [("fresh", 6)]) (N := ["script", "at", "pouch", "many", "four", "chain", "fresh", "found"]) (sc := defScope sLaw) (by decide +kernel)) (fun _ _ _ _ _ => pg_name (i := 6) scLaw.nd rfl (Or.inl rfl)) (fun _ _ _ _ _ => pts_nil) (fun _ _ _ _ _ => (pe_listRg rfl (by rfl) W.T.list (prg_1 (by rfl) W.T.range (pv 6))))) pa_nil)) (by rfl))
      (pss_cons (ps_set (i := 7) scLaw.nd rfl (.inl rfl) (pe_lst (pa_cons (pe_call GParts (hr.mono (by decide)) rfl W.Y.gParts W.Y.FParts.kp W.Y.bParts .nil pass0 (pa_cons (pv 4) (pa_cons (pe_lst (pa_cons pe_int (pa_cons pe_int (pa_cons pe_int (pa_cons pe_int pa_nil))))) pa_nil))) (pa_cons (pe_call GMaker (hr.mono (by decide)) rfl W.Y.gMaker W.Y.FMaker.kp W.Y.bMaker .nil pass0 (pa_cons (pv 4) (pa_cons (pe_lst (pa_cons pe_int (pa_cons pe_int (pa_cons pe_int (pa_cons pe_int pa_nil))))) pa_nil))) (pa_cons (pe_call GMaker (hr.mono (by decide)) rfl W.Y.gMaker W.Y.FMaker.kp W.Y.bMaker .nil pass0 (pa_cons (pv 4) (pa_cons (pe_lst (pa_cons pe_int (pa_cons pe_int pa_nil))) pa_nil))) (pa_cons (pe_call GDepth (hr.mono (by decide)) rfl W.Y.gDepth W.Y.FDepth.kp W.Y.bDepth .nil pass0 (pa_cons (pv 4) (pa_cons pe_int pa_nil))) pa_nil))))))
      (pss_cons (ps_if (pt_cmpR (op_neD hr.units) (pv 7) (pe_lst (pa_cons (pe_lst (pa_cons (pe_lst (pa_cons pe_int (pa_cons pe_int pa_nil))) (pa_cons (pe_lst (pa_cons pe_int (pa_cons pe_int pa_nil))) pa_nil))) (pa_cons pe_int (pa_cons pe_int (pa_cons pe_int pa_nil))))) (nomark _)) (pss_one (ps_ret pe_bl)) pss_nil)
      (pss_cons (ps_set (i := 7) scLaw.nd rfl (.inl rfl) (pe_lst (pa_cons (pe_call GDepth (hr.mono (by decide)) rfl W.Y.gDepth W.Y.FDepth.kp W.Y.bDepth .nil pass0 (pa_cons (pv 5) (pa_cons pe_int pa_nil))) (pa_cons (pe_call GDepth (hr.mono (by decide)) rfl W.Y.gDepth W.Y.FDepth.kp W.Y.bDepth .nil pass0 (pa_cons (pv 5) (pa_cons pe_int pa_nil))) (pa_cons (pe_call GDepth (hr.mono (by decide)) rfl W.Y.gDepth W.Y.FDepth.kp W.Y.bDepth .nil pass0 (pa_cons (pv 5) (pa_cons pe_int pa_nil))) (pa_cons (pe_call GMaker (hr.mono (by decide)) rfl W.Y.gMaker W.Y.FMaker.kp W.Y.bMaker .nil pass0 (pa_cons (pv 5) (pa_cons (pe_listRg rfl (by rfl) W.T.list (prg_1 (by rfl) W.T.range pe_int)) pa_nil))) pa_nil))))))
      (pss_cons (ps_expr (pe_bm PySem.F.plainAttrs_list PySem.F.slot_list_append PySem.F.type_list_append mt_append (pv 7) (pa_cons (pe_call GLeast (hr.mono (by decide)) rfl W.Y.gLeast W.Y.FLeast.kp W.Y.bLeast .nil pass0 (pa_cons (pv 5) (pa_cons pe_int (pa_cons pe_int pa_nil)))) pa_nil)))
      (pss_cons (ps_if (PW.pt (pw_or (pt_cmpR (op_neD hr.units) (pv 7) (pe_lst (pa_cons pe_int (pa_cons pe_int (pa_cons pe_int (pa_cons pe_int (pa_cons (pe_listRg rfl (by rfl) W.T.list (prg_1 (by rfl) W.T.range pe_int)) pa_nil)))))) (nomark _)) (pw_or1 (pt_cmpR op_ne (pe_call GPs (hr.mono (by decide)) rfl W.Z.gPs W.Z.FPs.kp W.Z.bPs .nil pass0 (pa_cons (pv 5) pa_nil)) pe_int (nomark _))))) (pss_one (ps_ret pe_bl)) pss_nil)
      (pss_one (ps_ret (pe_cmpR (op_eqD hr.units) (pe_call GParts (hr.mono (by decide)) rfl W.Y.gParts W.Y.FParts.kp W.Y.bParts .nil pass0 (pa_cons (pe_lst (pa_cons (pe_lst (pa_cons pe_int (pa_cons pe_int pa_nil))) pa_nil)) (pa_cons (pe_lst (pa_cons pe_int (pa_cons pe_int pa_nil))) pa_nil))) (pe_lst (pa_cons (pe_lst (pa_cons pe_int pa_nil)) (pa_cons (pe_lst (pa_cons pe_int pa_nil)) pa_nil))) (nomark _))))))))))), ?_⟩
    obtain ⟨J, J1, J4, eJ⟩ := mm ((ns.map V.int).length : Nat)
    refine ⟨_, rfl, a, _, rfl, .inl hS, 4, _, rfl, 1, _, rfl, J, congrArg (fun z => [V.int z]) eJ, by omega, by omega, for_range (fun i σ H' => ∃ o1 o2 o3, σ = [some (.ref a), o1, o2, o3, none, none, none, none] ∧ Grows H H') ⟨none, none, none, rfl, .refl⟩ (fun i σ H1 hi ⟨o1, o2, o3, e, g1⟩ => ?_) fun σ H1 ⟨o1, o2, o3, e, g1⟩ => ?_⟩
    · subst e
      refine ⟨_, rfl, _, rfl, a, _, ns, rfl, g1.seq hS, by omega, by omega, fun p H2 np g2 hP2 => ?_⟩
      have Hp0 : H p = none := none_back g1 np
      have g2' := g1.trans g2
      refine ⟨_, rfl, p, 20, 0, rfl, hP2, by decide, by decide, by decide +kernel, fun v H3 v0 v1 hP3 s3 => ⟨_, _, rfl, rfl, (by show 5 ≤ sizeLine; decide), fun t ht => ⟨t, rfl, ⟨_, SqT.of upd_same⟩, ?_⟩⟩⟩
      have tp : t ≠ p := fun z => by
        obtain ⟨_, _, _, eo, _⟩ := hP3
        rw [z, eo] at ht
        cases ht
      have gp : Gr p H3 (upd H3 t (.tup [V.int 1, V.int 2, V.int 3, V.int 20, V.int (1 + v)])) := (Grows.new ht).gr
      have hPt := hP3.same (Grows.new (o := .tup [V.int 1, V.int 2, V.int 3, V.int 20, V.int (1 + v)]) ht)
      have et : (upd H3 t (.tup [V.int 1, V.int 2, V.int 3, V.int 20, V.int (1 + v)])) t = some (.tup [V.int 1, V.int 2, V.int 3, V.int 20, V.int (1 + v)]) := upd_same
      generalize upd H3 t (.tup [V.int 1, V.int 2, V.int 3, V.int 20, V.int (1 + v)]) = H5 at gp hPt et
      have g25 : Grows H H5 := gr_grows g2' Hp0 (Gr.trans (H1 := H3) (fun b o n e => (s3 b n).trans e) gp) .refl
      refine for_tup (K := K) (xs := [V.int 1, V.int 2, V.int 3, V.int 20, V.int (1 + v)]) (fun j σ G => ∃ o, σ = [some (.ref a), some (.int (0 + (i : Nat))), some (.ref p), o, none, none, none, none] ∧ Gr p H5 G ∧ Pch G p (1 + 1000 * j)) ⟨_, rfl, .refl, hPt.le (by omega)⟩ (fun j σ G _ ⟨_, _, g, _⟩ => SqT.of (g _ _ tp et)) (fun j x σ G hx ⟨o, e, g, hp⟩ => ?_) fun σ G ⟨o, e, g, hp⟩ => ?_
      · subst e
        have hj : j < 5 := (List.getElem?_eq_some_iff.mp hx).1
        obtain ⟨n, rfl, n1, n20⟩ : ∃ n, x = V.int n ∧ 1 ≤ n ∧ n ≤ 20 := by
          have hm := List.mem_of_getElem? hx
          simp only [List.mem_cons, List.not_mem_nil, or_false] at hm
          rcases hm with rfl | rfl | rfl | rfl | rfl <;> exact ⟨_, rfl, by omega, by omega⟩
        exact ⟨_, rfl, _, rfl, p, n, _, rfl, hp, by omega, n1, n20, fun G' hp' gg => ⟨_, rfl, _, rfl, g.trans gg, hp'.le (by omega)⟩⟩
      · exact ⟨_, _, _, e, gr_grows g25 Hp0 g .refl⟩
    · subst e
      refine ⟨(by show 2 ≤ sizeLine; decide), fun x1 h1 => ⟨(by show 4 ≤ sizeLine; decide), fun x2 h2 => ⟨(by show 2 ≤ sizeLine; decide), fun x3 h3 => ⟨(by show 3 ≤ sizeLine; decide), fun x4 h4 => ?_⟩⟩⟩⟩
      have z4 := Grows.new (o := .lst [V.ref x1, V.ref x2, V.ref x3]) h4
      have z3 := (Grows.new (o := .lst [V.int 2, V.int 3]) h3).trans z4
      have z2 := (Grows.new (o := .lst [V.int 0, V.int 1, V.int 2, V.int 3]) h2).trans z3
      have rf : Rl (upd (upd (upd (upd H1 x1 (.lst [V.int 0, V.int 1])) x2 (.lst [V.int 0, V.int 1, V.int 2, V.int 3])) x3 (.lst [V.int 2, V.int 3])) x4 (.lst [V.ref x1, V.ref x2, V.ref x3])) x4 [(x1, [0, 1]), (x2, [0, 1, 2, 3]), (x3, [2, 3])] := ⟨upd_same, fun c hc => by
        simp only [List.mem_cons, List.not_mem_nil, or_false] at hc
        rcases hc with rfl | rfl | rfl
        · exact z2 _ _ upd_same
        · exact z3 _ _ upd_same
        · exact z4 _ _ upd_same⟩
      generalize upd (upd (upd (upd H1 x1 (.lst [V.int 0, V.int 1])) x2 (.lst [V.int 0, V.int 1, V.int 2, V.int 3])) x3 (.lst [V.int 2, V.int 3])) x4 (.lst [V.ref x1, V.ref x2, V.ref x3]) = B0 at rf
      refine ⟨2, 21, rfl, ⟨by decide, by decide, by decide, by decide⟩, fun D hD => lc_range (lo := 2) (n := 19) (fun i G => ∃ cs : List (Addr × List Int), Grows B0 G ∧ cs.map (·.2) = (List.range i).map (fun j => rng (2 + (j : Nat))) ∧ Rl G D cs ∧ ∀ c ∈ cs, c.1 ≠ D) ⟨[], Grows.new hD, rfl, ⟨upd_same, fun _ h => nomatch h⟩, fun _ h => nomatch h⟩ (fun i G hi ⟨cs, g, ec, rl, ne⟩ => ?_) fun G ⟨cs, g, ec, rl, ne⟩ => ?_⟩
      · have lc : cs.length = i := by
          have := congrArg List.length ec
          rw [List.length_map, List.length_map, List.length_range] at this
          exact this
        refine ⟨rfl, _, rfl, _, rfl, .of_le (by decide) (by omega) (by decide) (by omega), fun q hq => ?_⟩
        rw [rg_ints]
        have qD : q ≠ D := (ne_of_none rl.top hq).symm
        have gq : Grows G (upd G q (.lst ((rng (2 + (i : Nat))).map V.int))) := Grows.new hq
        refine ⟨_, gq _ _ rl.top, ?_, cs ++ [(q, rng (2 + (i : Nat)))], grows_off (g.trans gq) hD, ?_, ⟨?_, fun c hc => ?_⟩, fun c hc => ?_⟩
        · rw [List.length_map, lc]
          exact small1000 (by omega)
        · rw [List.map_append, ec, List.range_succ, List.map_append]
          rfl
        · rw [upd_same, List.map_append]
          rfl
        · rcases List.mem_append.mp hc with m | m
          · rw [upd_ne (ne c m)]
            exact gq _ _ (rl.each c m)
          · rw [List.mem_singleton.mp m, upd_ne qD]
            exact upd_same
        · rcases List.mem_append.mp hc with m | m
          · exact ne c m
          · rw [List.mem_singleton.mp m]
            exact qD
      · have rf1 := rf.keep g
        have ec : cs.map (·.2) = chain := ec
        have csz : Sz (cs.map (·.2)) := by rw [ec]; exact chain_sz
        have cis : isP (cs.map (·.2)) = true := by rw [ec]; exact chain_is
        have clen : cs.length = 19 := by
          have := congrArg List.length ec
          rw [List.length_map] at this
          exact this
        have hfs : ([(x1, [0, 1]), (x2, [0, 1, 2, 3]), (x3, [2, 3])] : List (Addr × List Int)).map (·.2) = four := rfl
        have hfl : ([(x1, [0, 1]), (x2, [0, 1, 2, 3]), (x3, [2, 3])] : List (Addr × List Int)).length = 3 := rfl
        generalize [(x1, ([0, 1] : List Int)), (x2, [0, 1, 2, 3]), (x3, [2, 3])] = fs at rf1 hfs hfl
        have fsz : Sz (fs.map (·.2)) := by rw [hfs]; exact four_sz
        have fis : isP (fs.map (·.2)) = true := by rw [hfs]; exact four_is
        refine ⟨_, _, rfl, ?_⟩
        refine ⟨_, rfl, (by show 4 ≤ sizeLine; decide), fun y1 k1 => ⟨x4, y1, fs, [0, 1, 2, 3], rfl, (rf1.keep (Grows.new k1)).rw, fsz, fis, SqL.of upd_same, by rw [hfs]; decide, fun p1 q1 r1 G1 g1 t1 => ?_⟩⟩
        have s1 := (Grows.new (o := .lst [V.int 0, V.int 1, V.int 2, V.int 3]) k1).trans g1
        refine ⟨_, rfl, (by show 4 ≤ sizeLine; decide), fun y2 k2 => ⟨x4, y2, fs, [0, 1, 2, 3], rfl, ((rf1.keep s1).keep (Grows.new k2)).rw, fsz, fis, SqL.of upd_same, by rw [hfs]; decide, by rw [hfs, f2]; exact fun z => (nomatch z), fun G2 g2 => ?_⟩⟩
        rw [hfs, f2]
        have s2 := (Grows.new (o := .lst [V.int 0, V.int 1, V.int 2, V.int 3]) k2).trans g2
        refine ⟨_, rfl, (by show 2 ≤ sizeLine; decide), fun y3 k3 => ⟨x4, y3, fs, [2, 3], rfl, (((rf1.keep s1).keep s2).keep (Grows.new k3)).rw, fsz, fis, SqL.of upd_same, by rw [hfs]; decide, by rw [hfs, f3]; exact fun z => (nomatch z), fun G3 g3 => ?_⟩⟩
        rw [hfs, f3]
        have s3 := (Grows.new (o := .lst [V.int 2, V.int 3]) k3).trans g3
        refine ⟨_, rfl, x4, fs, 0, rfl, (((rf1.keep s1).keep s2).keep s3).rw, fsz, fis, by decide, by omega, fun G4 g4 => ?_⟩
        rw [hfs, f4]
        refine ⟨(by show 4 ≤ sizeLine; decide), fun fo hfo => ?_⟩
        rw [hfs] at t1
        have f1a : firR four [0, 1, 2, 3] = [0, 1] := (List.cons.inj f1).1
        rw [f1a, f2] at t1
        have gfo := Grows.new (o := .lst [V.ref p1, V.int 2, V.int 3, V.int 2]) hfo
        refine ⟨_, rfl, (by show 2 ≤ sizeLine; decide), fun z1 j1 => ⟨(by show 2 ≤ sizeLine; decide), fun z2 j2 => ⟨(by show 2 ≤ sizeLine; decide), fun z3 j3 => ⟨(by show 4 ≤ sizeLine; decide), fun z4 j4 => ?_⟩⟩⟩⟩
        have w4 := Grows.new (o := .lst [V.ref z3, V.int 2, V.int 3, V.int 2]) j4
        have w3 := (Grows.new (o := .lst [V.ref z1, V.ref z2]) j3).trans w4
        have w2 := (Grows.new (o := .lst [V.int 2, V.int 3]) j2).trans w3
        have w1 := (Grows.new (o := .lst [V.int 0, V.int 1]) j1).trans w2
        have s4 := g.trans (s1.trans (s2.trans (s3.trans (g4.trans (gfo.trans w1)))))
        refine ⟨due1, due1, ?_, ?_, due1_shaped, due1_shaped, _, rfl, ?_⟩
        · refine .lst (SqL.of (w1 _ _ upd_same)) (.cons (Two.dp (t1.on (s2.trans (s3.trans (g4.trans (gfo.trans w1)))))) (.cons (.int 2) (.cons (.int 3) (.cons (.int 2) .nil))))
        · refine .lst (SqL.of upd_same) (.cons (.lst (SqL.of (w4 _ _ upd_same)) (.cons (.lst (SqL.of (w2 _ _ upd_same)) (rows_dp [0, 1])) (.cons (.lst (SqL.of (w3 _ _ upd_same)) (rows_dp [2, 3])) .nil))) (.cons (.int 2) (.cons (.int 3) (.cons (.int 2) .nil))))
        rw [due1_eq]
        have rl4 := rl.keep (s1.trans (s2.trans (s3.trans (g4.trans (gfo.trans w1)))))
        generalize upd (upd (upd (upd (upd G4 fo (.lst [V.ref p1, V.int 2, V.int 3, V.int 2])) z1 (.lst [V.int 0, V.int 1])) z2 (.lst [V.int 2, V.int 3])) z3 (.lst [V.ref z1, V.ref z2])) z4 (.lst [V.ref z3, V.int 2, V.int 3, V.int 2]) = C0 at rl4
        refine iteF ⟨_, rfl, D, cs, 0, rfl, rl4.rw, csz, cis, by decide, by omega, fun C1 e1 => ?_⟩
        rw [ec, c1]
        have rl5 := rl4.keep e1
        refine ⟨_, rfl, D, cs, 19, rfl, rl5.rw, csz, cis, by decide, by omega, fun C2 e2 => ?_⟩
        rw [ec, c2]
        have rl6 := rl5.keep e2
        refine ⟨_, rfl, D, cs, 7, rfl, rl6.rw, csz, cis, by decide, by omega, fun C3 e3 => ?_⟩
        rw [ec, c3]
        have rl7 := rl6.keep e3
        refine ⟨_, rfl, 20, rfl, .of_le (by decide) (by decide) (by decide) (by decide), fun q hq => ?_⟩
        rw [rg_ints]
        have gq := Grows.new (o := .lst (((List.range (20 : Int).toNat).map fun i => (0 + (i : Nat) : Int)).map V.int)) hq
        refine ⟨D, q, cs, rng 20, rfl, (rl7.keep gq).rw, csz, cis, SqL.of upd_same, by rw [ec]; exact c5, by rw [ec, c4]; exact fun z => (nomatch z), fun C4 e4 => ?_⟩
        rw [ec, c4]
        have rl8 := (rl7.keep gq).keep e4
        refine ⟨(by show 4 ≤ sizeLine; decide), fun fo2 hfo2 => ?_⟩
        have gf2 := Grows.new (o := .lst [V.int 19, V.int 1, V.int 13, V.int 19]) hfo2
        have efo2 : (upd C4 fo2 (.lst [V.int 19, V.int 1, V.int 13, V.int 19])) fo2 = some (.lst [V.int 19, V.int 1, V.int 13, V.int 19]) := upd_same
        have rl9 := rl8.keep gf2
        refine ⟨_, rfl, .inl ⟨rfl, _, SqL.of efo2⟩, _, rfl, D, cs, 3, 11, rfl, rl9.rw, csz, cis, by decide, by omega, by decide, by omega, by decide, by rw [ec]; exact fun z => (by have := c6; rw [z] at this; cases this), fun p2 r2 C5 e5 np2 ep2 mn2 => ?_⟩
        rw [ec] at mn2
        have er2 := least_same c8 mn2 c6 c7
        rw [er2] at ep2
        have efo3 := e5 _ _ efo2
        refine ⟨fo2, _, _, rfl, rfl, efo3, (by show 4 < sizeLine; decide), ?_⟩
        have p2fo : p2 ≠ fo2 := (ne_of_none efo2 np2).symm
        have rlA : Rl (upd C5 fo2 (.lst ([V.int 19, V.int 1, V.int 13, V.int 19] ++ [V.ref p2]))) D cs := (rl8.keep (grows_off (gf2.trans e5) hfo2))
        have epA : (upd C5 fo2 (.lst ([V.int 19, V.int 1, V.int 13, V.int 19] ++ [V.ref p2]))) p2 = _ := (upd_ne p2fo).trans ep2
        have efA : (upd C5 fo2 (.lst ([V.int 19, V.int 1, V.int 13, V.int 19] ++ [V.ref p2]))) fo2 = some (.lst [V.int 19, V.int 1, V.int 13, V.int 19, V.ref p2]) := upd_same
        generalize upd C5 fo2 (.lst ([V.int 19, V.int 1, V.int 13, V.int 19] ++ [V.ref p2])) = C6 at rlA epA efA
        refine ⟨_, rfl, 12, rfl, .of_le (by decide) (by decide) (by decide) (by decide), fun r hr2 => ?_⟩
        rw [rg_ints]
        have gr2 := Grows.new (o := .lst (((List.range (12 : Int).toNat).map fun i => (0 + (i : Nat) : Int)).map V.int)) hr2
        have er : (upd C6 r (.lst (((List.range (12 : Int).toNat).map fun i => (0 + (i : Nat) : Int)).map V.int))) r = some (.lst ((rng 12).map V.int)) := upd_same
        have rlB := rlA.keep gr2
        have epB := gr2 _ _ epA
        have efB := gr2 _ _ efA
        generalize upd C6 r (.lst (((List.range (12 : Int).toNat).map fun i => (0 + (i : Nat) : Int)).map V.int)) = C7 at er rlB epB efB
        refine ⟨(by show 5 ≤ sizeLine; decide), fun dl hdl => ?_⟩
        have gdl := Grows.new (o := .lst [V.int 19, V.int 1, V.int 13, V.int 19, V.ref r]) hdl
        have rlC := rlB.keep gdl
        refine ⟨due2, due2, .lst (SqL.of (gdl _ _ efB)) (.cons (.int _) (.cons (.int _) (.cons (.int _) (.cons (.int _) (.cons (.lst (SqL.of (gdl _ _ epB)) (rows_dp (rng 12))) .nil))))), .lst (SqL.of upd_same) (.cons (.int _) (.cons (.int _) (.cons (.int _) (.cons (.int _) (.cons (.lst (SqL.of (gdl _ _ er)) (rows_dp (rng 12))) .nil))))), due2_shaped, due2_shaped, _, rfl, ?_⟩
        rw [due2_eq]
        refine iteF ⟨_, rfl, D, cs, rfl, rlC.rw, csz, cis, fun C8 e8 => ?_⟩
        rw [clen]
        refine ⟨rfl, _, rfl, ?_⟩
        rw [decide_eq_true (show V.int (((19 : Nat) : Int) + 1) = V.int 20 from rfl)]
        refine iteF ⟨(by show 2 ≤ sizeLine; decide), fun m1 n1 => ⟨(by show 1 ≤ sizeLine; decide), fun m2 n2 => ⟨(by show 2 ≤ sizeLine; decide), fun m3 n3 => ?_⟩⟩⟩
        have q3 := Grows.new (o := .lst [V.int 0, V.int 1]) n3
        have q2 := (Grows.new (o := .lst [V.ref m1]) n2).trans q3
        have ro : Rl (upd (upd (upd C8 m1 (.lst [V.int 0, V.int 1])) m2 (.lst [V.ref m1])) m3 (.lst [V.int 0, V.int 1])) m2 [(m1, [0, 1])] := ⟨q3 _ _ upd_same, fun c hc => by
          rw [List.mem_singleton.mp hc]
          exact q2 _ _ upd_same⟩
        have em3 : (upd (upd (upd C8 m1 (.lst [V.int 0, V.int 1])) m2 (.lst [V.ref m1])) m3 (.lst [V.int 0, V.int 1])) m3 = _ := upd_same
        have hos : ([(m1, [0, 1])] : List (Addr × List Int)).map (·.2) = [[0, 1]] := rfl
        generalize [(m1, ([0, 1] : List Int))] = os at ro hos
        generalize upd (upd (upd C8 m1 (.lst [V.int 0, V.int 1])) m2 (.lst [V.ref m1])) m3 (.lst [V.int 0, V.int 1]) = C9 at ro em3
        refine ⟨m2, m3, os, [0, 1], rfl, ro.rw, by rw [hos]; exact ⟨by decide, by decide⟩, by rw [hos]; exact one_is, SqL.of em3, by rw [hos]; decide, fun p9 q9 r9 CA ea t9 => ?_⟩
        rw [hos] at t9
        have o1a : firR [[0, 1]] [0, 1] = [0] := (List.cons.inj one_parts).1
        have o1b : secR [[0, 1]] [0, 1] = [1] := (List.cons.inj (List.cons.inj one_parts).2).1
        rw [o1a, o1b] at t9
        refine ⟨(by show 1 ≤ sizeLine; decide), fun b1 d1 => ⟨(by show 1 ≤ sizeLine; decide), fun b2 d2 => ⟨(by show 2 ≤ sizeLine; decide), fun b3 d3 => ?_⟩⟩⟩
        have l3 := Grows.new (o := .lst [V.ref b1, V.ref b2]) d3
        have l2 := (Grows.new (o := .lst [V.int 1]) d2).trans l3
        have l1 := (Grows.new (o := .lst [V.int 0]) d1).trans l2
        refine ⟨.list (rowD [[0], [1]]), .list (rowD [[0], [1]]), (t9.on l1).dp, .lst (SqL.of upd_same) (.cons (.lst (SqL.of (l2 _ _ upd_same)) (rows_dp [0])) (.cons (.lst (SqL.of (l3 _ _ upd_same)) (rows_dp [1])) .nil)), shaped_rows _, shaped_rows _, ?_⟩
        rw [due3_eq]
        exact kq _
end
end K02

namespace K02
open PySem PySem.Spec PyProof.Rows L2 SortR LcM RepA
theorem vals_rev : ∀ {xs : List V} {us : List Value}, Vals xs us → Vals xs.reverse us.reverse
  | _, _, .nil => .nil
  | _, _, .cons r t => by
    rw [List.reverse_cons, List.reverse_cons]
    exact (vals_rev t).append (.cons r .nil)
theorem kb_two {K : PySem.W.Frag} {fd : FuncData} {x y : Str} (h2 : ∀ (s : Shared) (a b : Value), BindsTo s fd ⟨[], [(y, a), (x, b)]⟩ [(x, b), (y, a)]) (h1 : ∀ (s : Shared) (a b : Value), BindsTo s fd ⟨[b], [(y, a)]⟩ [(x, b), (y, a)]) (h0 : ∀ (s : Shared) (a b : Value), BindsTo s fd ⟨[b, a], []⟩ [(x, b), (y, a)]) :
    KBinds K fd [x, y] [y, x] (fun us ws => us ++ ws.reverse) (fun vs zs => vs ++ zs.reverse) := by
  refine ⟨fun s us ws _ h => ?_, fun r r2 => r.append (vals_rev r2)⟩
  have e : us.length + ws.length = 2 := by simpa using h
  match us, ws, e with
  | [], [_, _], _ => exact h2 _ _ _
  | [_], [_], _ => exact h1 _ _ _
  | [_, _], [], _ => exact h0 _ _ _
  | [], [], e => simp at e
  | [], [_], e => simp at e
  | [], _ :: _ :: _ :: _, e => simp only [List.length_cons, List.length_nil] at e; omega
  | [_], [], e => simp at e
  | [_], _ :: _ :: _, e => simp only [List.length_cons, List.length_nil] at e; omega
  | [_, _], _ :: _, e => simp only [List.length_cons, List.length_nil] at e; omega
  | _ :: _ :: _ :: _, _, e => simp only [List.length_cons, List.length_nil] at e; omega
theorem kb_three {K : PySem.W.Frag} {fd : FuncData} {x y z : Str} (h3 : ∀ (s : Shared) (a b c : Value), BindsTo s fd ⟨[], [(z, c), (y, b), (x, a)]⟩ [(x, a), (y, b), (z, c)]) (h2 : ∀ (s : Shared) (a b c : Value), BindsTo s fd ⟨[a], [(z, c), (y, b)]⟩ [(x, a), (y, b), (z, c)]) (h1 : ∀ (s : Shared) (a b c : Value), BindsTo s fd ⟨[a, b], [(z, c)]⟩ [(x, a), (y, b), (z, c)]) (h0 : ∀ (s : Shared) (a b c : Value), BindsTo s fd ⟨[a, b, c], []⟩ [(x, a), (y, b), (z, c)]) :
    KBinds K fd [x, y, z] [z, y, x] (fun us ws => us ++ ws.reverse) (fun vs zs => vs ++ zs.reverse) := by
  refine ⟨fun s us ws _ h => ?_, fun r r2 => r.append (vals_rev r2)⟩
  have e : us.length + ws.length = 3 := by simpa using h
  match us, ws, e with
  | [], [_, _, _], _ => exact h3 _ _ _ _
  | [_], [_, _], _ => exact h2 _ _ _ _
  | [_, _], [_], _ => exact h1 _ _ _ _
  | [_, _, _], [], _ => exact h0 _ _ _ _
  | [], [], e => simp at e
  | [], [_], e => simp at e
  | [], [_, _], e => simp at e
  | [], _ :: _ :: _ :: _ :: _, e => simp only [List.length_cons, List.length_nil] at e; omega
  | [_], [], e => simp at e
  | [_], [_], e => simp at e
  | [_], _ :: _ :: _ :: _, e => simp only [List.length_cons, List.length_nil] at e; omega
  | [_, _], [], e => simp at e
  | [_, _], _ :: _ :: _, e => simp only [List.length_cons, List.length_nil] at e; omega
  | [_, _, _], _ :: _, e => simp only [List.length_cons, List.length_nil] at e; omega
  | _ :: _ :: _ :: _ :: _, _, e => simp only [List.length_cons, List.length_nil] at e; omega
theorem kb_one {K : PySem.W.Frag} {fd : FuncData} {x : Str} (h1 : ∀ (s : Shared) (a : Value), BindsTo s fd ⟨[], [(x, a)]⟩ [(x, a)]) (h0 : ∀ (s : Shared) (a : Value), BindsTo s fd ⟨[a], []⟩ [(x, a)]) :
    KBinds K fd [x] [x] (fun us ws => us ++ ws) (fun vs zs => vs ++ zs) := by
  refine ⟨fun s us ws _ h => ?_, fun r r2 => r.append r2⟩
  have e : us.length + ws.length = 1 := by simpa using h
  match us, ws, e with
  | [], [_], _ => exact h1 _ _
  | [_], [], _ => exact h0 _ _
  | [], [], e => simp at e
  | [], _ :: _ :: _, e => simp only [List.length_cons, List.length_nil] at e; omega
  | [_], _ :: _, e => simp only [List.length_cons, List.length_nil] at e; omega
  | _ :: _ :: _, _, e => simp only [List.length_cons, List.length_nil] at e; omega
theorem all_mk {l : PySem.W.OpenLaw} {w : World} {K : PySem.W.Frag} {h : Heap} {mg : Str → Option Value} {fa fNum fPer fAsc fPL fGr fMask fCross fAny fIs fPs fNeedPr fNeedG fBoth fParts fMaker fDepth fLeast fPouch fDip fItems fFolk fPut fNest fLots fHal fPR fLR fRight fL : Addr} (X : K.In h) (G : h.Ns mainGlobals mg) (hfa : mg "law" = some (.ref fa))
    {odNum anNum odPer anPer odAsc anAsc odPL anPL odGr anGr odMask anMask odCross anCross odAny anAny odIs anIs odPs anPs odNeedPr anNeedPr odNeedG anNeedG odBoth anBoth odParts anParts odMaker anMaker odDepth anDepth odLeast anLeast odPouch anPouch odDip anDip odItems anItems odFolk anFolk odPut anPut odNest anNest odLots anLots odHal anHal odPR anPR odLR anLR odRight anRight odL anL : Option Addr} {slNum slPer slAsc slPL slGr slMask slCross slAny slIs slPs slNeedPr slNeedG slBoth slParts slMaker slDepth slLeast slPouch slDip slItems slFolk slPut slNest slLots slHal slPR slLR slRight slL : Array (Option Value)} {ocNum kVNum dcNum pmNum cvNum ctNum ocPer kVPer dcPer pmPer cvPer ctPer ocAsc kVAsc dcAsc pmAsc cvAsc ctAsc ocPL kVPL dcPL pmPL cvPL ctPL ocGr kVGr dcGr pmGr cvGr ctGr ocMask kVMask dcMask pmMask cvMask ctMask ocCross kVCross dcCross pmCross cvCross ctCross ocAny kVAny dcAny pmAny cvAny ctAny ocIs kVIs dcIs pmIs cvIs ctIs ocPs kVPs dcPs pmPs cvPs ctPs ocNeedPr kVNeedPr dcNeedPr pmNeedPr cvNeedPr ctNeedPr ocNeedG kVNeedG dcNeedG pmNeedG cvNeedG ctNeedG ocBoth kVBoth dcBoth pmBoth cvBoth ctBoth ocParts kVParts dcParts pmParts cvParts ctParts ocMaker kVMaker dcMaker pmMaker cvMaker ctMaker ocDepth kVDepth dcDepth pmDepth cvDepth ctDepth ocLeast kVLeast dcLeast pmLeast cvLeast ctLeast ocPouch kVPouch dcPouch pmPouch cvPouch ctPouch ocDip kVDip dcDip pmDip cvDip ctDip ocItems kVItems dcItems pmItems cvItems ctItems ocFolk kVFolk dcFolk pmFolk cvFolk ctFolk ocPut kVPut dcPut pmPut cvPut ctPut ocNest kVNest dcNest pmNest cvNest ctNest ocLots kVLots dcLots pmLots cvLots ctLots ocHal kVHal dcHal pmHal cvHal ctHal ocPR kVPR dcPR pmPR cvPR ctPR ocLR kVLR dcLR pmLR cvLR ctLR ocRight kVRight dcRight pmRight cvRight ctRight ocL kVL dcL pmL cvL ctL : Value} {mtok : Tok}
    (aNum : PySem.W.nsIn K mainGlobals "is_number" = some (some (.ref fNum))) (lNum : K.lookup fNum = some ⟨ocNum, odNum, .func (PySem.W.fnOf "is_number" "is_number" (defArgs sNumber) (defBody sNumber) (defScope sNumber) .none kVNum dcNum pmNum anNum cvNum ctNum), slNum⟩) (xNum : PySem.W.codeIn K cvNum "is_number" = true) (kNum : PySem.W.keepIn K (.ref fNum) = true)
    (aPer : PySem.W.nsIn K mainGlobals "is_person" = some (some (.ref fPer))) (lPer : K.lookup fPer = some ⟨ocPer, odPer, .func (PySem.W.fnOf "is_person" "is_person" (defArgs sPerson) (defBody sPerson) (defScope sPerson) .none kVPer dcPer pmPer anPer cvPer ctPer), slPer⟩) (xPer : PySem.W.codeIn K cvPer "is_person" = true) (kPer : PySem.W.keepIn K (.ref fPer) = true)
    (aAsc : PySem.W.nsIn K mainGlobals "is_ascending" = some (some (.ref fAsc))) (lAsc : K.lookup fAsc = some ⟨ocAsc, odAsc, .func (PySem.W.fnOf "is_ascending" "is_ascending" (defArgs sAsc) (defBody sAsc) (defScope sAsc) .none kVAsc dcAsc pmAsc anAsc cvAsc ctAsc), slAsc⟩) (xAsc : PySem.W.codeIn K cvAsc "is_ascending" = true) (kAsc : PySem.W.keepIn K (.ref fAsc) = true)
    (aPL : PySem.W.nsIn K mainGlobals "is_person_list" = some (some (.ref fPL))) (lPL : K.lookup fPL = some ⟨ocPL, odPL, .func (PySem.W.fnOf "is_person_list" "is_person_list" (defArgs sPList) (defBody sPList) (defScope sPList) .none kVPL dcPL pmPL anPL cvPL ctPL), slPL⟩) (xPL : PySem.W.codeIn K cvPL "is_person_list" = true) (kPL : PySem.W.keepIn K (.ref fPL) = true)
    (aGr : PySem.W.nsIn K mainGlobals "is_group" = some (some (.ref fGr))) (lGr : K.lookup fGr = some ⟨ocGr, odGr, .func (PySem.W.fnOf "is_group" "is_group" (defArgs sGroup) (defBody sGroup) (defScope sGroup) .none kVGr dcGr pmGr anGr cvGr ctGr), slGr⟩) (xGr : PySem.W.codeIn K cvGr "is_group" = true) (kGr : PySem.W.keepIn K (.ref fGr) = true)
    (aMask : PySem.W.nsIn K mainGlobals "mask_of" = some (some (.ref fMask))) (lMask : K.lookup fMask = some ⟨ocMask, odMask, .func (PySem.W.fnOf "mask_of" "mask_of" (defArgs sMask) (defBody sMask) (defScope sMask) .none kVMask dcMask pmMask anMask cvMask ctMask), slMask⟩) (xMask : PySem.W.codeIn K cvMask "mask_of" = true) (kMask : PySem.W.keepIn K (.ref fMask) = true)
    (aCross : PySem.W.nsIn K mainGlobals "masks_cross" = some (some (.ref fCross))) (lCross : K.lookup fCross = some ⟨ocCross, odCross, .func (PySem.W.fnOf "masks_cross" "masks_cross" (defArgs sCross) (defBody sCross) (defScope sCross) .none kVCross dcCross pmCross anCross cvCross ctCross), slCross⟩) (xCross : PySem.W.codeIn K cvCross "masks_cross" = true) (kCross : PySem.W.keepIn K (.ref fCross) = true)
    (aAny : PySem.W.nsIn K mainGlobals "any_cross" = some (some (.ref fAny))) (lAny : K.lookup fAny = some ⟨ocAny, odAny, .func (PySem.W.fnOf "any_cross" "any_cross" (defArgs sAny) (defBody sAny) (defScope sAny) .none kVAny dcAny pmAny anAny cvAny ctAny), slAny⟩) (xAny : PySem.W.codeIn K cvAny "any_cross" = true) (kAny : PySem.W.keepIn K (.ref fAny) = true)
    (aIs : PySem.W.nsIn K mainGlobals "is_parting" = some (some (.ref fIs))) (lIs : K.lookup fIs = some ⟨ocIs, odIs, .func (PySem.W.fnOf "is_parting" "is_parting" (defArgs sParting) (defBody sParting) (defScope sParting) .none kVIs dcIs pmIs anIs cvIs ctIs), slIs⟩) (xIs : PySem.W.codeIn K cvIs "is_parting" = true) (kIs : PySem.W.keepIn K (.ref fIs) = true)
    (aPs : PySem.W.nsIn K mainGlobals "persons_of" = some (some (.ref fPs))) (lPs : K.lookup fPs = some ⟨ocPs, odPs, .func (PySem.W.fnOf "persons_of" "persons_of" (defArgs sPersons) (defBody sPersons) (defScope sPersons) .none kVPs dcPs pmPs anPs cvPs ctPs), slPs⟩) (xPs : PySem.W.codeIn K cvPs "persons_of" = true) (kPs : PySem.W.keepIn K (.ref fPs) = true)
    (aNeedPr : PySem.W.nsIn K mainGlobals "need_person" = some (some (.ref fNeedPr))) (lNeedPr : K.lookup fNeedPr = some ⟨ocNeedPr, odNeedPr, .func (PySem.W.fnOf "need_person" "need_person" (defArgs sNeedPr) (defBody sNeedPr) (defScope sNeedPr) .none kVNeedPr dcNeedPr pmNeedPr anNeedPr cvNeedPr ctNeedPr), slNeedPr⟩) (xNeedPr : PySem.W.codeIn K cvNeedPr "need_person" = true) (kNeedPr : PySem.W.keepIn K (.ref fNeedPr) = true)
    (aNeedG : PySem.W.nsIn K mainGlobals "need_group_in" = some (some (.ref fNeedG))) (lNeedG : K.lookup fNeedG = some ⟨ocNeedG, odNeedG, .func (PySem.W.fnOf "need_group_in" "need_group_in" (defArgs sNeedG) (defBody sNeedG) (defScope sNeedG) .none kVNeedG dcNeedG pmNeedG anNeedG cvNeedG ctNeedG), slNeedG⟩) (xNeedG : PySem.W.codeIn K cvNeedG "need_group_in" = true) (kNeedG : PySem.W.keepIn K (.ref fNeedG) = true)
    (aBoth : PySem.W.nsIn K mainGlobals "both_parts" = some (some (.ref fBoth))) (lBoth : K.lookup fBoth = some ⟨ocBoth, odBoth, .func (PySem.W.fnOf "both_parts" "both_parts" (defArgs sBoth) (defBody sBoth) (defScope sBoth) .none kVBoth dcBoth pmBoth anBoth cvBoth ctBoth), slBoth⟩) (xBoth : PySem.W.codeIn K cvBoth "both_parts" = true) (kBoth : PySem.W.keepIn K (.ref fBoth) = true)
    (aParts : PySem.W.nsIn K mainGlobals "parts_of" = some (some (.ref fParts))) (lParts : K.lookup fParts = some ⟨ocParts, odParts, .func (PySem.W.fnOf "parts_of" "parts_of" (defArgs sParts) (defBody sParts) (defScope sParts) .none kVParts dcParts pmParts anParts cvParts ctParts), slParts⟩) (xParts : PySem.W.codeIn K cvParts "parts_of" = true) (kParts : PySem.W.keepIn K (.ref fParts) = true)
    (aMaker : PySem.W.nsIn K mainGlobals "maker_of" = some (some (.ref fMaker))) (lMaker : K.lookup fMaker = some ⟨ocMaker, odMaker, .func (PySem.W.fnOf "maker_of" "maker_of" (defArgs sMaker) (defBody sMaker) (defScope sMaker) .none kVMaker dcMaker pmMaker anMaker cvMaker ctMaker), slMaker⟩) (xMaker : PySem.W.codeIn K cvMaker "maker_of" = true) (kMaker : PySem.W.keepIn K (.ref fMaker) = true)
    (aDepth : PySem.W.nsIn K mainGlobals "depth_of" = some (some (.ref fDepth))) (lDepth : K.lookup fDepth = some ⟨ocDepth, odDepth, .func (PySem.W.fnOf "depth_of" "depth_of" (defArgs sDepth) (defBody sDepth) (defScope sDepth) .none kVDepth dcDepth pmDepth anDepth cvDepth ctDepth), slDepth⟩) (xDepth : PySem.W.codeIn K cvDepth "depth_of" = true) (kDepth : PySem.W.keepIn K (.ref fDepth) = true)
    (aLeast : PySem.W.nsIn K mainGlobals "least_group" = some (some (.ref fLeast))) (lLeast : K.lookup fLeast = some ⟨ocLeast, odLeast, .func (PySem.W.fnOf "least_group" "least_group" (defArgs sLeast) (defBody sLeast) (defScope sLeast) .none kVLeast dcLeast pmLeast anLeast cvLeast ctLeast), slLeast⟩) (xLeast : PySem.W.codeIn K cvLeast "least_group" = true) (kLeast : PySem.W.keepIn K (.ref fLeast) = true)
    (aPouch : PySem.W.nsIn K mainGlobals "_law_pouch" = some (some (.ref fPouch))) (lPouch : K.lookup fPouch = some ⟨ocPouch, odPouch, .func (PySem.W.fnOf "_law_pouch" "_law_pouch" (defArgs sPouch) (defBody sPouch) (defScope sPouch) .none kVPouch dcPouch pmPouch anPouch cvPouch ctPouch), slPouch⟩) (xPouch : PySem.W.codeIn K cvPouch "_law_pouch" = true) (kPouch : PySem.W.keepIn K (.ref fPouch) = true)
    (aDip : PySem.W.nsIn K mainGlobals "_law_dip" = some (some (.ref fDip))) (lDip : K.lookup fDip = some ⟨ocDip, odDip, .func (PySem.W.fnOf "_law_dip" "_law_dip" (defArgs sDip) (defBody sDip) (defScope sDip) .none kVDip dcDip pmDip anDip cvDip ctDip), slDip⟩) (xDip : PySem.W.codeIn K cvDip "_law_dip" = true) (kDip : PySem.W.keepIn K (.ref fDip) = true)
    (aItems : PySem.W.nsIn K mainGlobals "_law_items" = some (some (.ref fItems))) (lItems : K.lookup fItems = some ⟨ocItems, odItems, .func (PySem.W.fnOf "_law_items" "_law_items" (defArgs sItems) (defBody sItems) (defScope sItems) .none kVItems dcItems pmItems anItems cvItems ctItems), slItems⟩) (xItems : PySem.W.codeIn K cvItems "_law_items" = true) (kItems : PySem.W.keepIn K (.ref fItems) = true)
    (aFolk : PySem.W.nsIn K mainGlobals "_law_folk" = some (some (.ref fFolk))) (lFolk : K.lookup fFolk = some ⟨ocFolk, odFolk, .func (PySem.W.fnOf "_law_folk" "_law_folk" (defArgs sFolk) (defBody sFolk) (defScope sFolk) .none kVFolk dcFolk pmFolk anFolk cvFolk ctFolk), slFolk⟩) (xFolk : PySem.W.codeIn K cvFolk "_law_folk" = true) (kFolk : PySem.W.keepIn K (.ref fFolk) = true)
    (aPut : PySem.W.nsIn K mainGlobals "_law_put" = some (some (.ref fPut))) (lPut : K.lookup fPut = some ⟨ocPut, odPut, .func (PySem.W.fnOf "_law_put" "_law_put" (defArgs sPut) (defBody sPut) (defScope sPut) .none kVPut dcPut pmPut anPut cvPut ctPut), slPut⟩) (xPut : PySem.W.codeIn K cvPut "_law_put" = true) (kPut : PySem.W.keepIn K (.ref fPut) = true)
    (aNest : PySem.W.nsIn K mainGlobals "_law_nest" = some (some (.ref fNest))) (lNest : K.lookup fNest = some ⟨ocNest, odNest, .func (PySem.W.fnOf "_law_nest" "_law_nest" (defArgs sNest) (defBody sNest) (defScope sNest) .none kVNest dcNest pmNest anNest cvNest ctNest), slNest⟩) (xNest : PySem.W.codeIn K cvNest "_law_nest" = true) (kNest : PySem.W.keepIn K (.ref fNest) = true)
    (aLots : PySem.W.nsIn K mainGlobals "_law_lots" = some (some (.ref fLots))) (lLots : K.lookup fLots = some ⟨ocLots, odLots, .func (PySem.W.fnOf "_law_lots" "_law_lots" (defArgs sLots) (defBody sLots) (defScope sLots) .none kVLots dcLots pmLots anLots cvLots ctLots), slLots⟩) (xLots : PySem.W.codeIn K cvLots "_law_lots" = true) (kLots : PySem.W.keepIn K (.ref fLots) = true)
    (aHal : PySem.W.nsIn K mainGlobals "_law_halves" = some (some (.ref fHal))) (lHal : K.lookup fHal = some ⟨ocHal, odHal, .func (PySem.W.fnOf "_law_halves" "_law_halves" (defArgs sHal) (defBody sHal) (defScope sHal) .none kVHal dcHal pmHal anHal cvHal ctHal), slHal⟩) (xHal : PySem.W.codeIn K cvHal "_law_halves" = true) (kHal : PySem.W.keepIn K (.ref fHal) = true)
    (aPR : PySem.W.nsIn K mainGlobals "_law_parts_right" = some (some (.ref fPR))) (lPR : K.lookup fPR = some ⟨ocPR, odPR, .func (PySem.W.fnOf "_law_parts_right" "_law_parts_right" (defArgs sPR) (defBody sPR) (defScope sPR) .none kVPR dcPR pmPR anPR cvPR ctPR), slPR⟩) (xPR : PySem.W.codeIn K cvPR "_law_parts_right" = true) (kPR : PySem.W.keepIn K (.ref fPR) = true)
    (aLR : PySem.W.nsIn K mainGlobals "_law_least_right" = some (some (.ref fLR))) (lLR : K.lookup fLR = some ⟨ocLR, odLR, .func (PySem.W.fnOf "_law_least_right" "_law_least_right" (defArgs sLR) (defBody sLR) (defScope sLR) .none kVLR dcLR pmLR anLR cvLR ctLR), slLR⟩) (xLR : PySem.W.codeIn K cvLR "_law_least_right" = true) (kLR : PySem.W.keepIn K (.ref fLR) = true)
    (aRight : PySem.W.nsIn K mainGlobals "_law_right" = some (some (.ref fRight))) (lRight : K.lookup fRight = some ⟨ocRight, odRight, .func (PySem.W.fnOf "_law_right" "_law_right" (defArgs sRight) (defBody sRight) (defScope sRight) .none kVRight dcRight pmRight anRight cvRight ctRight), slRight⟩) (xRight : PySem.W.codeIn K cvRight "_law_right" = true) (kRight : PySem.W.keepIn K (.ref fRight) = true)
    (aL : PySem.W.nsIn K mainGlobals "law" = some (some (.ref fL))) (lL : K.lookup fL = some ⟨ocL, odL, .func (PySem.W.fnOf "law" "law" (defArgs sLaw) (defBody sLaw) (defScope sLaw) .none kVL dcL pmL anL cvL ctL), slL⟩) (xL : PySem.W.codeIn K cvL "law" = true) (kL : PySem.W.keepIn K (.ref fL) = true)
    (y_isinstance : PySem.W.nsIn K mainGlobals "isinstance" = some none)
    (y_int : PySem.W.nsIn K mainGlobals "int" = some none)
    (y_bool : PySem.W.nsIn K mainGlobals "bool" = some none)
    (y_list : PySem.W.nsIn K mainGlobals "list" = some none)
    (y_len : PySem.W.nsIn K mainGlobals "len" = some none)
    (y_all : PySem.W.nsIn K mainGlobals "all" = some none)
    (y_any : PySem.W.nsIn K mainGlobals "any" = some none)
    (y_sum : PySem.W.nsIn K mainGlobals "sum" = some none)
    (y_zip : PySem.W.nsIn K mainGlobals "zip" = some none)
    (y_sorted : PySem.W.nsIn K mainGlobals "sorted" = some none)
    (y_tuple : PySem.W.nsIn K mainGlobals "tuple" = some none)
    (y_range : PySem.W.nsIn K mainGlobals "range" = some none)
    (y_enumerate : PySem.W.nsIn K mainGlobals "enumerate" = some none)
    (y_abs : PySem.W.nsIn K mainGlobals "abs" = some none)
    (y_max : PySem.W.nsIn K mainGlobals "max" = some none)
    (y_min : PySem.W.nsIn K mainGlobals "min" = some none)
    (y_repr : PySem.W.nsIn K mainGlobals "repr" = some none)
    (zComb : PySem.W.nsIn K mainGlobals "combinations" = some (some (.type "itertools.combinations"))) (zMost : PySem.W.nsIn K mainGlobals "MOST_PERSONS" = some (some (.int 20 mtok))) :
    ∃ fd : FuncData, (∀ (s : Shared) (v : Value), BindsTo s fd ⟨[v], []⟩ [("script", v)]) ∧ ∀ base : Heap, K.In base → base.Ns mainGlobals mg → FnG l.prog w K mg base CX0 25 fa fd ["script"] (spLaw K) := by
  have e := hfa.symm.trans (PySem.W.mg_of X G aL)
  cases e
  have FNum := fun_mk (st := sNumber) lNum xNum kNum
  have bNum := FNum.binds (ps := ["thing"]) fun _ _ _ _ _ _ us hl => match us, hl with | [_], _ => rfl
  have FPer := fun_mk (st := sPerson) lPer xPer kPer
  have bPer := FPer.binds (ps := ["thing", "persons"]) fun _ _ _ _ _ _ us hl => match us, hl with | [_, _], _ => rfl
  have FAsc := fun_mk (st := sAsc) lAsc xAsc kAsc
  have bAsc := FAsc.binds (ps := ["items"]) fun _ _ _ _ _ _ us hl => match us, hl with | [_], _ => rfl
  have FPL := fun_mk (st := sPList) lPL xPL kPL
  have bPL := FPL.binds (ps := ["thing", "persons"]) fun _ _ _ _ _ _ us hl => match us, hl with | [_, _], _ => rfl
  have FGr := fun_mk (st := sGroup) lGr xGr kGr
  have bGr := FGr.binds (ps := ["thing", "persons"]) fun _ _ _ _ _ _ us hl => match us, hl with | [_, _], _ => rfl
  have FMask := fun_mk (st := sMask) lMask xMask kMask
  have bMask := FMask.binds (ps := ["group"]) fun _ _ _ _ _ _ us hl => match us, hl with | [_], _ => rfl
  have FCross := fun_mk (st := sCross) lCross xCross kCross
  have bCross := FCross.binds (ps := ["one", "other"]) fun _ _ _ _ _ _ us hl => match us, hl with | [_, _], _ => rfl
  have FAny := fun_mk (st := sAny) lAny xAny kAny
  have bAny := FAny.binds (ps := ["groups"]) fun _ _ _ _ _ _ us hl => match us, hl with | [_], _ => rfl
  have FIs := fun_mk (st := sParting) lIs xIs kIs
  have bIs := FIs.binds (ps := ["thing"]) fun _ _ _ _ _ _ us hl => match us, hl with | [_], _ => rfl
  have FPs := fun_mk (st := sPersons) lPs xPs kPs
  have bPs := FPs.binds (ps := ["parting"]) fun _ _ _ _ _ _ us hl => match us, hl with | [_], _ => rfl
  have FNeedPr := fun_mk (st := sNeedPr) lNeedPr xNeedPr kNeedPr
  have bNeedPr := FNeedPr.binds (ps := ["person", "persons"]) fun _ _ _ _ _ _ us hl => match us, hl with | [_, _], _ => rfl
  have FNeedG := fun_mk (st := sNeedG) lNeedG xNeedG kNeedG
  have bNeedG := FNeedG.binds (ps := ["parting", "group"]) fun _ _ _ _ _ _ us hl => match us, hl with | [_, _], _ => rfl
  have FBoth := fun_mk (st := sBoth) lBoth xBoth kBoth
  have bBoth := FBoth.binds (ps := ["parting", "group"]) fun _ _ _ _ _ _ us hl => match us, hl with | [_, _], _ => rfl
  have FParts := fun_mk (st := sParts) lParts xParts kParts
  have bParts := FParts.binds (ps := ["parting", "group"]) fun _ _ _ _ _ _ us hl => match us, hl with | [_, _], _ => rfl
  have FMaker := fun_mk (st := sMaker) lMaker xMaker kMaker
  have bMaker := FMaker.binds (ps := ["parting", "group"]) fun _ _ _ _ _ _ us hl => match us, hl with | [_, _], _ => rfl
  have FDepth := fun_mk (st := sDepth) lDepth xDepth kDepth
  have bDepth := FDepth.binds (ps := ["parting", "person"]) fun _ _ _ _ _ _ us hl => match us, hl with | [_, _], _ => rfl
  have FLeast := fun_mk (st := sLeast) lLeast xLeast kLeast
  have bLeast := FLeast.binds (ps := ["parting", "one", "other"]) fun _ _ _ _ _ _ us hl => match us, hl with | [_, _, _], _ => rfl
  have FPouch := fun_mk (st := sPouch) lPouch xPouch kPouch
  have bPouch := FPouch.binds (ps := ["script", "at"]) fun _ _ _ _ _ _ us hl => match us, hl with | [_, _], _ => rfl
  have FDip := fun_mk (st := sDip) lDip xDip kDip
  have bDip := FDip.binds (ps := ["pouch", "wide"]) fun _ _ _ _ _ _ us hl => match us, hl with | [_, _], _ => rfl
  have FItems := fun_mk (st := sItems) lItems xItems kItems
  have bItems := FItems.binds (ps := ["pouch", "many"]) fun _ _ _ _ _ _ us hl => match us, hl with | [_, _], _ => rfl
  have FFolk := fun_mk (st := sFolk) lFolk xFolk kFolk
  have bFolk := FFolk.binds (ps := ["nest"]) fun _ _ _ _ _ _ us hl => match us, hl with | [_], _ => rfl
  have FPut := fun_mk (st := sPut) lPut xPut kPut
  have bPut := FPut.binds (ps := ["nest", "item", "fresh"]) fun _ _ _ _ _ _ us hl => match us, hl with | [_, _, _], _ => rfl
  have FNest := fun_mk (st := sNest) lNest xNest kNest
  have bNest := FNest.binds (ps := ["items"]) fun _ _ _ _ _ _ us hl => match us, hl with | [_], _ => rfl
  have FLots := fun_mk (st := sLots) lLots xLots kLots
  have bLots := FLots.binds (ps := ["nest"]) fun _ _ _ _ _ _ us hl => match us, hl with | [_], _ => rfl
  have FHal := fun_mk (st := sHal) lHal xHal kHal
  have bHal := FHal.binds (ps := ["nest"]) fun _ _ _ _ _ _ us hl => match us, hl with | [_], _ => rfl
  have FPR := fun_mk (st := sPR) lPR xPR kPR
  have bPR := FPR.binds (ps := ["nest", "lots"]) fun _ _ _ _ _ _ us hl => match us, hl with | [_, _], _ => rfl
  have FLR := fun_mk (st := sLR) lLR xLR kLR
  have bLR := FLR.binds (ps := ["pouch", "lots", "many"]) fun _ _ _ _ _ _ us hl => match us, hl with | [_, _, _], _ => rfl
  have FRight := fun_mk (st := sRight) lRight xRight kRight
  have bRight := FRight.binds (ps := ["pouch", "many"]) fun _ _ _ _ _ _ us hl => match us, hl with | [_, _], _ => rfl
  have FL := fun_mk (st := sLaw) lL xL kL
  have bL := FL.binds (ps := ["script"]) fun _ _ _ _ _ _ us hl => match us, hl with | [_], _ => rfl
  have Tp : TxtP mg := ⟨PySem.W.mg_none_of X G y_isinstance, PySem.W.mg_none_of X G y_int, PySem.W.mg_none_of X G y_bool, PySem.W.mg_none_of X G y_list, PySem.W.mg_none_of X G y_len, PySem.W.mg_none_of X G y_all, PySem.W.mg_none_of X G y_any, PySem.W.mg_none_of X G y_sum, PySem.W.mg_none_of X G y_zip, PySem.W.mg_none_of X G y_sorted, PySem.W.mg_none_of X G y_tuple, PySem.W.mg_none_of X G y_range, PySem.W.mg_none_of X G y_enumerate⟩
  have T : TxtW mg := { toTxtP := Tp, abs := PySem.W.mg_none_of X G y_abs, max := PySem.W.mg_none_of X G y_max, min := PySem.W.mg_none_of X G y_min, repr := PySem.W.mg_none_of X G y_repr }
  have W : LawF K mg := { Z := { fNum := fNum, dNum := _, FNum := FNum, gNum := PySem.W.mg_of X G aNum, bNum := bNum, fPer := fPer, dPer := _, FPer := FPer, gPer := PySem.W.mg_of X G aPer, bPer := bPer, fAsc := fAsc, dAsc := _, FAsc := FAsc, gAsc := PySem.W.mg_of X G aAsc, bAsc := bAsc, fPL := fPL, dPL := _, FPL := FPL, gPL := PySem.W.mg_of X G aPL, bPL := bPL, fGr := fGr, dGr := _, FGr := FGr, gGr := PySem.W.mg_of X G aGr, bGr := bGr, fMask := fMask, dMask := _, FMask := FMask, gMask := PySem.W.mg_of X G aMask, bMask := bMask, fCross := fCross, dCross := _, FCross := FCross, gCross := PySem.W.mg_of X G aCross, bCross := bCross, fAny := fAny, dAny := _, FAny := FAny, gAny := PySem.W.mg_of X G aAny, bAny := bAny, fIs := fIs, dIs := _, FIs := FIs, gIs := PySem.W.mg_of X G aIs, bIs := bIs, fPs := fPs, dPs := _, FPs := FPs, gPs := PySem.W.mg_of X G aPs, bPs := bPs, gComb := PySem.W.mg_of X G zComb, mostT := _, gMost := PySem.W.mg_of X G zMost }, T := T, Y := { fNeedPr := fNeedPr, dNeedPr := _, FNeedPr := FNeedPr, gNeedPr := PySem.W.mg_of X G aNeedPr, bNeedPr := bNeedPr, fNeedG := fNeedG, dNeedG := _, FNeedG := FNeedG, gNeedG := PySem.W.mg_of X G aNeedG, bNeedG := bNeedG, fBoth := fBoth, dBoth := _, FBoth := FBoth, gBoth := PySem.W.mg_of X G aBoth, bBoth := bBoth, fParts := fParts, dParts := _, FParts := FParts, gParts := PySem.W.mg_of X G aParts, bParts := bParts, fMaker := fMaker, dMaker := _, FMaker := FMaker, gMaker := PySem.W.mg_of X G aMaker, bMaker := bMaker, fDepth := fDepth, dDepth := _, FDepth := FDepth, gDepth := PySem.W.mg_of X G aDepth, bDepth := bDepth, fLeast := fLeast, dLeast := _, FLeast := FLeast, gLeast := PySem.W.mg_of X G aLeast, bLeast := bLeast }, fPouch := fPouch, dPouch := _, FPouch := FPouch, gPouch := PySem.W.mg_of X G aPouch, bPouch := bPouch, fDip := fDip, dDip := _, FDip := FDip, gDip := PySem.W.mg_of X G aDip, bDip := bDip, fItems := fItems, dItems := _, FItems := FItems, gItems := PySem.W.mg_of X G aItems, bItems := bItems, fFolk := fFolk, dFolk := _, FFolk := FFolk, gFolk := PySem.W.mg_of X G aFolk, bFolk := bFolk, fPut := fPut, dPut := _, FPut := FPut, gPut := PySem.W.mg_of X G aPut, bPut := bPut, fNest := fNest, dNest := _, FNest := FNest, gNest := PySem.W.mg_of X G aNest, bNest := bNest, fLots := fLots, dLots := _, FLots := FLots, gLots := PySem.W.mg_of X G aLots, bLots := bLots, fHal := fHal, dHal := _, FHal := FHal, gHal := PySem.W.mg_of X G aHal, bHal := bHal, fPR := fPR, dPR := _, FPR := FPR, gPR := PySem.W.mg_of X G aPR, bPR := bPR, fLR := fLR, dLR := _, FLR := FLR, gLR := PySem.W.mg_of X G aLR, bLR := bLR, fRight := fRight, dRight := _, FRight := FRight, gRight := PySem.W.mg_of X G aRight, bRight := bRight, kbParts := kb_two (fun s a b => .of_eq rfl) (fun s a b => .of_eq rfl) (fun s a b => .of_eq rfl), kbMaker := kb_two (fun s a b => .of_eq rfl) (fun s a b => .of_eq rfl) (fun s a b => .of_eq rfl), kbDepth := kb_two (fun s a b => .of_eq rfl) (fun s a b => .of_eq rfl) (fun s a b => .of_eq rfl), kbLeast := kb_three (fun s a b c => .of_eq rfl) (fun s a b c => .of_eq rfl) (fun s a b c => .of_eq rfl) (fun s a b c => .of_eq rfl), kbPs := kb_one (fun s a => .of_eq rfl) (fun s a => .of_eq rfl) }
  refine ⟨PySem.W.fnOf "law" "law" (defArgs sLaw) (defBody sLaw) (defScope sLaw) .none kVL dcL pmL anL cvL ctL, fun s v => .of_eq rfl, fun base _ _ => ?_⟩
  exact ok_law FL W
theorem walk {l : PySem.W.OpenLaw} {q : Program} {loose : List Str} {XP : (Str → Option Value) → Heap → Prop} {YP : World → Heap → Prop} {d : DefRec} {K : Params → PySem.W.Frag} (hn : l.most = some 63) (hdf : d.params.defaults = [])
    (hY : ∀ (w : World) (h : Heap), YP w h → (K w.params).In h)
    (F : ∀ (w : World) (mg : Str → Option Value) (fa : Addr) (h : Heap), (K w.params).In h → h.Ns mainGlobals mg → mg d.name = some (.ref fa) →
      ∃ fd : FuncData, (∀ (s : Shared) (u : Value), BindsTo s fd ⟨[u], []⟩ [("script", u)]) ∧ ∀ base : Heap, (K w.params).In base → base.Ns mainGlobals mg → FnG l.prog w (K w.params) mg base CX0 25 fa fd ["script"] (spLaw (K w.params))) :
    PySem.W.WalkO q loose XP YP l.row.toRowW d [] (fun f vs => PySem.call f vs) :=
  walk_ofG (n := 63) (lv := 25) (x := "script") (cx := fun _ => CX0) (prom := fun w => spLaw (K w.params)) hn (by decide) hdf ⟨rfl, by decide, by decide⟩ hY F (fun _ _ a ns hl _ _ hS => ⟨a, ns, rfl, hS, hl, fun _ => rfl⟩) fun _ _ _ _ _ z => z
end K02


open PySem PySem.W PyProof.Rows in
set_option maxRecDepth 100000 in
set_option maxHeartbeats 0 in
theorem PySem.Challenge.cw_twopartings_k02_parts_makers_and_depths_holds : PySem.Challenge.rw_twopartings_k02_parts_makers_and_depths.Holds := by
  w_on; o_law; k_head; (case hw => w_witness2)
  k_fill
  refine K02.walk (l := PySem.Challenge.rw_twopartings_k02_parts_makers_and_depths) rfl rfl (fun w h Y => PySem.W.kIn_of Y) ?F
  case F =>
    intro w mg fa h KX G hmg
    refine' K02.all_mk KX G hmg ?aNum ?lNum ?xNum ?kNum ?aPer ?lPer ?xPer ?kPer ?aAsc ?lAsc ?xAsc ?kAsc ?aPL ?lPL ?xPL ?kPL ?aGr ?lGr ?xGr ?kGr ?aMask ?lMask ?xMask ?kMask ?aCross ?lCross ?xCross ?kCross ?aAny ?lAny ?xAny ?kAny ?aIs ?lIs ?xIs ?kIs ?aPs ?lPs ?xPs ?kPs ?aNeedPr ?lNeedPr ?xNeedPr ?kNeedPr ?aNeedG ?lNeedG ?xNeedG ?kNeedG ?aBoth ?lBoth ?xBoth ?kBoth ?aParts ?lParts ?xParts ?kParts ?aMaker ?lMaker ?xMaker ?kMaker ?aDepth ?lDepth ?xDepth ?kDepth ?aLeast ?lLeast ?xLeast ?kLeast ?aPouch ?lPouch ?xPouch ?kPouch ?aDip ?lDip ?xDip ?kDip ?aItems ?lItems ?xItems ?kItems ?aFolk ?lFolk ?xFolk ?kFolk ?aPut ?lPut ?xPut ?kPut ?aNest ?lNest ?xNest ?kNest ?aLots ?lLots ?xLots ?kLots ?aHal ?lHal ?xHal ?kHal ?aPR ?lPR ?xPR ?kPR ?aLR ?lLR ?xLR ?kLR ?aRight ?lRight ?xRight ?kRight ?aL ?lL ?xL ?kL ?y_isinstance ?y_int ?y_bool ?y_list ?y_len ?y_all ?y_any ?y_sum ?y_zip ?y_sorted ?y_tuple ?y_range ?y_enumerate ?y_abs ?y_max ?y_min ?y_repr ?zComb ?zMost
    (case aNum => k_is)
    (case lNum => k_is)
    (case xNum => k_is)
    (case kNum => k_is)
    (case aPer => k_is)
    (case lPer => k_is)
    (case xPer => k_is)
    (case kPer => k_is)
    (case aAsc => k_is)
    (case lAsc => k_is)
    (case xAsc => k_is)
    (case kAsc => k_is)
    (case aPL => k_is)
    (case lPL => k_is)
    (case xPL => k_is)
    (case kPL => k_is)
    (case aGr => k_is)
    (case lGr => k_is)
    (case xGr => k_is)
    (case kGr => k_is)
    (case aMask => k_is)
    (case lMask => k_is)
    (case xMask => k_is)
    (case kMask => k_is)
    (case aCross => k_is)
    (case lCross => k_is)
    (case xCross => k_is)
    (case kCross => k_is)
    (case aAny => k_is)
    (case lAny => k_is)
    (case xAny => k_is)
    (case kAny => k_is)
    (case aIs => k_is)
    (case lIs => k_is)
    (case xIs => k_is)
    (case kIs => k_is)
    (case aPs => k_is)
    (case lPs => k_is)
    (case xPs => k_is)
    (case kPs => k_is)
    (case aNeedPr => k_is)
    (case lNeedPr => k_is)
    (case xNeedPr => k_is)
    (case kNeedPr => k_is)
    (case aNeedG => k_is)
    (case lNeedG => k_is)
    (case xNeedG => k_is)
    (case kNeedG => k_is)
    (case aBoth => k_is)
    (case lBoth => k_is)
    (case xBoth => k_is)
    (case kBoth => k_is)
    (case aParts => k_is)
    (case lParts => k_is)
    (case xParts => k_is)
    (case kParts => k_is)
    (case aMaker => k_is)
    (case lMaker => k_is)
    (case xMaker => k_is)
    (case kMaker => k_is)
    (case aDepth => k_is)
    (case lDepth => k_is)
    (case xDepth => k_is)
    (case kDepth => k_is)
    (case aLeast => k_is)
    (case lLeast => k_is)
    (case xLeast => k_is)
    (case kLeast => k_is)
    (case aPouch => k_is)
    (case lPouch => k_is)
    (case xPouch => k_is)
    (case kPouch => k_is)
    (case aDip => k_is)
    (case lDip => k_is)
    (case xDip => k_is)
    (case kDip => k_is)
    (case aItems => k_is)
    (case lItems => k_is)
    (case xItems => k_is)
    (case kItems => k_is)
    (case aFolk => k_is)
    (case lFolk => k_is)
    (case xFolk => k_is)
    (case kFolk => k_is)
    (case aPut => k_is)
    (case lPut => k_is)
    (case xPut => k_is)
    (case kPut => k_is)
    (case aNest => k_is)
    (case lNest => k_is)
    (case xNest => k_is)
    (case kNest => k_is)
    (case aLots => k_is)
    (case lLots => k_is)
    (case xLots => k_is)
    (case kLots => k_is)
    (case aHal => k_is)
    (case lHal => k_is)
    (case xHal => k_is)
    (case kHal => k_is)
    (case aPR => k_is)
    (case lPR => k_is)
    (case xPR => k_is)
    (case kPR => k_is)
    (case aLR => k_is)
    (case lLR => k_is)
    (case xLR => k_is)
    (case kLR => k_is)
    (case aRight => k_is)
    (case lRight => k_is)
    (case xRight => k_is)
    (case kRight => k_is)
    (case aL => k_is)
    (case lL => k_is)
    (case xL => k_is)
    (case kL => k_is)
    (case y_isinstance => k_is)
    (case y_int => k_is)
    (case y_bool => k_is)
    (case y_list => k_is)
    (case y_len => k_is)
    (case y_all => k_is)
    (case y_any => k_is)
    (case y_sum => k_is)
    (case y_zip => k_is)
    (case y_sorted => k_is)
    (case y_tuple => k_is)
    (case y_range => k_is)
    (case y_enumerate => k_is)
    (case y_abs => k_is)
    (case y_max => k_is)
    (case y_min => k_is)
    (case y_repr => k_is)
    (case zComb => k_is)
    (case zMost => k_is)
