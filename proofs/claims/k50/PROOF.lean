import PyProof.Rows.All
import Wide.All
import OpenK.AllK
import Wide.FinOn
import PySem.Challenge.RW_twopartings_k50_texts_written_and_read
import HandS.ForMost
import HandS.Wide
import HandS.WideBits
import PyProof.ReprRoads
import HandS.EndBits
import PyProof.ZipIter
import PyProof.CallType
import PyProof.Walk
import PyProof.WalkLemmas
import PyProof.RangeIter
import PyProof.RulesTry
import PyProof.TupleOfSeq
import KE.SortData
import KE.DataCmp
import HandS.DictComp
import HandS.Conv
import PyProof.ReprLen
import PyProof.Rows.BitMore
import HandS.Replace
import HandS.ReplaceLit
import HandS.Text
import HandS.IsInst
import HandS.ReplaceList
import HandS.TryOnly
import HandS.FStr
import PyProof.Rows.StrDigitsNeg
import HandS.Style
import HandS.List
set_option Elab.async false
set_option linter.all false
set_option maxRecDepth 100000
set_option maxHeartbeats 40000000
namespace RepA
open PySem PySem.Spec PyProof.Rows L2

/-! ### data without a dict -/
mutual
theorem dp_nodict {K : PySem.W.Frag} {H : Hp} : ∀ (d : PyData) (v : V), Dp K H v d → d.hasDict = false
  | .none, _, _ => by simp only [PyData.hasDict]
  | .bool _, _, _ => by simp only [PyData.hasDict]
  | .int _, _, _ => by simp only [PyData.hasDict]
  | .str _, _, _ => by simp only [PyData.hasDict]
  | .list ds, _, h => by
    cases h with
    | lst hs ha =>
      simp only [PyData.hasDict]
      exact dpAll_nodict ds _ ha
  | .tuple ds, _, h => by
    cases h with
    | tup hs ha =>
      simp only [PyData.hasDict]
      exact dpAll_nodict ds _ ha
  | .dict _, _, h => by cases h
theorem dpAll_nodict {K : PySem.W.Frag} {H : Hp} : ∀ (ds : List PyData) (vs : List V), DpAll K H vs ds → PyData.hasDictAll ds = false
  | [], _, _ => by simp only [PyData.hasDictAll]
  | d :: ds, _, h => by
    cases h with
    | cons h1 h2 => simp only [PyData.hasDictAll, dp_nodict d _ h1, dpAll_nodict ds _ h2, Bool.or_self]
end

/-! ### an item: data, or an empty dict -/
def Dd (K : PySem.W.Frag) (H : Hp) (v : V) (d : PyData) : Prop := Dp K H v d ∨ ∃ a, v = .ref a ∧ H a = some (.dK []) ∧ d = .dict []
inductive DdAll (K : PySem.W.Frag) (H : Hp) : List V → List PyData → Prop
  | nil : DdAll K H [] []
  | cons {v : V} {vs : List V} {d : PyData} {ds : List PyData} : Dd K H v d → DdAll K H vs ds → DdAll K H (v :: vs) (d :: ds)
theorem DdAll.of_dp {K : PySem.W.Frag} {H : Hp} : ∀ {vs : List V} {ds : List PyData}, DpAll K H vs ds → DdAll K H vs ds
  | _, _, .nil => .nil
  | _, _, .cons h r => .cons (.inl h) (.of_dp r)

section
variable {X : Cx} {pins : List (Addr × Obj)} {σ : L2.St} {H : Hp} {s : Shared}
theorem dd_reads (I : Inv X pins σ H s) {v : V} {u : Value} {d : PyData} (h : Dd X.K H v d) (r : RelV v u) : ∃ as, Reads s.heap u d as ∧ (d.hasDict = true → sysModules ∉ as) := by
  rcases h with h | ⟨a, rfl, ha, rfl⟩
  · obtain ⟨as, q⟩ := Dp.reads I d v u h r
    exact ⟨as, q, fun e => by rw [dp_nodict d v h] at e; cases e⟩
  · obtain rfl : u = Value.ref a := r
    obtain ⟨_, hn, vs, rel, dd⟩ := dk_of I.hok ha
    obtain ⟨o, es, ep, e1, e2, e3, e4⟩ := dd
    cases rel
    have hes : es.toList = [] := by
      have q := e4.2.1
      generalize es.toList = l at q
      cases q
      rfl
    refine ⟨[a], ?_, fun _ hm => ?_⟩
    · refine Reads.dict (as := []) (bs := []) e1 e2.1 e3 ?_ ?_
      · rw [hes]
        exact ReadsAll.nil
      · rw [hes]
        exact ReadsAll.nil
    · rcases List.mem_cons.mp hm with q | q
      · rw [q] at hn
        rw [beq_self_eq_true] at hn
        cases hn
      · cases q

/-- all items, each by itself -/
theorem dd_all (I : Inv X pins σ H s) : ∀ {vs : List V} {ds : List PyData} {us : List Value}, DdAll X.K H vs ds → Vals vs us → PyData.showableAll ds = true → (∀ t ∈ PyData.shownAll ds, t.length ≤ sizeLine) →
    (∃ as, ReadsAll s.heap us ds as) ∧ ∃ bs, ReadAtMost s.heap (PyData.depthAll ds) bs ∧ ReprAllK X.prog X.w bs s.heap (PyData.depthAll ds) us (PyData.shownAll ds)
  | _, _, _, .nil, .nil, _, _ => ⟨⟨_, .nil⟩, [], (fun _ h => nomatch h), by simp only [PyData.shownAll]; exact .nil⟩
  | _, _, _, .cons (d := d) (ds := ds) h hr, .cons r rr, hs, hz => by
    obtain ⟨s1, s2⟩ : d.showable = true ∧ PyData.showableAll ds = true := by simpa [PyData.showableAll] using hs
    obtain ⟨a1, q1, n1⟩ := dd_reads I h r
    obtain ⟨b1, m1, k1⟩ := ReprK.of_reads (prog := X.prog) (w := X.w) q1 s1 n1 (hz _ (by simp only [PyData.shownAll]; exact List.mem_cons_self ..))
    obtain ⟨⟨a2, q2⟩, b2, m2, k2⟩ := dd_all I hr rr s2 fun t ht => hz t (by simp only [PyData.shownAll]; exact List.mem_cons_of_mem _ ht)
    have l1 : d.depth ≤ PyData.depthAll (d :: ds) := by simp only [PyData.depthAll]; omega
    have l2 : PyData.depthAll ds ≤ PyData.depthAll (d :: ds) := by simp only [PyData.depthAll]; omega
    refine ⟨⟨_, .cons q1 q2⟩, b1 ++ b2, fun b hb => ?_, ?_⟩
    · rcases List.mem_append.mp hb with hb | hb
      · obtain ⟨d', as', r', z⟩ := m1 b hb
        exact ⟨d', as', r', Nat.le_trans z l1⟩
      · obtain ⟨d', as', r', z⟩ := m2 b hb
        exact ⟨d', as', r', Nat.le_trans z l2⟩
    · simp only [PyData.shownAll]
      exact .cons ((k1.more fun b hb => List.mem_append.mpr (.inl hb)).level_le l1) (k2.more_le (fun b hb => List.mem_append.mpr (.inr hb)) l2)

/-- repr of a list of data and empty dicts, where no guard stands -/
theorem call_reprL (hg : X.A.guards = some []) (hu : X.A.units + 64 < cLine) : CallR X (.builtin "repr") (fun xs H Q => ∃ a ys ds, xs = [V.ref a] ∧ SqL X.K H a ys ∧ DdAll X.K H ys ds ∧ PyData.showableAll ds = true ∧ PyData.depthAll ds ≤ 40 ∧
    (listText (PyData.shownAll ds)).length ≤ sizeLine ∧ Q (.str (PyData.list ds).shown) H) := by
  intro pins s σ H xs us Q I r h
  obtain ⟨a, ys, ds, rfl, hs, hd, hw, hdp, hz, q⟩ := h
  obtain ⟨u, rfl, ru⟩ := vals1 r
  obtain rfl : u = Value.ref a := ru
  obtain ⟨its, rv, ⟨o, n, ho, hc, hne, hda⟩, hsz⟩ := I.list hs
  obtain ⟨⟨as, hR⟩, bs, hb, hk⟩ := dd_all I hd rv hw fun t ht => Nat.le_trans (listText_mem_le ht) hz
  have rd : Reads s.heap (.ref a) (.list ds) (a :: as) := .list ho hc hda hR
  have hna : a ∉ bs := not_mem_of_deeper rd (by simp only [PyData.depth]; omega) hb
  have fin : ∀ (t tk : Nat) (h' : Heap), (∀ b o, s.heap.get? b = some o → h'.get? b = some o) → EP X pins σ Q (.str (listText (PyData.shownAll ds)) t) { s with heap := h', toks := tk } := fun t tk h' k =>
    ⟨.str _, H, I.kept k, ⟨t, rfl⟩, by simpa only [PyData.shown] using q⟩
  refine call_repr_slot (by omega) ⟨o, ho, hc⟩ F.slot_list_repr.toG ?_
  obtain ⟨l⟩ : ∃ l, l = its := ⟨_, rfl⟩
  cases its with
  | nil =>
    cases hR
    exact call_list_repr_empty ⟨o, ho, hc⟩ ho hda ⟨_, _, rfl, by simpa only [PyData.shownAll, listText_nil] using fin s.toks (s.toks + 1) s.heap fun _ _ e => e⟩
  | cons x l =>
    refine call_list_reprK (h₀ := s.heap) ho hc hda hna (by simpa using hk.length_eq) (fun i y e => hk.item i y (by simpa using e)) hg (fun b _ => Clear.nil b) (by show X.A.units + 1 + (PyData.depthAll ds + 1) < cLine; omega) (fun _ _ e => e) (fun h' t tk k => ⟨_, _, rfl, fin t tk h' k⟩) hz
end
end RepA

namespace RepA
open PySem PySem.Spec PyProof.Rows L2

/-! ### the promise of a def that is called where no guard stands -/
structure FnG (Pg : Program) (wd : World) (Kf : PySem.W.Frag) (gl : Str → Option Value) (bs : Heap) (cx : CXT) (lv : Nat) (fa : Addr) (dat : FuncData) (names : List Str) (prom : Sp) : Prop where
  cnt : ∀ xs G Qv Ex, prom xs G Qv Ex → xs.length = names.length
  go : ∀ (Ar : Around) (fr : List Env) (sh : Shared) (G : Hp) (ar : Args) (us : List Value) (xs : List V) (Qv : VK) (Ex : XK), Room lv Ar → Ar.guards = some [] →
    Env0 Pg wd Kf gl bs Ar fr sh G → BindsTo sh dat ar (names.zip us) → Vals xs us → prom xs G Qv Ex →
    codeAny (model Pg wd) Ar (.call (.ref fa) ar) (CR cx fr Pg wd G sh Qv Ex) sh

theorem FnG.of {Pg : Program} {wd : World} {Kf : PySem.W.Frag} {gl : Str → Option Value} {bs : Heap} {cx : CXT} {lv : Nat} {fa : Addr} {dat : FuncData} {names : List Str} {prom : Sp}
    (f : FnOk Pg wd Kf gl bs cx lv fa dat names prom) : FnG Pg wd Kf gl bs cx lv fa dat names prom :=
  ⟨f.len, fun Ar fr sh G ar us xs Qv Ex r _ e b v p => f.run Ar fr sh G ar us xs Qv Ex r e b v p⟩

/-- a def of the text by its body, where no guard stands -/
theorem okG {Pg : Program} {wd : World} {Kf : PySem.W.Frag} {gl : Str → Option Value} {bs : Heap} {nm qn : Str} {st : Stmt} {fa : Addr} {dat : FuncData} {slots names : List Str} {lv : Nat} {prom : Sp}
    (F : Fun Kf nm qn st fa dat) (S : FnScope slots names (defScope st)) (cnt : ∀ xs G Qv Ex, prom xs G Qv Ex → xs.length = names.length)
    (body : ∀ (cd : Value) (Ar : Around) (fr : List Env) (sh : Shared) (G : Hp) (xs : List V) (Qv : VK) (Ex : XK), Room lv (Ar.deeper (envOfC qn (defScope st) sh.heap.objs.size fa cd)) → Ar.guards = some [] → prom xs G Qv Ex →
      ∃ t, PSs (cxOf CX0 Pg wd Kf gl bs slots qn (defScope st) fa cd Ar fr sh G Ex).nox (defBody st) t ∧ t { nx := fun _ G' => Qv .non G', rt := Qv } (start slots xs) G) :
    FnG Pg wd Kf gl bs CX0 (lv + 1) fa dat names prom := by
  obtain ⟨oc, od, kV, doc, pm, an, cd, ct, osl, rfl, look, code⟩ := F.ex
  refine ⟨cnt, fun Ar fr sh G ar us xs Qv Ex room noG env bind vals hp => ?_⟩
  have sz := cnt _ _ _ _ hp
  have inK : Kf.In sh.heap := env.mod.kin.keeps fun b o q => (env.bs b o q).1
  have noL : sh.heap.NoLimit := env.mod.nolimit.keeps fun b o q => (env.bs b o q).1
  have kinds : ∀ y ∈ names.zip us, (defScope st).names.lookup y.1 = some .local ∨ ((defScope st).names.lookup y.1 = some .cell ∧ ((cellsFrom (sh.heap.objs.size + 1) (defScope st).names []).lookup y.1).isSome = true) := by
    rintro ⟨n, v⟩ hy
    rcases S.par n (List.of_mem_zip hy).1 with z | z
    · exact .inl z
    · exact .inr ⟨z, PySem.W.cellsFrom_some _ _ _ (.inl z)⟩
  refine codeAny_call_function room.depth (inK _ _ look) rfl S.co S.gen rfl (PySem.W.codeRec_of inK code) (bind _ _ _ _ ?_)
  refine wpAny_newFunctionEnv_cells S.kind kinds fun en hen sh1 inC => ?_
  subst hen
  refine ⟨noL.keeps inC.toInCall.keep, codeAny_func ?_⟩
  obtain ⟨t, walk, read⟩ := body cd Ar fr sh G xs Qv Ex (room.deeper _) noG hp
  have I0 := inv_start (CX := CX0) (P := Pg) (w := wd) (K := Kf) (mg := gl) (base := bs) (E := Ex) S room.hd env sz vals inC
  refine wpAny_mono (walk.nox.run [] sh1 _ G _ I0 read) (fun fl sh2 out => ?_) fun _ _ x => x
  cases fl with
  | ret u =>
    obtain ⟨v, σ2, G2, J, rel, q⟩ := out
    exact ⟨v, G2, J.os, J.bare, J.base, J.hok, rel, q⟩
  | next =>
    obtain ⟨σ2, G2, J, q⟩ := out
    exact ⟨V.non, G2, J.os, J.bare, J.base, J.hok, (rfl : RelV V.non Value.none), q⟩
  | brk => exact out.elim fun _ z => z.elim fun _ z => z.2.elim
  | cont => exact out.elim fun _ z => z.elim fun _ z => z.2.elim

section
variable {X : Cx} {x : Str} {p pos : Pos} {e : Expr} {es : List Expr} {t : TA} {CX : CXT} {k : Nat} {f : Addr} {fd : FuncData} {ps : List Str} {sp : Sp} {ds : List Value} {dvs : List V} {E : XK}
/-- f(e, ..), f such a def -/
theorem pe_callG (F : FnG X.prog X.w X.K X.mg X.base CX k f fd ps sp) (room : Room k X.A) (noG : X.A.guards = some []) (hg : Gl X x) (hm : X.mg x = some (.ref f)) (kp : PySem.W.keepIn X.K (.ref f) = true) (bd : Binds X.K fd ps ds) (dv : Vals dvs ds) (ps' : Passes CX X E)
    (args : PA X (e :: es) t) (hdb : (x == ("__debug__" : Str)) = false := by decide) (h1 : starEach (e :: es) X.env = (false, eval e X.env) :: starEach es X.env := by rfl) (h2 : (backTo pos (starEach es X.env)).any (·.1) = false := by rfl) :
    PE X (.Call (.Name x p) (e :: es) [] pos) (tCall sp dvs E t) := by
  refine ⟨fun pins s σ H Q I rd => ?_⟩
  refine wpAny_Call_Name_kw (ld_glob I hg hm ?_ hdb)
  refine PySem.W.callWith_K (h₀ := X.base) I.ok.mod.kin kp (thn (args.run pos pins s σ H _ I rd) fun us s1 ⟨vs, H1, I1, rv, q⟩ => ⟨I1.kIn, ?_⟩) h1 h2
  have rv2 : Vals (vs ++ dvs) (us ++ ds) := rv.append dv
  have sz : (us ++ ds).length = ps.length := rv2.length.symm.trans (F.cnt _ _ _ _ q)
  refine wpAny_call (codeAny_mono (F.go X.A X.stack s1 H1 ⟨us, []⟩ _ _ Q E room noG I1.env0 (bd s1 us I1.kIn sz) rv2 q) fun r s2 out => ?_)
  match r, out with
  | .error er, out => exact ps' pins σ H1 s1 er s2 I1 out
  | .ok (.ret u), out => exact I1.after out
  | .ok .next, out => exact out.elim
  | .ok .brk, out => exact out.elim
  | .ok .cont, out => exact out.elim
end
end RepA

namespace RepA
open PySem PySem.Spec PyProof.Rows L2

/-- the law's call from the caller, over an abstract heap that holds at most the script -/
theorem from_caller {Pg : Program} {wd : World} {Kf : PySem.W.Frag} {gl mb : Str → Option Value} {cx : CXT} {lv : Nat} {fa a : Addr} {dat : FuncData} {x : Str} {prom : Sp} {sh : Shared} {ob : Obj} {n0 : Nat} {vals : Array Value}
    (inK : Kf.In sh.heap) (nG : sh.heap.Ns mainGlobals gl) (nB : sh.heap.Ns builtinsNs mb) (isB : ∀ y : Str, y ≠ "__name__" → mb y = bootBuiltins y) (noL : sh.heap.NoLimit) (noGen : sh.gens = #[]) (at_a : sh.heap.get? a = some ob) (list_a : ob.data = .seq vals n0)
    (room : Room lv callerA) (F : ∀ bs : Heap, Kf.In bs → bs.Ns mainGlobals gl → FnG Pg wd Kf gl bs cx lv fa dat [x] prom) (bd : ∀ (s : Shared) (u : Value), BindsTo s dat ⟨[u], []⟩ [(x, u)])
    (noX : ∀ G e s', cx [] G sh (fun _ _ _ => False) e s' → False) (G : Hp) (only : Only G) (keeps : HOk Pg wd G sh.heap) (justA : ∀ b, G b ≠ none → b = a) (notK : G a ≠ none → Kf.lookup a = none)
    (hp : prom [.ref a] G (fun v _ => v = .bl true) fun _ _ _ => False) :
    codeAny (model Pg wd) callerA (.call (.ref fa) ⟨[.ref a], []⟩) (fun r s' => r = .ok (.ret (.bool true)) ∧ OldK sh.heap s'.heap ∧ s'.os = sh.os ∧ AllBare s'.gens) sh := by
  have free : ∀ {b : Addr}, b ≠ a → G b = none := fun {b} ne => Classical.byContradiction fun z => ne (justA b z)
  have hides : ∀ {b : Addr} {o : Obj}, sh.heap.get? b = some o → G b = none → (hidT sh.heap G).get? b = some o := fun q z => hidT_get q z
  have ns : ∀ {b : Addr} {m : Str → Option Value}, sh.heap.Ns b m → (hidT sh.heap G).Ns b m := fun {b m} h => by
    obtain ⟨o, es, ep, q, dd, rest⟩ := h
    refine ⟨o, es, ep, hides q (free fun z => ?_), dd, rest⟩
    rw [z, at_a] at q
    cases q
    rw [list_a] at dd
    cases dd
  have inK' : Kf.In (hidT sh.heap G) := fun b o q => hides (inK b o q) (by
    rcases Option.eq_none_or_eq_some (G b) with z | ⟨u, z⟩
    · exact z
    · have ne : G b ≠ none := by rw [z]; exact fun c => nomatch c
      have ba := justA b ne
      rw [ba] at q ne
      rw [notK ne] at q
      cases q)
  have md : Mod Kf gl (hidT sh.heap G) := ⟨inK', ns nG, ⟨mb, ns nB, isB⟩, let ⟨mc, z1, z2⟩ := noL; ⟨mc, ns z1, z2⟩⟩
  have env : Env0 Pg wd Kf gl (hidT sh.heap G) callerA [] sh G := ⟨rfl, md, fun _ _ q => of_hidT q, Nat.le_of_eq (hidT_size _ _), trivial, (fun b hb => nomatch hb), keeps, .of_eq noGen⟩
  refine codeAny_mono ((F _ inK' (ns nG)).go callerA [] sh G ⟨[.ref a], []⟩ [.ref a] [.ref a] _ _ room rfl env (bd sh (.ref a)) (.cons rfl .nil) hp) fun r s' out => ?_
  match r, out with
  | .error er, out => exact (noX G er s' out).elim
  | .ok .next, out => exact out.elim
  | .ok .brk, out => exact out.elim
  | .ok .cont, out => exact out.elim
  | .ok (.ret u), out =>
    obtain ⟨v, G', hos, hbare, un, keeps', rel, ev⟩ := out
    have ev' : v = .bl true := ev
    subst ev'
    obtain rfl : u = Value.bool true := rel
    refine ⟨rfl, OldK.of_keep fun b o q => ?_, hos, hbare⟩
    rcases only b with z | ⟨o2, ys, z⟩
    · exact un.keep b o q z (fun c => nomatch c) (fun c => nomatch c)
    · obtain ⟨w1, _⟩ := keeps b _ z
      obtain ⟨w2, _⟩ := keeps' b _ (un.frzs b o2 _ z)
      rw [q] at w1
      cases w1
      exact w2

theorem law_callG {Pg : Program} {wd : World} {Kf : PySem.W.Frag} {gl mb : Str → Option Value} {cx : CXT} {lv : Nat} {fa a : Addr} {dat : FuncData} {x : Str} {prom : Sp} {sh : Shared} {vals : List Value} {ns : List Int}
    (inK : Kf.In sh.heap) (nG : sh.heap.Ns mainGlobals gl) (nB : sh.heap.Ns builtinsNs mb) (isB : ∀ y : Str, y ≠ "__name__" → mb y = bootBuiltins y) (noL : sh.heap.NoLimit) (noGen : sh.gens = #[])
    (at_a : sh.heap.get? a = some { cls := .type "list", data := .seq vals.toArray }) (inz : IntsAre vals ns) (short : ns.length ≤ sizeLine) (room : Room lv callerA)
    (F : ∀ bs : Heap, Kf.In bs → bs.Ns mainGlobals gl → FnG Pg wd Kf gl bs cx lv fa dat [x] prom) (bd : ∀ (s : Shared) (u : Value), BindsTo s dat ⟨[u], []⟩ [(x, u)])
    (hp : ∀ G : Hp, Only G → SqL Kf G a (ns.map V.int) → prom [.ref a] G (fun v _ => v = .bl true) fun _ _ _ => False) (noX : ∀ G e s', cx [] G sh (fun _ _ _ => False) e s' → False) :
    codeAny (model Pg wd) callerA (.call (.ref fa) ⟨[.ref a], []⟩) (fun r s' => r = .ok (.ret (.bool true)) ∧ OldK sh.heap s'.heap ∧ s'.os = sh.os ∧ AllBare s'.gens) sh := by
  have rv := vals_ints inz
  rcases Option.eq_none_or_eq_some (Kf.lookup a) with nk | ⟨o, isK⟩
  · let G : Hp := fun b => if b = a then some (.frz { cls := .type "list", data := .seq vals.toArray } (.lst (ns.map V.int))) else none
    have ga : G a = some (.frz { cls := .type "list", data := .seq vals.toArray } (.lst (ns.map V.int))) := if_pos rfl
    have gb : ∀ {b : Addr}, b ≠ a → G b = none := fun ne => if_neg ne
    have justA : ∀ b, G b ≠ none → b = a := fun b z => Classical.byContradiction fun ne => z (gb ne)
    have only : Only G := fun b => by
      by_cases ne : b = a
      · subst ne
        exact .inr ⟨_, _, ga⟩
      · exact .inl (gb ne)
    refine from_caller inK nG nB isB noL noGen at_a rfl room F bd noX G only (fun b u z => ?_) justA (fun _ => nk) (hp G only (.inl (.inr ⟨_, ga⟩)))
    have ba := justA b (by rw [z]; exact fun c => nomatch c)
    subst ba
    rw [ga] at z
    cases z
    exact ⟨at_a, by rw [List.length_map]; exact short, vals, _, rv, at_a⟩
  · have e := inK a o isK
    rw [at_a] at e
    cases e
    exact from_caller inK nG nB isB noL noGen at_a rfl room F bd noX (fun _ => none) (fun _ => .inl rfl) (fun b u z => nomatch z) (fun b z => absurd rfl z) (fun z => absurd rfl z)
      (hp _ (fun _ => .inl rfl) (.inr ⟨_, vals.toArray, _, isK, rfl, rfl, rfl, by rw [List.size_toArray, inz.length]; exact short, by simpa using rv⟩))

/-- the end of a law row, for a law that asks where no guard stands; the script's bits told -/
theorem walk_ofG {l : PySem.W.OpenLaw} {n lv : Nat} {q : Program} {loose : List Str} {XP : (Str → Option Value) → Heap → Prop} {YP : World → Heap → Prop} {d : DefRec} {K : Params → PySem.W.Frag} {cx : World → CXT} {prom : World → Sp} {x : Str}
    (most : l.most = some n) (short : n ≤ sizeLine) (noD : d.params.defaults = []) (room : Room lv callerA) (hY : ∀ (w : World) (h : Heap), YP w h → (K w.params).In h)
    (F : ∀ (w : World) (gl : Str → Option Value) (fa : Addr) (h : Heap), (K w.params).In h → h.Ns mainGlobals gl → gl d.name = some (.ref fa) →
      ∃ dat : FuncData, (∀ (s : Shared) (u : Value), BindsTo s dat ⟨[u], []⟩ [(x, u)]) ∧ ∀ bs : Heap, (K w.params).In bs → bs.Ns mainGlobals gl → FnG l.prog w (K w.params) gl bs (cx w) lv fa dat [x] (prom w))
    (hp : ∀ (w : World) (G : Hp) (a : Addr) (ns : List Int), ns.length ≤ n → (∀ z ∈ ns, Builtin.Int.intBits z ≤ 1048576) → Only G → SqL (K w.params) G a (ns.map V.int) → prom w [.ref a] G (fun v _ => v = .bl true) fun _ _ _ => False)
    (noX : ∀ (w : World) (G : Hp) (s : Shared) (e : Value) (s' : Shared), cx w [] G s (fun _ _ _ => False) e s' → False) :
    PySem.W.WalkO q loose XP YP l.row.toRowW d [] (fun f vs => PySem.call f vs) := by
  refine Att.attach_callB most noD fun w _ sh gl mb fa _ _ _ _ a vals ns gr y _ _ _ named at_a inz few bits noGen => ?_
  obtain ⟨dat, bd, FG⟩ := F w gl fa _ (hY w _ y) gr.T.g named
  exact law_callG (hY w _ y) gr.T.g gr.T.b gr.T.builtins gr.T.nolimit noGen at_a inz (Nat.le_trans few short) room FG bd (fun G o s => hp w G a ns few bits o s) fun G e s' => noX w G sh e s'
end RepA

/-! repr of a list of data in which dicts of one text stand too. -/
namespace RepA
open PySem PySem.Spec PyProof.Rows L2
mutual
inductive Dq (K : PySem.W.Frag) (H : Hp) : V → PyData → Prop
  | base {v : V} {d : PyData} : Dd K H v d → Dq K H v d
  | one {a : Addr} {s : Str} {x : V} {e : PyData} : H a = some (.dK [(Sum.inr s, x)]) → Dq K H x e → Dq K H (.ref a) (.dict [(.str s, e)])
  | lst {a : Addr} {xs : List V} {ds : List PyData} : SqL K H a xs → DqAll K H xs ds → Dq K H (.ref a) (.list ds)
inductive DqAll (K : PySem.W.Frag) (H : Hp) : List V → List PyData → Prop
  | nil : DqAll K H [] []
  | cons {v : V} {vs : List V} {d : PyData} {ds : List PyData} : Dq K H v d → DqAll K H vs ds → DqAll K H (v :: vs) (d :: ds)
end
/-- how a value is shown, and where it stands -/
def Shw (prog : Program) (w : World) (h : Heap) (u : Value) (d : PyData) : Prop := ∃ as bs, Reads h u d as ∧ ReadAtMost h d.depth bs ∧ ReprK prog w bs h d.depth u d.shown
def ShwAll (prog : Program) (w : World) (h : Heap) (us : List Value) (ds : List PyData) : Prop := ∃ as bs, ReadsAll h us ds as ∧ ReadAtMost h (PyData.depthAll ds) bs ∧ ReprAllK prog w bs h (PyData.depthAll ds) us (PyData.shownAll ds)
section
variable {X : Cx} {pins : List (Addr × Obj)} {σ : L2.St} {H : Hp} {s : Shared}
theorem shw_dd (I : Inv X pins σ H s) {v : V} {u : Value} {d : PyData} (h : Dd X.K H v d) (r : RelV v u) (hs : d.showable = true) (hz : d.shown.length ≤ sizeLine) : Shw X.prog X.w s.heap u d := by
  obtain ⟨as, q, n⟩ := dd_reads I h r
  obtain ⟨bs, m, k⟩ := ReprK.of_reads (prog := X.prog) (w := X.w) q hs n hz
  exact ⟨as, bs, q, m, k⟩
mutual
theorem shw_dq (I : Inv X pins σ H s) : ∀ {v : V} {u : Value} {d : PyData}, Dq X.K H v d → RelV v u → d.showable = true → d.shown.length ≤ sizeLine → Shw X.prog X.w s.heap u d
  | _, _, _, .base h, r, hs, hz => shw_dd I h r hs hz
  | _, _, _, .one (a := a) (s := z) (x := x) (e := e) ha hx, r, hs, hz => by
    rename_i u
    obtain rfl : u = Value.ref a := r
    obtain ⟨_, hn, vs, rel, dd⟩ := dk_of I.hok ha
    obtain ⟨o, es, ep, e1, e2, e3, e4⟩ := dd
    obtain ⟨en, ux, ees, ekey, eval, rx⟩ : ∃ (en : DictEntry) (ux : Value), es.toList = [en] ∧ (∃ t, en.key = .str z t) ∧ en.val = ux ∧ RelV x ux := by
      cases rel with
      | cons hd tl =>
        cases tl
        have q := e4.2.1
        generalize es.toList = l at q
        rename_i b
        obtain ⟨kb, ux⟩ := b
        obtain ⟨e5, e6⟩ := hd
        cases e5
        cases q with
        | cons p1 p2 p3 =>
          cases p3
          refine ⟨_, ux, rfl, ?_, p2, e6⟩
          rcases keyIs_shape (show keyIs (Sum.inr z) _ = true from p1) with ⟨i, t, q1, q2⟩ | ⟨y, t, q1, q2⟩
          · cases q1
          · cases q1
            exact ⟨t, q2⟩
    obtain ⟨t, ek⟩ := ekey
    have hz' : (dictText (PyData.shownKv [(.str z, e)])).length ≤ sizeLine := by simpa only [PyData.shown] using hz
    have hs2 : e.showable = true := by
      have q := (PyData.showableKv_split [(.str z, e)] (by simpa [PyData.showable] using hs)).2
      simpa [PyData.showableAll] using q
    have hs1 : (PyData.str z).showable = true := by
      have q := (PyData.showableKv_split [(.str z, e)] (by simpa [PyData.showable] using hs)).1
      simpa [PyData.showableAll] using q
    have key_le : ∀ t ∈ PyData.shownAll [PyData.str z], t.length ≤ sizeLine := fun t ht => by
      obtain ⟨p, hp, l⟩ := PyData.shownKv_key_le [(.str z, e)] t ht
      exact Nat.le_trans l (Nat.le_trans (dictText_mem_le hp) hz')
    have val_le : ∀ t ∈ PyData.shownAll [e], t.length ≤ sizeLine := fun t ht => by
      obtain ⟨p, hp, l⟩ := PyData.shownKv_val_le [(.str z, e)] t ht
      exact Nat.le_trans l (Nat.le_trans (dictText_mem_le hp) hz')
    obtain ⟨b1, m1, k1⟩ := ReprK.of_reads (prog := X.prog) (w := X.w) (Reads.str (h := s.heap) z t) hs1 (fun _ h => nomatch h) (key_le _ (by simp only [PyData.shownAll]; exact List.mem_cons_self ..))
    obtain ⟨a2, b2, q2, m2, k2⟩ := shw_dq I hx rx hs2 (val_le _ (by simp only [PyData.shownAll]; exact List.mem_cons_self ..))
    have rd : Reads s.heap (.ref a) (.dict [(.str z, e)]) _ := .dict (kvs := [(PyData.str z, e)]) e1 e2.1 e3 (by rw [ees]; show ReadsAll s.heap [en.key] [PyData.str z] _; rw [ek]; exact .cons (.str z t) .nil) (by rw [ees]; show ReadsAll s.heap [en.val] [e] _; rw [eval]; exact .cons q2 .nil)
    have hd1 : (PyData.str z).depth ≤ PyData.depthKv [(.str z, e)] := by simp only [PyData.depthKv, PyData.depth]; omega
    have hd2 : e.depth ≤ PyData.depthKv [(.str z, e)] := by simp only [PyData.depthKv]; omega
    have hb : ReadAtMost s.heap (PyData.depthKv [(.str z, e)]) (b1 ++ b2) := (m1.mono hd1).append (m2.mono hd2)
    have hna : a ∉ b1 ++ b2 := not_mem_of_deeper rd (by simp only [PyData.depth]; omega) hb
    refine ⟨_, a :: (b1 ++ b2), rd, ReadAtMost.cons rd (by simp only [PyData.depth]; omega) hb, ?_⟩
    simp only [PyData.depth, PyData.shown, PyData.shownKv]
    refine ReprK.dict e1 e2.1 e3 hn hna ?_
    rw [ees]
    refine .cons ?_ ?_ .nil
    · rw [ek]
      exact (k1.more fun b hb => List.mem_append.mpr (.inl hb)).level_le hd1
    · rw [eval]
      exact (k2.more fun b hb => List.mem_append.mpr (.inr hb)).level_le hd2
  | _, _, _, .lst (a := a) (xs := xs) (ds := ds) hl hall, r, hs, hz => by
    rename_i u
    obtain rfl : u = Value.ref a := r
    obtain ⟨its, rv, ⟨o, n, ho, hc, hne, hda⟩, hsz⟩ := I.list hl
    have hz' : (listText (PyData.shownAll ds)).length ≤ sizeLine := by simpa only [PyData.shown] using hz
    obtain ⟨as, bs, q, m, k⟩ := shw_all I hall rv (by simpa [PyData.showable] using hs) fun t ht => Nat.le_trans (listText_mem_le ht) hz'
    have rd : Reads s.heap (.ref a) (.list ds) (a :: as) := .list ho hc hda q
    have hna : a ∉ bs := not_mem_of_deeper rd (by simp only [PyData.depth]; omega) m
    refine ⟨_, a :: bs, rd, ReadAtMost.cons rd (by simp only [PyData.depth]; omega) m, ?_⟩
    simp only [PyData.depth, PyData.shown]
    cases its with
    | nil =>
      cases q
      simp only [PyData.shownAll, listText_nil]
      exact ReprK.listEmpty ho hc hda
    | cons y l => exact ReprK.list ho hc hda hna (by simpa using k.length_eq) (fun i y e => k.item i y (by simpa using e))
theorem shw_all (I : Inv X pins σ H s) : ∀ {vs : List V} {ds : List PyData} {us : List Value}, DqAll X.K H vs ds → Vals vs us → PyData.showableAll ds = true → (∀ t ∈ PyData.shownAll ds, t.length ≤ sizeLine) → ShwAll X.prog X.w s.heap us ds
  | _, _, _, .nil, .nil, _, _ => ⟨_, [], .nil, (fun _ h => nomatch h), by simp only [PyData.shownAll]; exact .nil⟩
  | _, _, _, .cons (d := d) (ds := ds) h hr, .cons r rr, hs, hz => by
    obtain ⟨s1, s2⟩ : d.showable = true ∧ PyData.showableAll ds = true := by simpa [PyData.showableAll] using hs
    obtain ⟨a1, b1, q1, m1, k1⟩ := shw_dq I h r s1 (hz _ (by simp only [PyData.shownAll]; exact List.mem_cons_self ..))
    obtain ⟨a2, b2, q2, m2, k2⟩ := shw_all I hr rr s2 fun t ht => hz t (by simp only [PyData.shownAll]; exact List.mem_cons_of_mem _ ht)
    have l1 : d.depth ≤ PyData.depthAll (d :: ds) := by simp only [PyData.depthAll]; omega
    have l2 : PyData.depthAll ds ≤ PyData.depthAll (d :: ds) := by simp only [PyData.depthAll]; omega
    refine ⟨_, b1 ++ b2, .cons q1 q2, (m1.mono l1).append (m2.mono l2), ?_⟩
    simp only [PyData.shownAll]
    exact .cons ((k1.more fun b hb => List.mem_append.mpr (.inl hb)).level_le l1) (k2.more_le (fun b hb => List.mem_append.mpr (.inr hb)) l2)
end
/-- repr of such a list, where no guard stands -/
theorem call_reprQ (hg : X.A.guards = some []) (hu : X.A.units + 64 < cLine) : CallR X (.builtin "repr") (fun xs H Q => ∃ a ys ds, xs = [V.ref a] ∧ SqL X.K H a ys ∧ DqAll X.K H ys ds ∧ PyData.showableAll ds = true ∧ PyData.depthAll ds ≤ 40 ∧
    (listText (PyData.shownAll ds)).length ≤ sizeLine ∧ Q (.str (PyData.list ds).shown) H) := by
  intro pins s σ H xs us Q I r h
  obtain ⟨a, ys, ds, rfl, hs, hd, hw, hdp, hz, q⟩ := h
  obtain ⟨u, rfl, ru⟩ := vals1 r
  obtain rfl : u = Value.ref a := ru
  obtain ⟨its, rv, ⟨o, n, ho, hc, hne, hda⟩, hsz⟩ := I.list hs
  obtain ⟨as, bs, hR, hb, hk⟩ := shw_all I hd rv hw fun t ht => Nat.le_trans (listText_mem_le ht) hz
  have rd : Reads s.heap (.ref a) (.list ds) (a :: as) := .list ho hc hda hR
  have hna : a ∉ bs := not_mem_of_deeper rd (by simp only [PyData.depth]; omega) hb
  have fin : ∀ (t tk : Nat) (h' : Heap), (∀ b o, s.heap.get? b = some o → h'.get? b = some o) → EP X pins σ Q (.str (listText (PyData.shownAll ds)) t) { s with heap := h', toks := tk } := fun t tk h' k =>
    ⟨.str _, H, I.kept k, ⟨t, rfl⟩, by simpa only [PyData.shown] using q⟩
  refine call_repr_slot (by omega) ⟨o, ho, hc⟩ PySem.F.slot_list_repr.toG ?_
  cases its with
  | nil =>
    cases hR
    exact call_list_repr_empty ⟨o, ho, hc⟩ ho hda ⟨_, _, rfl, by simpa only [PyData.shownAll, listText_nil] using fin s.toks (s.toks + 1) s.heap fun _ _ e => e⟩
  | cons x l =>
    refine call_list_reprK (h₀ := s.heap) ho hc hda hna (by simpa using hk.length_eq) (fun i y e => hk.item i y (by simpa using e)) hg (fun b _ => Clear.nil b) (by show X.A.units + 1 + (PyData.depthAll ds + 1) < cLine; omega) (fun _ _ e => e) (fun h' t tk k => ⟨_, _, rfl, fin t tk h' k⟩) hz
end
end RepA

/-! itertools.combinations(list, 2), made and drawn. -/
namespace Comb
open PySem PySem.Spec
open Sem (wp)
abbrev cName : String := "itertools.combinations"
theorem cMro : mroOf (.type "itertools.combinations") = pure [.type "itertools.combinations", .type "object"] := by rw [mroOf_type]; kernel_rfl
theorem cNew : typeLookup (.type "itertools.combinations") "__new__" = pure (some (.builtin "itertools.combinations.__new__")) := by rw [typeLookup_type, builtinLookup_eq_fast]; kernel_rfl
theorem cInit : Slot "itertools.combinations" "__init__" "object.__init__" :=
  .of (owner := "object") (n := "__init__") (by rw [typeLookup_type, builtinLookup_eq_fast]; kernel_rfl) (by decide +kernel) (by decide +kernel) (by decide +kernel) (by first | exact .inl (by decide +kernel) | exact .inr (by decide +kernel)) (by rw [isSubtype_type]; kernel_rfl)
theorem cSub : isSubtype (.type "itertools.combinations") (.type "itertools.combinations") = pure true := by rw [isSubtype_type]; kernel_rfl
theorem cCalled : TypeCalled "itertools.combinations" "itertools.combinations.__new__" "object.__init__" :=
  ⟨by decide +kernel, by decide +kernel, ⟨_, _, cMro⟩, madeBy_type cMro cNew (by decide +kernel), by decide +kernel, cSub, cInit⟩
theorem cType2 (a b : Value) : checkTypeCall "itertools.combinations" ⟨[a, b], []⟩ = pure () := by kernel_rfl
theorem cNew2 (a b : Value) : checkBuiltinCall "itertools.combinations.__new__" ⟨[.type "itertools.combinations", a, b], []⟩ = pure () := by kernel_rfl
theorem cEntryNew : entryFor table "itertools.combinations.__new__" = some Builtin.«itertools.combinations.__new__» := entryFor_of_tree (by kernel_rfl)
theorem cEntryNext : entryFor table "itertools.combinations.__next__" = some Builtin.«itertools.combinations.__next__» := entryFor_of_tree (by kernel_rfl)
theorem cEntryIter : entryFor table "itertools.combinations.__iter__" = some Builtin.«dict_keyiterator.__iter__» :=
  entryFor_alias (id' := "dict_keyiterator.__iter__") (by kernel_rfl) (by first | rfl | decide +kernel | (unfold String.splitOn; simp +decide [String.splitOnAux])) (by decide +kernel) (by kernel_rfl)
theorem cIter : Slot "itertools.combinations" "__iter__" "itertools.combinations.__iter__" :=
  .of (owner := "itertools.combinations") (n := "__iter__") (by rw [typeLookup_type, builtinLookup_eq_fast]; kernel_rfl) (by decide +kernel) (by decide +kernel) (by decide +kernel) (by first | exact .inl (by decide +kernel) | exact .inr (by decide +kernel)) cSub
theorem cNext : Slot "itertools.combinations" "__next__" "itertools.combinations.__next__" :=
  .of (owner := "itertools.combinations") (n := "__next__") (by rw [typeLookup_type, builtinLookup_eq_fast]; kernel_rfl) (by decide +kernel) (by decide +kernel) (by decide +kernel) (by first | exact .inl (by decide +kernel) | exact .inr (by decide +kernel)) cSub
theorem cOwner : Manifest.owners.lookup (String.ofList "snoitanibmoc.slootreti".toList.reverse) = some Manifest.sig_itertools_combinations := by kernel_rfl
theorem cArgsIter (a : Value) : argsOk "itertools.combinations.__iter__" ⟨[a], []⟩ := by
  unfold argsOk
  rw [signature?_of (id := "itertools.combinations.__iter__") (n := ['_', '_', 'r', 'e', 't', 'i', '_', '_']) (o := "snoitanibmoc.slootreti".toList) (by kernel_rfl) cOwner]
  kernel_rfl
theorem cArgsNext (a : Value) : argsOk "itertools.combinations.__next__" ⟨[a], []⟩ := by
  unfold argsOk
  rw [signature?_of (id := "itertools.combinations.__next__") (n := ['_', '_', 't', 'x', 'e', 'n', '_', '_']) (o := "snoitanibmoc.slootreti".toList) (by kernel_rfl) cOwner]
  kernel_rfl
theorem cNoDict : typeHasDict (.type "itertools.combinations") = false := by decide +kernel

/-- such an object: its pool, its state, what it handed out last, its places -/
def recC (pool : Addr) (st : Int) (last : Value) (i j : Int) : Obj := { cls := .type "itertools.combinations", dict := none, data := .fields #[.ref pool, rawInt st, last, rawInt i, rawInt j], slots := #[] }
abbrev IsC (h : Heap) (it pool : Addr) (st : Int) (last : Value) (i j : Int) : Prop := h.get? it = some (recC pool st last i j)
def tupO (xs : Array Value) : Obj := { cls := .type "tuple", data := .seq xs }

end Comb

namespace Comb
open PySem PySem.Spec
open Sem (wp)
theorem joinName : "itertools." ++ "combinations" = "itertools.combinations" := by decide
theorem new_meets (l : Addr) (o : Obj) (items : Array Value) (n : Nat) (t : Tok) (hc : o.cls = .type "list") (hd : o.data = .seq items n) (hsz : items.size ≤ sizeLine) :
    Meets (Builtin.«itertools.combinations.__new__» ⟨[.type "itertools.combinations", .ref l, .int 2 t], []⟩)
      (fun _ R s => s.heap.get? l = some o ∧ ∀ h' : Heap, (∀ b u, s.heap.get? b = some u → h'.get? b = some u) → R (.ok (.ret (.ref (h'.objs.size + 1)))) { s with heap := (h'.push (tupO items)).push (recC h'.objs.size (if 2 > items.size then 2 else 0) .none 0 1) }) :=
  .of_wp fun prog w A R s h => by
    obtain ⟨hp, g, dd, tk, os⟩ := s
    obtain ⟨at_l, h⟩ := h
    have hsub := cSub
    have hdic := cNoDict
    have hT : Shared.TypeIs ⟨hp, g, dd, tk, os⟩ (.ref l) "list" := ⟨o, at_l, hc⟩
    unfold Builtin.«itertools.combinations.__new__»
    repeat (first
      | (with_reducible refine wpAny_collect_seq (hsz := hsz) l (.inl rfl) at_l hc hd fun h' keep => ?_)
      | wp_step
      | (rw [joinName]))
    refine ⟨_, rfl, ?_⟩
    have e1 : items.toList.toArray = items := by simp
    have e2 : (h'.push (tupO items)).objs.size = h'.objs.size + 1 := Heap.size_push ..
    have e3 : items.toList.length = items.size := by simp
    rw [e1, e3]
    have q := h h' keep
    rw [← e2] at q
    exact q

end Comb

namespace Comb
open PySem PySem.Spec
open Sem (wp)
section
variable {prog : Program} {w : World} {A : Around} {E : Value → Shared → Prop} {s : Shared}
/-- combinations(l, 2): the heap grows by what is kept, then by the pool and the record -/
theorem call_comb {l : Addr} {o : Obj} {items : Array Value} {n : Nat} {t : Tok} {Q : Value → Shared → Prop} (at_l : s.heap.get? l = some o) (hc : o.cls = .type "list") (hd : o.data = .seq items n) (hsz : items.size ≤ sizeLine)
    (h : ∀ h1 : Heap, (∀ b u, s.heap.get? b = some u → h1.get? b = some u) → Q (.ref (h1.objs.size + 1)) { s with heap := (h1.push (tupO items)).push (recC h1.objs.size (if 2 > items.size then 2 else 0) .none 0 1) }) :
    wpAny (model prog w) A (call (.type "itertools.combinations") [.ref l, .int 2 t]) Q E s := by
  refine callType_new cCalled (by decide +kernel) (cType2 _ _) (cNew2 _ _) (fun obj => F.args_object_init_3 obj _ _) cEntryNew (new_meets l o items n t hc hd hsz) ?_
  refine ⟨at_l, fun h1 keep => ⟨⟨recC h1.objs.size (if 2 > items.size then 2 else 0) .none 0 1, ?_, rfl⟩, h h1 keep⟩⟩
  have sz : (h1.push (tupO items)).objs.size = h1.objs.size + 1 := Heap.size_push ..
  show Heap.get? _ (h1.objs.size + 1) = some (recC h1.objs.size (if 2 > items.size then 2 else 0) .none 0 1)
  rw [← sz]
  exact Heap.get?_push_size _ rfl
theorem iter_comb {it pool : Addr} {st i j : Int} {last : Value} {Q : Value → Shared → Prop} (hit : IsC s.heap it pool st last i j) (h : Q (.ref it) s) : wpAny (model prog w) A (pyIter (.ref it)) Q E s := by
  have hT : s.TypeIs (.ref it) "itertools.combinations" := ⟨_, hit, rfl⟩
  refine wpAny_pyIter_slot hT cIter (wpAny_call_entry cIter hT cEntryIter ?_ (cArgsIter _))
  show wpAny _ _ (ret (.ref it)) _ _ s
  exact wpAny_pure ⟨_, rfl, "itertools.combinations", _, hT, cNext.lookup, h⟩

theorem apart {h : Heap} {it pool : Addr} {st i j : Int} {last : Value} {items : Array Value} (hit : IsC h it pool st last i j) (hp : h.get? pool = some (tupO items)) : it ≠ pool := fun e => by
  rw [e] at hit
  have z : Value.type "tuple" = Value.type "itertools.combinations" := congrArg Obj.cls (Option.some.inj (hp.symm.trans hit))
  exact absurd (Value.type.inj z) (by decide)
/-- what is handed out is laid, then held by the record -/
theorem handed {h U : Heap} {it pool : Addr} {last : Value} {i j : Int} {xs : Array Value} (hU : IsC U it pool 1 last i j) (keep : ∀ b, b ≠ it → U.get? b = h.get? b) (sz : U.objs.size = h.objs.size) :
    (∀ b, b ≠ it → ∀ u, h.get? b = some u → ((U.push (tupO xs)).update it (Obj.mapFields fun x => x.setIfInBounds 2 (.ref U.objs.size))).get? b = some u) ∧
    ((U.push (tupO xs)).update it (Obj.mapFields fun x => x.setIfInBounds 2 (.ref U.objs.size))).get? h.objs.size = some (tupO xs) ∧
    IsC ((U.push (tupO xs)).update it (Obj.mapFields fun x => x.setIfInBounds 2 (.ref U.objs.size))) it pool 1 (.ref h.objs.size) i j := by
  have lt : it < U.objs.size := Heap.lt_size hU
  refine ⟨fun b ne u q => ?_, ?_, ?_⟩
  · exact (Heap.get?_update_other _ _ ne.symm).trans (Heap.get?_push_of_some _ ((keep b ne).trans q))
  · rw [← sz]
    exact (Heap.get?_update_other _ _ (Nat.ne_of_lt lt)).trans (Heap.get?_push_size _ rfl)
  · rw [← sz]
    exact Heap.get?_update_self _ (Heap.get?_push_of_some _ hU) rfl
theorem next_first {it pool : Addr} {last : Value} {items : Array Value} {n : Nat} {Q : Option Value → Shared → Prop} (hit : IsC s.heap it pool 0 last 0 1) (hp : s.heap.get? pool = some (tupO items)) (h2 : 2 ≤ items.size)
    (hQ : ∀ h', (∀ b, b ≠ it → ∀ u, s.heap.get? b = some u → h'.get? b = some u) → h'.get? s.heap.objs.size = some (tupO #[items.getD 0 .none, items.getD 1 .none]) → IsC h' it pool 1 (.ref s.heap.objs.size) 0 1 → Q (some (.ref s.heap.objs.size)) { s with heap := h' }) :
    wpAny (model prog w) A (pyNext (.ref it)) Q E s := by
  have hT : s.TypeIs (.ref it) "itertools.combinations" := ⟨_, hit, rfl⟩
  unfold pyNext
  refine wpAny_bind (wpAny_attempt (wpAny_callSpecial?_slot (name := Str.ofString "__next__") hT cNext (wpAny_call_entry cNext hT cEntryNext ?_ (cArgsNext _))))
  unfold Builtin.«itertools.combinations.__next__»
  have nip := apart hit hp
  have hp1 : (s.heap.update it (Obj.mapFields fun x => x.setIfInBounds 1 (rawInt 1))).get? pool = some (tupO items) := (Heap.get?_update_other _ _ nip).trans hp
  have hit1 : IsC (s.heap.update it (Obj.mapFields fun x => x.setIfInBounds 1 (rawInt 1))) it pool 1 last 0 1 := Heap.get?_update_self _ hit rfl
  repeat wp_step
  obtain ⟨q1, q2, q3⟩ := handed (xs := #[items.getD 0 .none, items.getD 1 .none]) hit1 (h := s.heap) (fun b ne => Heap.get?_update_other _ _ ne.symm) (Heap.size_update ..)
  refine ⟨_, rfl, wpAny_pure ?_⟩
  have z := hQ _ q1 q2 q3
  rw [show (s.heap.update it (Obj.mapFields fun x => x.setIfInBounds 1 (rawInt 1))).objs.size = s.heap.objs.size from Heap.size_update ..] at z ⊢
  exact z
end
end Comb

namespace Comb
open PySem PySem.Spec
open Sem (wp)
section
variable {prog : Program} {w : World} {A : Around} {E : Value → Shared → Prop} {s : Shared}
theorem next_more {it pool : Addr} {last : Value} {items : Array Value} {i j i' j' : Nat} {Q : Option Value → Shared → Prop} (hit : IsC s.heap it pool 1 last i j) (hp : s.heap.get? pool = some (tupO items))
    (hn : (match (List.range 2).reverse.find? fun k => [i, j].getD k 0 != k + items.size - 2 with | none => none | some k => some ([i, j].take k ++ (List.range (2 - k)).map ([i, j].getD k 0 + 1 + ·))) = some [i', j'])
    (hQ : ∀ h', (∀ b, b ≠ it → ∀ u, s.heap.get? b = some u → h'.get? b = some u) → h'.get? s.heap.objs.size = some (tupO #[items.getD i' .none, items.getD j' .none]) → IsC h' it pool 1 (.ref s.heap.objs.size) i' j' → Q (some (.ref s.heap.objs.size)) { s with heap := h' }) :
    wpAny (model prog w) A (pyNext (.ref it)) Q E s := by
  have hT : s.TypeIs (.ref it) "itertools.combinations" := ⟨_, hit, rfl⟩
  unfold pyNext
  refine wpAny_bind (wpAny_attempt (wpAny_callSpecial?_slot (name := Str.ofString "__next__") hT cNext (wpAny_call_entry cNext hT cEntryNext ?_ (cArgsNext _))))
  unfold Builtin.«itertools.combinations.__next__»
  repeat wp_step
  split
  · rename_i next hnx
    obtain rfl : next = [i', j'] := Option.some.inj (hnx.symm.trans hn)
    have nip := apart hit hp
    have hp1 : (s.heap.update it (Obj.mapFields fun x => x.extract 0 3 ++ (List.map (fun (n : Nat) => rawInt n) [i', j']).toArray)).get? pool = some (tupO items) := (Heap.get?_update_other _ _ nip).trans hp
    have hit1 : IsC (s.heap.update it (Obj.mapFields fun x => x.extract 0 3 ++ (List.map (fun (n : Nat) => rawInt n) [i', j']).toArray)) it pool 1 last i' j' := Heap.get?_update_self _ hit rfl
    repeat wp_step
    obtain ⟨q1, q2, q3⟩ := handed (xs := #[items.getD i' .none, items.getD j' .none]) hit1 (h := s.heap) (fun b ne => Heap.get?_update_other _ _ ne.symm) (Heap.size_update ..)
    refine ⟨_, rfl, wpAny_pure ?_⟩
    have z := hQ _ q1 q2 q3
    rw [show (s.heap.update it (Obj.mapFields fun x => x.extract 0 3 ++ (List.map (fun (n : Nat) => rawInt n) [i', j']).toArray)).objs.size = s.heap.objs.size from Heap.size_update ..] at z ⊢
    exact z
  · rename_i hnx
    cases hnx.symm.trans hn
theorem next_end {it pool : Addr} {last : Value} {items : Array Value} {i j : Nat} {Q : Option Value → Shared → Prop} (hh : A.handled = none) (hit : IsC s.heap it pool 1 last i j) (hp : s.heap.get? pool = some (tupO items))
    (hn : (match (List.range 2).reverse.find? fun k => [i, j].getD k 0 != k + items.size - 2 with | none => none | some k => some ([i, j].take k ++ (List.range (2 - k)).map ([i, j].getD k 0 + 1 + ·))) = none)
    (hQ : ∀ h', Heap.ExtBut it s.heap h' → Q none { s with heap := h' }) : wpAny (model prog w) A (pyNext (.ref it)) Q E s := by
  have hT : s.TypeIs (.ref it) "itertools.combinations" := ⟨_, hit, rfl⟩
  unfold pyNext
  refine wpAny_bind (wpAny_attempt (wpAny_callSpecial?_slot (name := Str.ofString "__next__") hT cNext (wpAny_call_entry cNext hT cEntryNext ?_ (cArgsNext _))))
  unfold Builtin.«itertools.combinations.__next__»
  repeat wp_step
  split
  · rename_i next hnx
    cases hn.symm.trans hnx
  · repeat wp_step
    simp only [raiseNew]; refine wpAny_bind (wpAny_handled ?_); rw [show A.in1.handled = none from hh]
    refine wpAny_bind (wpAny_pure (wpAny_throw ?_)); refine wpAny_bind (wpAny_isInstance (T := "StopIteration") (b := true) ⟨_, Heap.get?_push_size _ rfl, rfl⟩ isSubtype_stop ?_)
    exact wpAny_pure (hQ _ (fun b u ne q => Heap.get?_push_of_some _ (Heap.get?_push_of_some _ ((Heap.get?_update_other _ _ (Ne.symm ne)).trans q))))
theorem next_none {it pool : Addr} {last : Value} {items : Array Value} {i j : Nat} {Q : Option Value → Shared → Prop} (hh : A.handled = none) (hit : IsC s.heap it pool 2 last i j) (hp : s.heap.get? pool = some (tupO items))
    (hQ : ∀ h', Heap.ExtBut it s.heap h' → Q none { s with heap := h' }) : wpAny (model prog w) A (pyNext (.ref it)) Q E s := by
  have hT : s.TypeIs (.ref it) "itertools.combinations" := ⟨_, hit, rfl⟩
  unfold pyNext
  refine wpAny_bind (wpAny_attempt (wpAny_callSpecial?_slot (name := Str.ofString "__next__") hT cNext (wpAny_call_entry cNext hT cEntryNext ?_ (cArgsNext _))))
  unfold Builtin.«itertools.combinations.__next__»
  repeat wp_step
  simp only [raiseNew]; refine wpAny_bind (wpAny_handled ?_); rw [show A.in1.handled = none from hh]
  refine wpAny_bind (wpAny_pure (wpAny_throw ?_)); refine wpAny_bind (wpAny_isInstance (T := "StopIteration") (b := true) ⟨_, Heap.get?_push_size _ rfl, rfl⟩ isSubtype_stop ?_)
  exact wpAny_pure (hQ _ (((Heap.ExtBut.refl it s.heap).push _).push _))
end
end Comb

namespace Comb
open PySem PySem.Spec PyProof.Rows L2
/-! ### the pairs of places, in their sequence -/
def rows : Nat → Nat → List (Nat × Nat)
  | 0, _ => []
  | k + 1, i => (List.range (k + 1)).map (fun d => (i, i + 1 + d)) ++ rows k (i + 1)
def prs (n : Nat) : List (Nat × Nat) := rows (n - 1) 0
def nx (n i j : Nat) : Option (Nat × Nat) := if j + 1 < n then some (i, j + 1) else if i + 2 < n then some (i + 1, i + 2) else none
theorem rows_zero (k i : Nat) : (rows (k + 1) i)[0]? = some (i, i + 1) := by
  unfold rows
  rw [List.getElem?_append_left (by rw [List.length_map, List.length_range]; omega), List.getElem?_map, List.getElem?_range (Nat.succ_pos k)]
  rfl
theorem rows_step : ∀ (k i t a b : Nat), (rows k i)[t]? = some (a, b) → a < b ∧ b < i + 1 + k ∧ (rows k i)[t + 1]? = nx (i + 1 + k) a b
  | 0, _, _, _, _, h => by
    unfold rows at h
    rw [List.getElem?_nil] at h
    cases h
  | k + 1, i, t, a, b, h => by
    unfold rows at h ⊢
    have len : ((List.range (k + 1)).map (fun d => (i, i + 1 + d))).length = k + 1 := by rw [List.length_map, List.length_range]
    rcases Nat.lt_or_ge t (k + 1) with lt | ge
    · rw [List.getElem?_append_left (by omega), List.getElem?_map, List.getElem?_range lt] at h
      have h' : (i, i + 1 + t) = (a, b) := Option.some.inj h
      obtain ⟨rfl, rfl⟩ := Prod.mk.inj h'
      refine ⟨by omega, by omega, ?_⟩
      rcases Nat.lt_or_ge (t + 1) (k + 1) with l2 | g2
      · rw [List.getElem?_append_left (by omega), List.getElem?_map, List.getElem?_range l2]
        unfold nx
        rw [if_pos (by omega)]
        rfl
      · have et : t = k := by omega
        subst et
        rw [List.getElem?_append_right (by omega), len, Nat.sub_self]
        unfold nx
        rw [if_neg (by omega)]
        cases t with
        | zero =>
          rw [if_neg (by omega)]
          rfl
        | succ m =>
          rw [if_pos (by omega)]
          exact rows_zero m (i + 1)
    · rw [List.getElem?_append_right (by omega), len] at h
      obtain ⟨h1, h2, h3⟩ := rows_step k (i + 1) (t - (k + 1)) a b h
      refine ⟨h1, by omega, ?_⟩
      rw [List.getElem?_append_right (by omega), len, show t + 1 - (k + 1) = t - (k + 1) + 1 by omega, h3]
      congr 1
      omega
theorem prs_step {n t a b : Nat} (h : (prs n)[t]? = some (a, b)) : a < b ∧ b < n ∧ (prs n)[t + 1]? = nx n a b := by
  obtain ⟨h1, h2, h3⟩ := rows_step (n - 1) 0 t a b h
  have hn : 0 + 1 + (n - 1) = n := by omega
  rw [hn] at h2 h3
  exact ⟨h1, h2, h3⟩
theorem rows_mem : ∀ (k i a b : Nat), (a, b) ∈ rows k i ↔ i ≤ a ∧ a < b ∧ b < i + 1 + k
  | 0, i, a, b => by
    unfold rows
    constructor
    · intro h
      cases h
    · rintro ⟨h1, h2, h3⟩
      omega
  | k + 1, i, a, b => by
    unfold rows
    rw [List.mem_append, rows_mem k (i + 1) a b, List.mem_map]
    constructor
    · rintro (⟨d, hd, e⟩ | h)
      · have := List.mem_range.mp hd
        obtain ⟨rfl, rfl⟩ := Prod.mk.inj e
        omega
      · omega
    · rintro ⟨h1, h2, h3⟩
      rcases Nat.eq_or_lt_of_le h1 with e | l
      · exact .inl ⟨b - (i + 1), List.mem_range.mpr (by omega), by rw [← e]; congr 1; omega⟩
      · exact .inr ⟨l, h2, by omega⟩
theorem prs_mem {n a b : Nat} : (a, b) ∈ prs n ↔ a < b ∧ b < n := by
  unfold prs
  rw [rows_mem]
  omega
theorem rows_len : ∀ k i, (rows k i).length ≤ k * k
  | 0, i => Nat.zero_le _
  | k + 1, i => by
    unfold rows
    rw [List.length_append, List.length_map, List.length_range]
    have := rows_len k (i + 1)
    have e : (k + 1) * (k + 1) = k * k + k + (k + 1) := by rw [Nat.succ_mul, Nat.mul_succ]
    omega
theorem prs_none {n : Nat} (h : n < 2) : prs n = [] := by
  unfold prs
  rw [show n - 1 = 0 by omega]
  rfl
theorem prs_zero {n : Nat} (h : 2 ≤ n) : (prs n)[0]? = some (0, 1) := by
  unfold prs
  obtain ⟨m, rfl⟩ : ∃ m, n = m + 2 := ⟨n - 2, by omega⟩
  exact rows_zero m 0
/-- the model's own step is this one -/
theorem nx_some {n i j a b : Nat} (hi : i < j) (hj : j < n) (h : nx n i j = some (a, b)) :
    (match (List.range 2).reverse.find? fun k => [i, j].getD k 0 != k + n - 2 with | none => none | some k => some ([i, j].take k ++ (List.range (2 - k)).map ([i, j].getD k 0 + 1 + ·))) = some [a, b] := by
  have e : (List.range 2).reverse = [1, 0] := rfl
  rw [e]
  unfold nx at h
  by_cases h1 : j + 1 < n
  · rw [if_pos h1] at h
    cases h
    have z : ([i, j].getD 1 0 != 1 + n - 2) = true := by
      show (j != 1 + n - 2) = true
      rw [bne_iff_ne]
      omega
    rw [List.find?_cons_of_pos (p := fun k => [i, j].getD k 0 != k + n - 2) (a := 1) z]
    rfl
  · rw [if_neg h1] at h
    have z : ¬ ([i, j].getD 1 0 != 1 + n - 2) = true := by
      show ¬ (j != 1 + n - 2) = true
      rw [bne_iff_ne]
      omega
    by_cases h2 : i + 2 < n
    · rw [if_pos h2] at h
      cases h
      have z2 : ([i, j].getD 0 0 != 0 + n - 2) = true := by
        show (i != 0 + n - 2) = true
        rw [bne_iff_ne]
        omega
      rw [List.find?_cons_of_neg (p := fun k => [i, j].getD k 0 != k + n - 2) (a := 1) z, List.find?_cons_of_pos (p := fun k => [i, j].getD k 0 != k + n - 2) (a := 0) z2]
      rfl
    · rw [if_neg h2] at h
      cases h
theorem nx_none {n i j : Nat} (hi : i < j) (hj : j < n) (h : nx n i j = none) :
    (match (List.range 2).reverse.find? fun k => [i, j].getD k 0 != k + n - 2 with | none => none | some k => some ([i, j].take k ++ (List.range (2 - k)).map ([i, j].getD k 0 + 1 + ·))) = none := by
  have e : (List.range 2).reverse = [1, 0] := rfl
  rw [e]
  unfold nx at h
  by_cases h1 : j + 1 < n
  · rw [if_pos h1] at h
    cases h
  · rw [if_neg h1] at h
    by_cases h2 : i + 2 < n
    · rw [if_pos h2] at h
      cases h
    · have z : ¬ ([i, j].getD 1 0 != 1 + n - 2) = true := by
        show ¬ (j != 1 + n - 2) = true
        rw [bne_iff_ne]
        omega
      have z2 : ¬ ([i, j].getD 0 0 != 0 + n - 2) = true := by
        show ¬ (i != 0 + n - 2) = true
        rw [bne_iff_ne]
        omega
      rw [List.find?_cons_of_neg (p := fun k => [i, j].getD k 0 != k + n - 2) (a := 1) z, List.find?_cons_of_neg (p := fun k => [i, j].getD k 0 != k + n - 2) (a := 0) z2]
      rfl
end Comb

namespace Comb
open PySem PySem.Spec PyProof.Rows L2
/-- the pairs of these values, as new tuples -/
def Itcb (xs : List V) : It :=
  ⟨fun t _ => t < (prs xs.length).length,
    fun t H v H' => ∃ T i j x y, v = .ref T ∧ H T = none ∧ H' = upd H T (.tup [x, y]) ∧ (prs xs.length)[t]? = some (i, j) ∧ xs[i]? = some x ∧ xs[j]? = some y,
    fun t _ => (prs xs.length).length ≤ t⟩
def Stt (it pool : Addr) (items : Array Value) (t : Nat) (h : Heap) : Prop :=
  h.get? pool = some (tupO items) ∧ ((t = 0 ∧ IsC h it pool (if 2 > items.size then 2 else 0) .none 0 1) ∨ ∃ (u i j : Nat) (last : Value), t = u + 1 ∧ (prs items.size)[u]? = some (i, j) ∧ IsC h it pool 1 last i j)
theorem turn_comb {P : Program} {w : World} {K : PySem.W.Frag} {tg : Expr} {xs : List V} {its : List Value} (rv : Vals xs its) (it pool : Addr) (lt : pool < it) : Turn P w K tg (Itcb xs) [it, pool] it (Stt it pool its.toArray) where
  mem := by simp
  obj := fun t h st b hb => by
    obtain ⟨hp, st⟩ := st
    have e : b = it ∨ b = pool := by simpa using hb
    rcases e with e | e
    · rw [e]
      rcases st with ⟨_, c⟩ | ⟨_, _, _, _, _, _, c⟩ <;> exact ⟨_, c, fun v q => nomatch q⟩
    · rw [e]
      exact ⟨_, hp, fun v q => nomatch q⟩
  keep := fun t h h' st k => by
    obtain ⟨hp, st⟩ := st
    refine ⟨k pool (by simp) _ hp, ?_⟩
    rcases st with ⟨e, c⟩ | ⟨u, i, j, last, e, hu, c⟩
    · exact .inl ⟨e, k it (by simp) _ c⟩
    · exact .inr ⟨u, i, j, last, e, hu, k it (by simp) _ c⟩
  item := by
    intro X hP hw hK hc t pins s σ H E I hf st hg
    subst hP hw hK
    obtain ⟨hp, st⟩ := st
    have len := rv.length
    have sz : its.toArray.size = xs.length := by rw [List.size_toArray, len]
    -- what comes of the pair (i, j)
    have out : ∀ (i j : Nat) (h' : Heap), (prs xs.length)[t]? = some (i, j) → (∀ b, b ≠ it → ∀ u, s.heap.get? b = some u → h'.get? b = some u) → h'.get? s.heap.objs.size = some (tupO #[its.toArray.getD i .none, its.toArray.getD j .none]) →
        IsC h' it pool 1 (.ref s.heap.objs.size) i j → ∃ u, some (Value.ref s.heap.objs.size) = some u ∧
        wpAny (model X.prog X.w) X.A (letOwnedTupleGo tg (.ref it) u) (fun _ s2 => ∃ x H', Inv X pins σ H' s2 ∧ RelV x u ∧ (Itcb xs).yld t H x H' ∧ Stt it pool its.toArray (t + 1) s2.heap ∧ ∀ b ∈ [it, pool], H' b = none) E { s with heap := h' } := by
      intro i j h' ht keep new rec
      obtain ⟨l1, l2, _⟩ := prs_step ht
      have hx : xs[i]? = some xs[i] := List.getElem?_eq_getElem (by omega)
      have hy : xs[j]? = some xs[j] := List.getElem?_eq_getElem (by omega)
      obtain ⟨u1, hu1, r1⟩ := rv.get hx
      obtain ⟨u2, hu2, r2⟩ := rv.get hy
      have g1 : its.toArray.getD i .none = u1 := by
        rw [Array.getD_eq_getD_getElem?, List.getElem?_toArray, hu1]
        rfl
      have g2 : its.toArray.getD j .none = u2 := by
        rw [Array.getD_eq_getD_getElem?, List.getElem?_toArray, hu2]
        rfl
      rw [g1, g2] at new
      have obj : ObjOk X.prog X.w (upd H s.heap.objs.size (.tup [xs[i], xs[j]])) h' s.heap.objs.size (.tup [xs[i], xs[j]]) :=
        ⟨by show 2 ≤ sizeLine; decide, [u1, u2], .cons r1 (.cons r2 .nil), ⟨_, new, rfl, _, rfl⟩⟩
      have I1 : Inv X pins σ (upd H s.heap.objs.size (.tup [xs[i], xs[j]])) { s with heap := h' } :=
        I.turnedNew (t' := s.toks) (ch := [it, pool]) (fun c o hb q => keep c (fun z => hb (by simp [z])) o q) hf (Nat.le_refl _) obj
      refine ⟨_, rfl, go_of (s := { s with heap := h' }) rec rfl rfl (by decide) ⟨.ref s.heap.objs.size, _, I1, rfl, ⟨_, i, j, _, _, rfl, I.hok.fresh (Nat.le_refl _), rfl, ht, hx, hy⟩, ⟨keep pool (Nat.ne_of_lt lt) _ hp, .inr ⟨t, i, j, _, rfl, by rw [sz]; exact ht, rec⟩⟩, fun c hcm => ?_⟩⟩
      have small : c < s.heap.objs.size := by
        have e : c = it ∨ c = pool := by simpa using hcm
        have hit : it < s.heap.objs.size := by
          rcases st with ⟨_, c⟩ | ⟨_, _, _, _, _, _, c⟩ <;> exact Heap.lt_size c
        rcases e with e | e
        · rw [e]; exact hit
        · rw [e]; exact Nat.lt_trans lt hit
      rw [upd_ne (Nat.ne_of_lt small)]
      exact (hf c hcm).1
    have hg' : t < (prs xs.length).length := hg
    obtain ⟨⟨i, j⟩, hij⟩ : ∃ q, (prs xs.length)[t]? = some q := ⟨_, List.getElem?_eq_getElem hg'⟩
    rcases st with ⟨e, c⟩ | ⟨u, i0, j0, last, e, hu, c⟩
    · subst e
      have h2 : 2 ≤ xs.length := by
        rcases Nat.lt_or_ge xs.length 2 with z | z
        · rw [prs_none z] at hg'
          cases hg'
        · exact z
      rw [prs_zero h2] at hij
      cases hij
      rw [sz, if_neg (by omega)] at c
      exact next_first (n := 0) c hp (by rw [sz]; exact h2) fun h' k new rec => out 0 1 h' (prs_zero h2) k new rec
    · subst e
      rw [sz] at hu
      obtain ⟨l1, l2, l3⟩ := prs_step hu
      refine next_more c hp (nx_some l1 (by rw [sz]; exact l2) (by rw [sz, ← l3]; exact hij)) fun h' k new rec => out i j h' hij k new rec
  done := by
    intro X hP hw hK hc t pins s σ H E I hf st hg
    subst hP hw hK
    obtain ⟨hp, st⟩ := st
    have len := rv.length
    have sz : its.toArray.size = xs.length := by rw [List.size_toArray, len]
    have hg' : (prs xs.length).length ≤ t := hg
    obtain ⟨f0, f1, f2, f3, f4, f5⟩ := hf it (by simp)
    have fin : ∀ h', Heap.ExtBut it s.heap h' → (none : Option Value) = none ∧ Inv X pins σ H { s with heap := h' } := fun h' eb => ⟨rfl, I.turned (t' := s.toks) (fun b o hb e => eb b o hb e) f0 f1 f3 f4 f5⟩
    rcases st with ⟨e, c⟩ | ⟨u, i0, j0, last, e, hu, c⟩
    · subst e
      have h2 : xs.length < 2 := by
        rcases Nat.lt_or_ge xs.length 2 with z | z
        · exact z
        · have := prs_zero z
          rw [List.getElem?_eq_none hg'] at this
          cases this
      rw [sz, if_pos (by omega)] at c
      exact next_none (i := 0) (j := 1) (I.ok.hd hc) c hp fin
    · subst e
      rw [sz] at hu
      obtain ⟨l1, l2, l3⟩ := prs_step hu
      rw [List.getElem?_eq_none hg'] at l3
      exact next_end (I.ok.hd hc) c hp (nx_none l1 (by rw [sz]; exact l2) (by rw [sz]; exact l3.symm)) fin
  self := fun A t s Q E st h => by
    obtain ⟨hp, st⟩ := st
    rcases st with ⟨_, c⟩ | ⟨_, _, _, _, _, _, c⟩ <;> exact iter_comb c h

section
variable {X : Cx} {tg : Expr}
def iComb (K : PySem.W.Frag) (ta : TA) : TI := fun σ H R => ta σ H fun vs H1 => ∃ a xs, vs = [.ref a, .int 2] ∧ SqL K H1 a xs ∧ R (Itcb xs) H1
theorem pi_comb {x : Str} {e e2 : Expr} {ta : TA} {p pos : Pos} (hg : Gl X x) (hm : X.mg x = some (.type "itertools.combinations")) (ha : PA X [e, e2] ta) (hdb : (x == ("__debug__" : Str)) = false := by decide)
    (hs : starEach [e, e2] X.env = (false, eval e X.env) :: starEach [e2] X.env := by rfl) (hpl : (backTo pos (starEach [e2] X.env)).any (·.1) = false := by rfl) :
    PI X tg (.Call (.Name x p) [e, e2] [] pos) (iComb X.K ta) := by
  refine ⟨fun pins s σ H R I h => ?_⟩
  refine wpAny_Call_Name_kw (ld_glob I hg hm ?_ hdb)
  refine PyProof.Rows.callWith_type1 (thn (ha.run pos pins s σ H _ I h) fun us s1 ⟨vs, H1, I1, r1, q1⟩ => ?_) hs hpl
  obtain ⟨a, xs, rfl, hq, q⟩ := q1
  obtain ⟨u1, u2, rfl, e1, ⟨t, rfl⟩⟩ := vals2 r1
  obtain rfl : u1 = Value.ref a := e1
  obtain ⟨its, rv, ⟨o, n, ho, hcl, hne, hda⟩, hz⟩ := I1.list hq
  have len := rv.length
  refine call_comb ho hcl hda (by rw [List.size_toArray, ← len]; exact hz) fun h1 keep => ?_
  have J0 : Inv X pins σ H1 { s1 with heap := h1 } := I1.kept (t' := s1.toks) keep
  have sz1 : (h1.push (tupO its.toArray)).objs.size = h1.objs.size + 1 := Heap.size_push ..
  have g1 : ((h1.push (tupO its.toArray)).push (recC h1.objs.size (if 2 > its.toArray.size then 2 else 0) .none 0 1)).get? h1.objs.size = some (tupO its.toArray) := Heap.get?_push_of_some _ (Heap.get?_push_size _ rfl)
  have g2 : ((h1.push (tupO its.toArray)).push (recC h1.objs.size (if 2 > its.toArray.size then 2 else 0) .none 0 1)).get? (h1.objs.size + 1) = some (recC h1.objs.size (if 2 > its.toArray.size then 2 else 0) .none 0 1) := by
    rw [← sz1]
    exact Heap.get?_push_size _ rfl
  refine iter_comb (s := { s1 with heap := _ }) g2 ?_
  have J1 : Inv X pins σ H1 { s1 with heap := (h1.push (tupO its.toArray)).push (recC h1.objs.size (if 2 > its.toArray.size then 2 else 0) .none 0 1) } :=
    I1.kept (t' := s1.toks) fun b o z => Heap.get?_push_of_some _ (Heap.get?_push_of_some _ (keep b o z))
  refine ⟨h1.objs.size + 1, [h1.objs.size + 1, h1.objs.size], _, _, H1, rfl, J1, turn_comb rv (h1.objs.size + 1) h1.objs.size (Nat.lt_succ_self _), ⟨g1, .inl ⟨rfl, g2⟩⟩, fun b hb => ?_, q⟩
  have low : h1.objs.size ≤ b := by
    have e : b = h1.objs.size + 1 ∨ b = h1.objs.size := by simpa using hb
    rcases e with e | e
    · rw [e]; exact Nat.le_succ _
    · rw [e]; exact Nat.le_refl _
  exact J0.fpOk low (J0.hok.fresh low)

/-- a comprehension over the pairs -/
theorem lc_comb {xs : List V} {g : TG} {tt : TT} {te : TE} {vs : List Nat} {σ : L2.St} {H1 : Hp} {D : Addr} {Qd : Hp → Prop} (Pv : Nat → Hp → Prop) (h0 : Pv 0 (upd H1 D (.lst [])))
    (hs : ∀ (t i j : Nat) (x y : V) (T : Addr) (H : Hp), (prs xs.length)[t]? = some (i, j) → xs[i]? = some x → xs[j]? = some y → Pv t H → H T = none → g (.ref T) (wipe σ vs) (upd H T (.tup [x, y])) fun σ2 H2 => wipe σ2 vs = wipe σ vs ∧ tt σ2 H2 fun b H3 =>
      if b = true then te σ2 H3 fun y H4 => ∃ acc, H4 D = some (.lst acc) ∧ acc.length < sizeLine ∧ Pv (t + 1) (upd H4 D (.lst (acc ++ [y]))) else Pv (t + 1) H3) (hd : ∀ H, Pv (prs xs.length).length H → Qd H) :
    ∃ W : Nat → Nat → Hp → Prop, (∃ m, W 0 m (upd H1 D (.lst []))) ∧ ∀ t m H, W t m H →
      ((Itcb xs).stop t H ∧ Qd H) ∨ ((Itcb xs).go t H ∧ ∃ Nx : Hp → Prop, (∀ H', Nx H' → ∃ m', m' < m ∧ W (t + 1) m' H') ∧ ∀ x H', (Itcb xs).yld t H x H' → g x (wipe σ vs) H' fun σ2 H2 => wipe σ2 vs = wipe σ vs ∧ tt σ2 H2 fun b H3 =>
        if b = true then te σ2 H3 fun y H4 => ∃ acc, H4 D = some (.lst acc) ∧ acc.length < sizeLine ∧ Nx (upd H4 D (.lst (acc ++ [y]))) else Nx H3) := by
  refine ⟨fun t m H => m = (prs xs.length).length - t ∧ t ≤ (prs xs.length).length ∧ Pv t H, ⟨_, rfl, Nat.zero_le _, h0⟩, ?_⟩
  rintro t m H ⟨rfl, ht, pv⟩
  rcases Nat.lt_or_ge t (prs xs.length).length with lt | ge
  · refine .inr ⟨lt, Pv (t + 1), fun H' p' => ⟨(prs xs.length).length - (t + 1), by omega, rfl, lt, p'⟩, fun v H' y => ?_⟩
    obtain ⟨T, i, j, a, b, rfl, hT, rfl, h1, h2, h3⟩ := y
    exact hs t i j a b T H h1 h2 h3 pv hT
  · have e : t = (prs xs.length).length := by omega
    subst e
    exact .inl ⟨Nat.le_refl _, hd H pv⟩
end
end Comb

namespace SortR
open PySem PySem.Spec PyProof.Rows L2 PySem.W
/-- lists of ints by their sequence -/
def rowLe (p q : Addr × List Int) : Bool := decide (p.2 ≤ q.2)
theorem enc_alike (p q : Addr × List Int) : alike (PyData.list (p.2.map .int)) (PyData.list (q.2.map .int)) = true := by
  simp only [alike]
  exact alike_ints p.2 q.2
theorem rows_dp {K : PySem.W.Frag} {H : Hp} : ∀ ns : List Int, DpAll K H (ns.map V.int) (ns.map PyData.int)
  | [] => .nil
  | n :: ns => .cons (.int n) (rows_dp ns)
theorem vals_each {h : Heap} {K : PySem.W.Frag} {H : Hp} {P : Addr × List Int → Prop} : ∀ {bs : List (Addr × List Int)} {us : List Value}, Vals (bs.map fun b => V.ref b.1) us → (∀ b ∈ bs, P b) → EachIs (fun v b => v = Value.ref b.1 ∧ P b) us bs
  | [], us, r, _ => by
    cases r
    exact .nil
  | b :: bs, us, r, hp => by
    cases r with
    | cons r1 r2 =>
      have e : _ = Value.ref b.1 := r1
      exact .cons ⟨e, hp b List.mem_cons_self⟩ (vals_each (h := h) (K := K) (H := H) r2 fun c hc => hp c (List.mem_cons_of_mem _ hc))
theorem each_back {P : Addr × List Int → Prop} : ∀ {us : List Value} {bs : List (Addr × List Int)}, EachIs (fun v b => v = Value.ref b.1 ∧ P b) us bs → Vals (bs.map fun b => V.ref b.1) us
  | _, _, .nil => .nil
  | _, _, .cons h t => .cons h.1 (each_back t)
theorem each_mono {α β : Type} {R S : α → β → Prop} : ∀ {as : List α} {bs : List β}, EachIs R as bs → (∀ a b, R a b → S a b) → EachIs S as bs
  | _, _, .nil, _ => .nil
  | _, _, .cons h t, f => .cons (f _ _ h) (each_mono t f)
section
variable {X : Cx}
/-- sorted(xs), xs a list of lists of ints, of any length -/
theorem call_sortedR (hu : X.A.units + 64 < cLine) : CallR X (.builtin "sorted") (fun xs H Q => ∃ (a : Addr) (bs : List (Addr × List Int)), xs = [V.ref a] ∧ SqL X.K H a (bs.map fun b => V.ref b.1) ∧ (∀ b ∈ bs, SqL X.K H b.1 (b.2.map V.int)) ∧
    ∀ p, H p = none → Q (.ref p) (upd H p (.lst ((bs.mergeSort rowLe).map fun b => V.ref b.1)))) := by
  intro pins s σ H xs us Q I r h
  obtain ⟨a, bs, rfl, hs, hb, q⟩ := h
  obtain ⟨u, rfl, ru⟩ := vals1 r
  obtain rfl : u = Value.ref a := ru
  obtain ⟨its, rv, hl, hz⟩ := I.list hs
  have each : EachIs (fun v b => v = Value.ref b.1 ∧ SqL X.K H b.1 (b.2.map V.int)) its bs := vals_each (h := s.heap) (K := X.K) (H := H) rv hb
  have len : its.length = bs.length := by rw [← rv.length, List.length_map]
  have each2 : EachIs (fun v (b : Addr × List Int) => ∃ as, Reads s.heap v (PyData.list (b.2.map .int)) as) its bs := each_mono each fun v b ⟨e, hq⟩ => by
    rw [e]
    exact Dp.reads I (PyData.list (b.2.map .int)) (.ref b.1) (.ref b.1) (.lst hq (rows_dp b.2)) rfl
  have le : dataLe false (fun b : Addr × List Int => PyData.list (b.2.map .int)) = rowLe := dataLe_rows (fun b : Addr × List Int => b.2)
  refine sorted_data (enc := fun b : Addr × List Int => PyData.list (b.2.map .int)) hl.isList each each2 (AllAlike.of enc_alike) (Sortable.others fun b => ⟨(fun z => nomatch z), fun xs z => nomatch z⟩) (by rw [← len]; rw [List.length_map] at hz; rw [len]; exact hz) (fun b _ => by
    have d : (PyData.list (b.2.map .int)).depth = 1 := by
      simp only [PyData.depth, depth_ints]
    rw [d]
    omega) fun out ho each3 => ?_
  rw [le] at each3
  have back := each_back each3
  obtain ⟨n, hn⟩ := sortedAll_at s.heap its out.toArray
  refine ⟨.ref (s.heap.objs.size + 1), upd H (s.heap.objs.size + 1) (.lst ((bs.mergeSort rowLe).map fun b => V.ref b.1)), I.laid (t' := s.toks) (fun b o e => sortedAll_old e) (Nat.le_succ _) ⟨?_, out, n, back, hn⟩, rfl, q _ (I.hok.fresh (Nat.le_succ _))⟩
  rw [List.length_map, List.length_mergeSort]
  rw [List.length_map] at hz
  exact hz
end
end SortR

namespace SortR
open PySem PySem.Spec PyProof.Rows L2 PySem.W
section
variable {X : Cx}
def rLtR (K : PySem.W.Frag) : R2 := fun x y H Q => ∃ (a b : Addr) (ns ms : List Int), x = .ref a ∧ y = .ref b ∧ SqL K H a (ns.map V.int) ∧ SqL K H b (ms.map V.int) ∧ Q (.bl (decide (ns < ms))) H
/-- xs < ys, two lists of ints -/
theorem op_ltR (hu : X.A.units + 64 < cLine) : OpR X (compareOp .Lt) (rLtR X.K) := by
  intro pins s σ H x y v u Q I rx ry h
  obtain ⟨a, b, ns, ms, rfl, rfl, hs, hm, q⟩ := h
  obtain ⟨as, r1⟩ := Dp.reads I (PyData.list (ns.map .int)) (.ref a) v (.lst hs (rows_dp ns)) rx
  obtain ⟨bs, r2⟩ := Dp.reads I (PyData.list (ms.map .int)) (.ref b) u (.lst hm (rows_dp ms)) ry
  have dep : (PyData.list (ns.map .int)).depth = 1 := by simp only [PyData.depth, depth_ints]
  have lt := rcLt_alike (PyData.list (ns.map .int)) (PyData.list (ms.map .int)) X.A s v u as bs r1 r2 (enc_alike (a, ns) (b, ms)) (fun z => nomatch z) (by rw [dep]; omega)
  have e : dataLt (PyData.list (ns.map .int)) (PyData.list (ms.map .int)) = decide (ns < ms) := by
    rw [dataLt_list]
    exact dataLt_ints ns ms
  rw [e] at lt
  exact lt _ _ _ _ ⟨.bl _, H, I, rfl, q⟩
/-- a comprehension over zip of two lists that stand still -/
theorem lc_zipL {K : PySem.W.Frag} {a b : Addr} {xs ys : List V} {g : TG} {tt : TT} {te : TE} {vs : List Nat} {σ : L2.St} {H1 : Hp} {D : Addr} {Qd : Hp → Prop} (Pv : Nat → Hp → Prop) (h0 : Pv 0 (upd H1 D (.lst []))) (hl : ∀ i H, Pv i H → SqL K H a xs ∧ SqL K H b ys)
    (hs : ∀ (i : Nat) (x y : V) (T : Addr) (H : Hp), xs[i]? = some x → ys[i]? = some y → Pv i H → H T = none → g (.ref T) (wipe σ vs) (upd H T (.tup [x, y])) fun σ2 H2 => wipe σ2 vs = wipe σ vs ∧ tt σ2 H2 fun b H3 =>
      if b = true then te σ2 H3 fun y H4 => ∃ acc, H4 D = some (.lst acc) ∧ acc.length < sizeLine ∧ Pv (i + 1) (upd H4 D (.lst (acc ++ [y]))) else Pv (i + 1) H3) (hd : ∀ H, Pv (min xs.length ys.length) H → Qd H) :
    ∃ W : Nat → Nat → Hp → Prop, (∃ m, W 0 m (upd H1 D (.lst []))) ∧ ∀ i m H, W i m H →
      ((Itz K a b).stop i H ∧ Qd H) ∨ ((Itz K a b).go i H ∧ ∃ Nx : Hp → Prop, (∀ H', Nx H' → ∃ m', m' < m ∧ W (i + 1) m' H') ∧ ∀ x H', (Itz K a b).yld i H x H' → g x (wipe σ vs) H' fun σ2 H2 => wipe σ2 vs = wipe σ vs ∧ tt σ2 H2 fun b H3 =>
        if b = true then te σ2 H3 fun y H4 => ∃ acc, H4 D = some (.lst acc) ∧ acc.length < sizeLine ∧ Nx (upd H4 D (.lst (acc ++ [y]))) else Nx H3) := by
  refine ⟨fun i m H => m = min xs.length ys.length - i ∧ i ≤ min xs.length ys.length ∧ Pv i H, ⟨_, rfl, Nat.zero_le _, h0⟩, ?_⟩
  rintro i m H ⟨rfl, hi, pv⟩
  obtain ⟨qx, qy⟩ := hl i H pv
  rcases Nat.lt_or_ge i (min xs.length ys.length) with lt | ge
  · have ex : xs[i]? = some xs[i] := List.getElem?_eq_getElem (by omega)
    have ey : ys[i]? = some ys[i] := List.getElem?_eq_getElem (by omega)
    refine .inr ⟨⟨xs, ys, _, _, qx, qy, ex, ey⟩, Pv (i + 1), fun H' p' => ⟨min xs.length ys.length - (i + 1), by omega, rfl, lt, p'⟩, fun v H' y => ?_⟩
    obtain ⟨T, x', y', rfl, hT, rfl, f1, f2⟩ := y
    exact hs i x' y' T H (f1 xs qx) (f2 ys qy) pv hT
  · have e : i = min xs.length ys.length := by omega
    subst e
    exact .inl ⟨⟨xs, ys, qx, qy, by omega⟩, hd H pv⟩
/-- a comprehension over enumerate of a list that stands still -/
theorem lc_enumL {K : PySem.W.Frag} {a : Addr} {xs : List V} {g : TG} {tt : TT} {te : TE} {vs : List Nat} {σ : L2.St} {H1 : Hp} {D : Addr} {Qd : Hp → Prop} (Pv : Nat → Hp → Prop) (h0 : Pv 0 (upd H1 D (.lst []))) (hl : ∀ i H, Pv i H → SqL K H a xs)
    (hs : ∀ (i : Nat) (x : V) (T : Addr) (H : Hp), xs[i]? = some x → Pv i H → H T = none → g (.ref T) (wipe σ vs) (upd H T (.tup [.int (i : Nat), x])) fun σ2 H2 => wipe σ2 vs = wipe σ vs ∧ tt σ2 H2 fun b H3 =>
      if b = true then te σ2 H3 fun y H4 => ∃ acc, H4 D = some (.lst acc) ∧ acc.length < sizeLine ∧ Pv (i + 1) (upd H4 D (.lst (acc ++ [y]))) else Pv (i + 1) H3) (hd : ∀ H, Pv xs.length H → Qd H) :
    ∃ W : Nat → Nat → Hp → Prop, (∃ m, W 0 m (upd H1 D (.lst []))) ∧ ∀ i m H, W i m H →
      ((Ite K a).stop i H ∧ Qd H) ∨ ((Ite K a).go i H ∧ ∃ Nx : Hp → Prop, (∀ H', Nx H' → ∃ m', m' < m ∧ W (i + 1) m' H') ∧ ∀ x H', (Ite K a).yld i H x H' → g x (wipe σ vs) H' fun σ2 H2 => wipe σ2 vs = wipe σ vs ∧ tt σ2 H2 fun b H3 =>
        if b = true then te σ2 H3 fun y H4 => ∃ acc, H4 D = some (.lst acc) ∧ acc.length < sizeLine ∧ Nx (upd H4 D (.lst (acc ++ [y]))) else Nx H3) := by
  refine ⟨fun i m H => m = xs.length - i ∧ i ≤ xs.length ∧ Pv i H, ⟨_, rfl, Nat.zero_le _, h0⟩, ?_⟩
  rintro i m H ⟨rfl, hi, pv⟩
  have qx := hl i H pv
  rcases Nat.lt_or_ge i xs.length with lt | ge
  · have ex : xs[i]? = some xs[i] := List.getElem?_eq_getElem lt
    refine .inr ⟨⟨xs, _, qx, ex⟩, Pv (i + 1), fun H' p' => ⟨xs.length - (i + 1), by omega, rfl, lt, p'⟩, fun v H' y => ?_⟩
    obtain ⟨T, x', rfl, hT, rfl, f1⟩ := y
    exact hs i x' T H (f1 xs qx) pv hT
  · have e : i = xs.length := by omega
    subst e
    exact .inl ⟨⟨xs, qx, Nat.le_refl _⟩, hd H pv⟩
end
end SortR

/-! Comprehensions without a test, by the value of each turn: what stood stands. -/
namespace LcM
open PySem PySem.Spec PyProof.Rows L2
/-- all that stood stands -/
def Grows (H H' : Hp) : Prop := ∀ b o, H b = some o → H' b = some o
theorem Grows.refl {H : Hp} : Grows H H := fun _ _ e => e
theorem Grows.trans {H H1 H2 : Hp} (x : Grows H H1) (y : Grows H1 H2) : Grows H H2 := fun b o e => y b o (x b o e)
theorem Grows.new {a : Addr} {H : Hp} {o : HO} (h : H a = none) : Grows H (upd H a o) := fun b u e => by
  rw [upd_ne (ne_of_none e h)]
  exact e
theorem Grows.seq {K : PySem.W.Frag} {H H' : Hp} {a : Addr} {xs : List V} (s : Grows H H') (h : SqL K H a xs) : SqL K H' a xs := by
  rcases h with (h | ⟨o, h⟩) | h
  · exact .inl (.inl (s _ _ h))
  · exact .inl (.inr ⟨o, s _ _ h⟩)
  · exact .inr h
theorem Grows.tup {K : PySem.W.Frag} {H H' : Hp} {a : Addr} {xs : List V} (s : Grows H H') (h : SqT K H a xs) : SqT K H' a xs := by
  rcases h with (h | ⟨o, h⟩) | h
  · exact .inl (.inl (s _ _ h))
  · exact .inl (.inr ⟨o, s _ _ h⟩)
  · exact .inr h
/-- the list that is made -/
def Ma (H0 : Hp) (D : Addr) (F : Nat → V) (i : Nat) (H : Hp) : Prop := Grows H0 H ∧ H D = some (.lst ((List.range i).map F))
theorem Ma.start {H0 : Hp} {D : Addr} {F : Nat → V} (hD : H0 D = none) : Ma H0 D F 0 (upd H0 D (.lst [])) := ⟨Grows.new hD, upd_same⟩
theorem yes_eq {te : TE} {A : L2.St → Prop} {R : V → Hp → Prop} {Y : Hp → Prop} :
    (fun (σ2 : L2.St) (H2 : Hp) => A σ2 ∧ tYes σ2 H2 fun b H3 => if b = true then te σ2 H3 R else Y H3) = fun σ2 H2 => A σ2 ∧ te σ2 H2 R := by
  funext σ2 H2
  unfold tYes
  dsimp only
  rw [if_pos rfl]
/-- one more -/
theorem Ma.more {H0 H H4 : Hp} {D : Addr} {F : Nat → V} {i : Nat} (hD : H0 D = none) (m : Ma H0 D F i H) (s : Grows H H4) (small : i < 1000000) :
    ∃ acc, H4 D = some (.lst acc) ∧ acc.length < sizeLine ∧ Ma H0 D F (i + 1) (upd H4 D (.lst (acc ++ [F i]))) := by
  refine ⟨_, s _ _ m.2, ?_, fun b o e => ?_, ?_⟩
  · rw [List.length_map, List.length_range]
    exact Nat.lt_trans small (by decide)
  · rw [upd_ne (ne_of_none e hD)]
    exact s _ _ (m.1 _ _ e)
  · rw [upd_same, List.range_succ, List.map_append]
    rfl
section
variable {K : PySem.W.Frag} {a b : Addr} {xs ys : List V} {g : TG} {te : TE} {vs : List Nat} {σ : L2.St} {H0 : Hp} {D : Addr} {Qd : Hp → Prop}
theorem lc_listM (F : Nat → V) (hD : H0 D = none) (hx : SqL K H0 a xs) (small : xs.length ≤ 1000000)
    (turn : ∀ (i : Nat) (x : V) (H : Hp) (R : V → Hp → Prop), xs[i]? = some x → Grows H0 H → (∀ H4, Grows H H4 → R (F i) H4) → g x (wipe σ vs) H fun σ2 H2 => wipe σ2 vs = wipe σ vs ∧ te σ2 H2 R)
    (done : ∀ H, Grows H0 H → H D = some (.lst ((List.range xs.length).map F)) → Qd H) :
    ∃ W : Nat → Nat → Hp → Prop, (∃ m, W 0 m (upd H0 D (.lst []))) ∧ ∀ i m H, W i m H →
      ((Itl K a).stop i H ∧ Qd H) ∨ ((Itl K a).go i H ∧ ∃ Nx : Hp → Prop, (∀ H', Nx H' → ∃ m', m' < m ∧ W (i + 1) m' H') ∧ ∀ x H', (Itl K a).yld i H x H' → g x (wipe σ vs) H' fun σ2 H2 => wipe σ2 vs = wipe σ vs ∧ tYes σ2 H2 fun b H3 =>
        if b = true then te σ2 H3 fun y H4 => ∃ acc, H4 D = some (.lst acc) ∧ acc.length < sizeLine ∧ Nx (upd H4 D (.lst (acc ++ [y]))) else Nx H3) := by
  refine lc_list (Ma H0 D F) (Ma.start hD) (fun i H _ m => m.1.seq hx) (fun i x H ex m => ?_) fun H m => done H m.1 m.2
  rw [yes_eq (A := fun σ2 => wipe σ2 vs = wipe σ vs)]
  exact turn i x H _ ex m.1 fun H4 s => m.more hD s (Nat.lt_of_lt_of_le (List.getElem?_eq_some_iff.mp ex).1 small)
theorem lc_zipM (F : Nat → V) (hD : H0 D = none) (hx : SqL K H0 a xs) (hy : SqL K H0 b ys) (small : xs.length ≤ 1000000)
    (turn : ∀ (i : Nat) (x y : V) (T : Addr) (H : Hp) (R : V → Hp → Prop), xs[i]? = some x → ys[i]? = some y → Grows H0 H → H T = none → (∀ H4, Grows (upd H T (.tup [x, y])) H4 → R (F i) H4) → g (.ref T) (wipe σ vs) (upd H T (.tup [x, y])) fun σ2 H2 => wipe σ2 vs = wipe σ vs ∧ te σ2 H2 R)
    (done : ∀ H, Grows H0 H → H D = some (.lst ((List.range (min xs.length ys.length)).map F)) → Qd H) :
    ∃ W : Nat → Nat → Hp → Prop, (∃ m, W 0 m (upd H0 D (.lst []))) ∧ ∀ i m H, W i m H →
      ((Itz K a b).stop i H ∧ Qd H) ∨ ((Itz K a b).go i H ∧ ∃ Nx : Hp → Prop, (∀ H', Nx H' → ∃ m', m' < m ∧ W (i + 1) m' H') ∧ ∀ x H', (Itz K a b).yld i H x H' → g x (wipe σ vs) H' fun σ2 H2 => wipe σ2 vs = wipe σ vs ∧ tYes σ2 H2 fun b H3 =>
        if b = true then te σ2 H3 fun y H4 => ∃ acc, H4 D = some (.lst acc) ∧ acc.length < sizeLine ∧ Nx (upd H4 D (.lst (acc ++ [y]))) else Nx H3) := by
  refine SortR.lc_zipL (Ma H0 D F) (Ma.start hD) (fun i H m => ⟨m.1.seq hx, m.1.seq hy⟩) (fun i x y T H ex ey m hT => ?_) fun H m => done H m.1 m.2
  rw [yes_eq (A := fun σ2 => wipe σ2 vs = wipe σ vs)]
  exact turn i x y T H _ ex ey m.1 hT fun H4 s => m.more hD ((Grows.new hT).trans s) (Nat.lt_of_lt_of_le (List.getElem?_eq_some_iff.mp ex).1 small)
theorem lc_enumM (F : Nat → V) (hD : H0 D = none) (hx : SqL K H0 a xs) (small : xs.length ≤ 1000000)
    (turn : ∀ (i : Nat) (x : V) (T : Addr) (H : Hp) (R : V → Hp → Prop), xs[i]? = some x → Grows H0 H → H T = none → (∀ H4, Grows (upd H T (.tup [.int (i : Nat), x])) H4 → R (F i) H4) → g (.ref T) (wipe σ vs) (upd H T (.tup [.int (i : Nat), x])) fun σ2 H2 => wipe σ2 vs = wipe σ vs ∧ te σ2 H2 R)
    (done : ∀ H, Grows H0 H → H D = some (.lst ((List.range xs.length).map F)) → Qd H) :
    ∃ W : Nat → Nat → Hp → Prop, (∃ m, W 0 m (upd H0 D (.lst []))) ∧ ∀ i m H, W i m H →
      ((Ite K a).stop i H ∧ Qd H) ∨ ((Ite K a).go i H ∧ ∃ Nx : Hp → Prop, (∀ H', Nx H' → ∃ m', m' < m ∧ W (i + 1) m' H') ∧ ∀ x H', (Ite K a).yld i H x H' → g x (wipe σ vs) H' fun σ2 H2 => wipe σ2 vs = wipe σ vs ∧ tYes σ2 H2 fun b H3 =>
        if b = true then te σ2 H3 fun y H4 => ∃ acc, H4 D = some (.lst acc) ∧ acc.length < sizeLine ∧ Nx (upd H4 D (.lst (acc ++ [y]))) else Nx H3) := by
  refine SortR.lc_enumL (Ma H0 D F) (Ma.start hD) (fun i H m => m.1.seq hx) (fun i x T H ex m hT => ?_) fun H m => done H m.1 m.2
  rw [yes_eq (A := fun σ2 => wipe σ2 vs = wipe σ vs)]
  exact turn i x T H _ ex m.1 hT fun H4 s => m.more hD ((Grows.new hT).trans s) (Nat.lt_of_lt_of_le (List.getElem?_eq_some_iff.mp ex).1 small)
theorem lc_combM (F : Nat → V) (hD : H0 D = none) (small : xs.length ≤ 1000)
    (turn : ∀ (t i j : Nat) (x y : V) (T : Addr) (H : Hp) (R : V → Hp → Prop), (Comb.prs xs.length)[t]? = some (i, j) → xs[i]? = some x → xs[j]? = some y → Grows H0 H → H T = none → (∀ H4, Grows (upd H T (.tup [x, y])) H4 → R (F t) H4) → g (.ref T) (wipe σ vs) (upd H T (.tup [x, y])) fun σ2 H2 => wipe σ2 vs = wipe σ vs ∧ te σ2 H2 R)
    (done : ∀ H, Grows H0 H → H D = some (.lst ((List.range (Comb.prs xs.length).length).map F)) → Qd H) :
    ∃ W : Nat → Nat → Hp → Prop, (∃ m, W 0 m (upd H0 D (.lst []))) ∧ ∀ t m H, W t m H →
      ((Comb.Itcb xs).stop t H ∧ Qd H) ∨ ((Comb.Itcb xs).go t H ∧ ∃ Nx : Hp → Prop, (∀ H', Nx H' → ∃ m', m' < m ∧ W (t + 1) m' H') ∧ ∀ x H', (Comb.Itcb xs).yld t H x H' → g x (wipe σ vs) H' fun σ2 H2 => wipe σ2 vs = wipe σ vs ∧ tYes σ2 H2 fun b H3 =>
        if b = true then te σ2 H3 fun y H4 => ∃ acc, H4 D = some (.lst acc) ∧ acc.length < sizeLine ∧ Nx (upd H4 D (.lst (acc ++ [y]))) else Nx H3) := by
  refine Comb.lc_comb (Ma H0 D F) (Ma.start hD) (fun t i j x y T H et ex ey m hT => ?_) fun H m => done H m.1 m.2
  rw [yes_eq (A := fun σ2 => wipe σ2 vs = wipe σ vs)]
  refine turn t i j x y T H _ et ex ey m.1 hT fun H4 s => m.more hD ((Grows.new hT).trans s) ?_
  have l1 := (List.getElem?_eq_some_iff.mp et).1
  have l2 := Comb.rows_len (xs.length - 1) 0
  have l3 : (xs.length - 1) * (xs.length - 1) ≤ 999 * 999 := Nat.mul_le_mul (by omega) (by omega)
  unfold Comb.prs at l1
  omega
end
/-- xs[1:] -/
theorem cut_tail (xs : List V) : cutV xs (some 1) none = xs.tail := by
  unfold cutV
  rw [HT.sIx_none, show (some (1 : Int)) = some ((1 : Nat) : Int) from rfl, HT.sIx_nat]
  cases xs with
  | nil => rfl
  | cons x l =>
    have e : min 1 (x :: l).length = 1 := by rw [List.length_cons]; omega
    rw [e, List.drop_one, List.tail_cons, List.length_cons, Nat.add_sub_cancel, List.take_length]
end LcM

/-! {key: value for target in iterable if test}, the keys tuples. -/
namespace DcT
open PySem PySem.Spec PyProof.Rows L2
section
variable {X : Cx} {pins : List (Addr × Obj)} {σ : L2.St} {H : Hp} {s : Shared}
/-- one entry is laid by the comprehension -/
theorem set_tup {Er : Value → Shared → Prop} {d b : Addr} {kvs : List (List L2.Key × V)} {k : List L2.Key} {v : V} {u r : Value} {Qu : Unit → Shared → Prop} (room : X.A.units + 1 < cLine) (I : Inv X pins σ H s) (at_d : H d = some (.dT kvs)) (few : kvs.length < sizeLine)
    (at_b : H b = some (.tup (k.map kV))) (ru : RelV (.ref b) u) (rr : RelV v r) (go : ∀ s', Inv X pins σ (upd H d (.dT (putK kvs k v))) s' → Qu () s') : wpAny (model X.prog X.w) X.A (dictSet d u r) Qu Er s := by
  obtain rfl : u = Value.ref b := ru
  obtain ⟨fits, notSys, xs, rel, raw⟩ := dt_of I.hok at_d
  have n1 : xs.length ≤ sizeLine := Paired.length rel ▸ fits
  have n2 : (putK kvs k v).length ≤ sizeLine := Nat.le_trans (length_putK kvs k v) few
  refine wpAny_dictSet_heap (hsz := n1) (show X.A.units < cLine from Nat.lt_of_succ_lt room) (key_of I.hok at_b) raw fun hp raw' same => go _ ?_
  obtain ⟨o, es, ep, g1, g2, g3, g4, _, g5⟩ := raw'
  refine d_write I (by rw [at_d]; exact True.intro) same ⟨o, g1⟩ ⟨n2, notSys, _, (rel.put k at_b rr).keeps fun c ys ec => ?_, o, es, ep, g1, g2, g3, g4, g5⟩
  rw [upd_ne (ne_of ec at_d fun z => nomatch z)]
  exact ec
end
section
variable {X : Cx}
def tDcT (wi : TI) (g : TG) (tt : TT) (tk tv : TE) (vs : List Nat) : TE := fun σ H Q => wi σ H fun J H1 => ∀ D, H1 D = none → ∃ W : Nat → Nat → Hp → Prop, (∃ m, W 0 m (upd H1 D (.dT []))) ∧ ∀ i m H, W i m H →
  (J.stop i H ∧ Q (.ref D) H) ∨ (J.go i H ∧ ∃ Nx : Hp → Prop, (∀ H', Nx H' → ∃ m', m' < m ∧ W (i + 1) m' H') ∧ ∀ x H', J.yld i H x H' → g x (wipe σ vs) H' fun σ2 H2 => wipe σ2 vs = wipe σ vs ∧ tt σ2 H2 fun t H3 =>
    if t = true then tk σ2 H3 fun y H4 => tv σ2 H4 fun z H5 => ∃ b kvs k, y = .ref b ∧ H5 b = some (.tup (k.map kV)) ∧ H5 D = some (.dT kvs) ∧ kvs.length < sizeLine ∧ Nx (upd H5 D (.dT (putK kvs k z))) else Nx H3)
theorem dcT_core {pins : List (Addr × Obj)} {s0 : Shared} {σ : L2.St} {H0 : Hp} {Q : VK} {kx vx tg iter : Expr} {ifs : List Expr} {scope : Scope} {own : List (Str × Nat)} {pos pos' : Pos} {wi : TI} {g : TG} {tt : TT} {tk tv : TE} {use : Option (Value → Sem Unit)} {Qf : Value → Shared → Prop}
    (room : X.A.units + 64 < cLine) (calm : X.calm = true) (nd : X.N.Nodup) (I0 : Inv X pins σ H0 s0) (pi : PI X tg iter wi) (ok : BlkOk X.N X.env.scope scope own)
    (pgs : ∀ (s : Shared) (H : Hp) (C : Addr) (cl : List (Str × Addr)) (fp : List Addr), PG (X.blk s H scope (compEnvC scope cl C X.env) fp) tg g) (pts : ∀ (s : Shared) (H : Hp) (C : Addr) (cl : List (Str × Addr)) (fp : List Addr), PTs (X.blk s H scope (compEnvC scope cl C X.env) fp) ifs tt)
    (pks : ∀ (s : Shared) (H : Hp) (C : Addr) (cl : List (Str × Addr)) (fp : List Addr), PE (X.blk s H scope (compEnvC scope cl C X.env) fp) kx tk) (pvs : ∀ (s : Shared) (H : Hp) (C : Addr) (cl : List (Str × Addr)) (fp : List Addr), PE (X.blk s H scope (compEnvC scope cl C X.env) fp) vx tv)
    (fold : ∀ x, foldedSetIterable iter X.env x = pure x) (rd : tDcT wi g tt tk tv (own.map (·.2)) σ H0 Q)
    (post : ∀ D C t ns G, Inv X pins σ G t → Q (.ref D) G → t.heap.Ns C ns → FpOk X pins G C → compPost (model X.prog X.w) X.A X.xe use Qf (.ref D) C (.ok .next) t) :
    wpAny (model X.prog X.w) X.A (comprehension (.DictComp kx vx [⟨tg, iter, ifs, 0⟩] scope pos) scope X.env pos' newDict false (eval iter X.env) use) Qf X.xe s0 := by
  have isFree : ∀ y ∈ scope.names, y.2 = .free → ∃ c, X.env.cells.lookup y.1 = some c := fun y hy ey => (ok.free y hy ey).elim (fun z => I0.ok.has _ (.inl z)) fun z => I0.ok.has _ (.inr z)
  refine wpAny_comprehension_free (use := use) rfl fold (closure_ok isFree) ok.kind (fun y hy ey => (ok.uniq y hy).trans (congrArg some ey)) (thn (pi.run pins s0 σ H0 _ I0 rd) fun _ sa ha => thn ha fun _ sb hb => ?_)
  obtain ⟨it, fp, tn, J, Hb, rfl, Ib, Tn, tn0, fb, q⟩ := hb
  refine wpAny_newObj_type (newEnv_comp ?_)
  have free0 : Hb sb.heap.objs.size = none := Ib.hok.fresh (Nat.le_refl _)
  obtain ⟨W, ⟨m0, w0⟩, turn⟩ := q _ free0
  -- with the dict, empty
  obtain ⟨sc, esc⟩ : ∃ z : Shared, z = { sb with heap := sb.heap.push { cls := .type "dict", data := .dict #[] } } := ⟨_, rfl⟩
  obtain ⟨Hc, eHc⟩ : ∃ z : Hp, z = upd Hb sb.heap.objs.size (.dT []) := ⟨_, rfl⟩
  have Ic : Inv X pins σ Hc sc := by
    rw [esc, eHc]
    exact Ib.laid (t' := sb.toks) (fun b o z => Heap.get?_push_of_some _ z) (Nat.le_refl _) (dt_empty sb.heap Ib.big)
  have up : ∀ b o, sb.heap.get? b = some o → sc.heap.get? b = some o := fun b o z => by
    rw [esc]
    exact Heap.get?_push_of_some _ z
  have below : ∀ b ∈ fp, b < sb.heap.objs.size := fun b hb => let ⟨_, z, _⟩ := Tn.obj _ _ tn0 b hb; Heap.lt_size z
  have fc : ∀ b ∈ fp, FpOk X pins Hc b ∧ b < sc.heap.objs.size := fun b hb => by
    obtain ⟨o, z, _⟩ := Tn.obj _ _ tn0 b hb
    refine ⟨⟨?_, (fb b hb).2⟩, Heap.lt_size (up b o z)⟩
    rw [eHc, upd_ne (Nat.ne_of_lt (below b hb))]
    exact (fb b hb).1
  have tnc : tn 0 sc.heap := Tn.keep _ _ _ tn0 fun b _ o z => up b o z
  have Ie := block_start Ic ok nd fc
  obtain ⟨cells, ecl⟩ : ∃ z, z = cellsFrom (sc.heap.objs.size + 1) scope.names (cloFrom X.env.cells scope.names []) := ⟨_, rfl⟩
  have pg := pgs sc Hc sc.heap.objs.size cells fp
  have pt := pts sc Hc sc.heap.objs.size cells fp
  have pk := pks sc Hc sc.heap.objs.size cells fp
  have pv := pvs sc Hc sc.heap.objs.size cells fp
  rw [← ecl] at Ie
  rw [← esc]
  show codeAny _ _ (.compStart _ 0 (.ref it) (.ref sb.heap.objs.size) (compEnvC scope (cellsFrom (sc.heap.objs.size + 1) scope.names (cloFrom X.env.cells scope.names [])) sc.heap.objs.size X.env)) (compPost _ _ X.xe use Qf (.ref sb.heap.objs.size) sc.heap.objs.size) _
  rw [← ecl]
  have loc : (compEnvC scope cells sc.heap.objs.size X.env).locals = sc.heap.objs.size := rfl
  rw [← eHc] at w0
  have empty : ∀ b ∈ fp, Hc b = none := fun b hb => (fc b hb).1.1
  obtain ⟨sd, esd⟩ : ∃ z : Shared, z = { sc with heap := pushCells (sc.heap.push { cls := .type "dict", data := .dict #[] }) scope.names } := ⟨_, rfl⟩
  have tnd : tn 0 sd.heap := Tn.keep _ _ _ tnc fun b _ o z => by
    rw [esd]
    exact pushCells_keeps _ _ _ _ (Heap.get?_push_of_some _ z)
  rw [← esd] at Ie ⊢
  generalize compEnvC scope cells sc.heap.objs.size X.env = ce at Ie pg pt pk pv loc ⊢
  -- the iterator's own objects in the block
  have own_ok : ∀ {ρ : L2.St} {G : Hp} {t : Shared}, Inv (X.blk sc Hc scope ce fp) [] ρ G t → (∀ b ∈ fp, G b = none) → ∀ b ∈ fp, FpOk (X.blk sc Hc scope ce fp) [] G b := fun {ρ G t} J hn b hb =>
    ⟨hn b hb, (J.ok.exf b hb).1, J.ok.exfs b hb, .inl hb, fun y c z => (J.ok.exf b hb).2 y c z, fun p hp => (nomatch hp)⟩
  have run : codeAny (model X.prog X.w) X.A (.compLoop (.DictComp kx vx [⟨tg, iter, ifs, 0⟩] scope pos) 0 (.ref it) (.ref sb.heap.objs.size) ce) (compPost (model X.prog X.w) X.A X.xe use Qf (.ref sb.heap.objs.size) sc.heap.objs.size) sd := by
    refine compLoop_anyD (fun m t => ∃ i G, Inv (X.blk sc Hc scope ce fp) [] (wipe σ (own.map (·.2))) G t ∧ tn i t.heap ∧ (∀ b ∈ fp, G b = none) ∧ W i m G) ?_ m0 ⟨0, Hc, Ie, tnd, empty, w0⟩
    rintro m t ⟨i, G, J, tni, none_, wi_⟩
    rcases turn i m G wi_ with ⟨stop, fin⟩ | ⟨go, Nx, less, step⟩
    · refine thnF (Tn.done (X.blk sc Hc scope ce fp) rfl rfl rfl calm i [] t _ G (fun _ _ => False) J (own_ok J none_) tni stop) fun r t2 ⟨er, J2⟩ => ?_
      subst er
      have back : Inv X pins σ G t2 := Ic.call' (ch := fp) J2.os J2.base J2.hok J2.bare fun b hb => ⟨(fc b hb).1.2.2.2.1, (fc b hb).1.2.1, (fc b hb).1.2.2.2.2.1, (fc b hb).1.2.2.2.2.2⟩
      have noC : G sc.heap.objs.size = none := by
        have z : G ce.locals = none := J2.free
        rwa [loc] at z
      obtain ⟨ns, isNs, _⟩ := J2.loc
      have isNs' : t2.heap.Ns ce.locals ns := isNs
      rw [loc] at isNs'
      exact post _ _ t2 ns G back fin isNs' (Ic.fpOk (Nat.le_refl _) noC)
    · refine thnF (Tn.item (X.blk sc Hc scope ce fp) rfl rfl rfl calm i [] t _ G (fun _ _ => False) J (own_ok J none_) tni go) fun r t2 ⟨u, er, h2⟩ => ?_
      subst er
      refine thnF h2 fun _ t3 ⟨x, G3, J3, r3, y3, tn3, none3⟩ => ?_
      have K3 := J3.pinned (own_ok J3 none3) (Tn.obj _ _ tn3)
      refine thnF (pg.run _ t3 _ G3 x u _ K3 r3 (step x G3 y3)) fun _ t4 ⟨ρ4, G4, J4, same4, q4⟩ => ?_
      refine thnF (pt.run _ t4 ρ4 G4 _ J4 q4) fun yes t5 ⟨G5, J5, q5⟩ => ?_
      have next : ∀ {t' : Shared} {G' : Hp}, Inv (X.blk sc Hc scope ce fp) ([] ++ pinsAt fp t3.heap) ρ4 G' t' → Nx G' → ∃ m', m' < m ∧ ∃ i G, Inv (X.blk sc Hc scope ce fp) [] (wipe σ (own.map (·.2))) G t' ∧ tn i t'.heap ∧ (∀ b ∈ fp, G b = none) ∧ W i m' G := fun {t' G'} J' nx => by
        obtain ⟨m', lt, w'⟩ := less G' nx
        have held : ∀ b ∈ fp, ∀ o, t3.heap.get? b = some o → t'.heap.get? b = some o ∧ G' b = none := fun b hb o z =>
          have p := J'.pin (b, o) (List.mem_append_right _ (List.mem_append_right _ (mem_pinsAt hb z)))
          ⟨p.1, p.2.1⟩
        have len : (wipe σ (own.map (·.2))).length = ρ4.length := by rw [← same4, wipe_length]
        refine ⟨m', lt, i + 1, G', (J'.unpinned (pins := [])).weak len (fun j v z => ?_), Tn.keep _ _ _ tn3 fun b hb o z => (held b hb o z).1, fun b hb => ?_, w'⟩
        · rw [← same4] at z
          exact (wipe_some z).1
        · obtain ⟨o, z, _⟩ := Tn.obj _ _ tn3 b hb
          exact (held b hb o z).2
      cases yes with
      | false =>
        simp only [Bool.false_eq_true, if_false] at q5 ⊢
        exact next J5 q5
      | true =>
        simp only [if_true] at q5 ⊢
        refine thnF (pk.run _ t5 ρ4 G5 _ J5 q5) fun ku t6 ⟨yk, G6, J6, r6, q6⟩ => thnF (pv.run _ t6 ρ4 G6 _ J6 q6) fun vu t7 ⟨yv, G7, J7, r7, b, kvs, k, ek, at_b, at_d, few, nx⟩ => ?_
        subst ek
        exact set_tup (X := X.blk sc Hc scope ce fp) (show X.A.units + 1 < cLine by omega) J7 at_d few at_b r6 r7 fun t8 J8 => next J8 nx
  exact codeAny_compStart_dict run (Tn.self X.A 0 _ _ _ tnd run)
/-- as a value -/
theorem pe_dcT {kx vx tg iter : Expr} {ifs : List Expr} {scope : Scope} {own : List (Str × Nat)} {pos : Pos} {wi : TI} {g : TG} {tt : TT} {tk tv : TE} (room : X.A.units + 64 < cLine) (calm : X.calm = true) (nd : X.N.Nodup) (pi : PI X tg iter wi) (ok : BlkOk X.N X.env.scope scope own)
    (pgs : ∀ (s : Shared) (H : Hp) (C : Addr) (cl : List (Str × Addr)) (fp : List Addr), PG (X.blk s H scope (compEnvC scope cl C X.env) fp) tg g) (pts : ∀ (s : Shared) (H : Hp) (C : Addr) (cl : List (Str × Addr)) (fp : List Addr), PTs (X.blk s H scope (compEnvC scope cl C X.env) fp) ifs tt)
    (pks : ∀ (s : Shared) (H : Hp) (C : Addr) (cl : List (Str × Addr)) (fp : List Addr), PE (X.blk s H scope (compEnvC scope cl C X.env) fp) kx tk) (pvs : ∀ (s : Shared) (H : Hp) (C : Addr) (cl : List (Str × Addr)) (fp : List Addr), PE (X.blk s H scope (compEnvC scope cl C X.env) fp) vx tv)
    (fold : ∀ x, foldedSetIterable iter X.env x = pure x := by intro _; rfl) : PE X (.DictComp kx vx [⟨tg, iter, ifs, 0⟩] scope pos) (tDcT wi g tt tk tv (own.map (·.2))) := by
  refine ⟨fun pins s0 σ H0 Q I0 rd => ?_⟩
  rw [arm_eval_DictComp]
  refine dcT_core room calm nd I0 pi ok pgs pts pks pvs fold rd fun D C t ns G J fin isNs ⟨f0, f1, f2, f3, f4, f5⟩ => ⟨ns, isNs, fun h2 sb2 => ⟨.ref D, G, J.turned (t' := t.toks) (fun b o ne z => (sb2.2 b ne).trans z) f0 f1 f3 f4 f5, rfl, fin⟩⟩
/-- name = {..} on one line, the name a local -/
theorem ps_setDcT {i : Nat} {y : Str} {py : Pos} {kx vx tg iter : Expr} {ifs : List Expr} {scope : Scope} {own : List (Str × Nat)} {pos spos : Pos} {wi : TI} {g : TG} {tt : TT} {tk tv : TE} (room : X.A.units + 64 < cLine) (calm : X.calm = true) (nd : X.N.Nodup) (at_y : X.N[i]? = some y) (loc : X.env.scope.names.lookup y = some .local)
    (sw : swapsWith (.DictComp kx vx [⟨tg, iter, ifs, 0⟩] scope pos) (some (.Name y py)) spos.line X.env = pure true) (pi : PI X tg iter wi) (ok : BlkOk X.N X.env.scope scope own)
    (pgs : ∀ (s : Shared) (H : Hp) (C : Addr) (cl : List (Str × Addr)) (fp : List Addr), PG (X.blk s H scope (compEnvC scope cl C X.env) fp) tg g) (pts : ∀ (s : Shared) (H : Hp) (C : Addr) (cl : List (Str × Addr)) (fp : List Addr), PTs (X.blk s H scope (compEnvC scope cl C X.env) fp) ifs tt)
    (pks : ∀ (s : Shared) (H : Hp) (C : Addr) (cl : List (Str × Addr)) (fp : List Addr), PE (X.blk s H scope (compEnvC scope cl C X.env) fp) kx tk) (pvs : ∀ (s : Shared) (H : Hp) (C : Addr) (cl : List (Str × Addr)) (fp : List Addr), PE (X.blk s H scope (compEnvC scope cl C X.env) fp) vx tv)
    (fold : ∀ x, foldedSetIterable iter X.env x = pure x := by intro _; rfl) : PS X (.Assign [.Name y py] (.DictComp kx vx [⟨tg, iter, ifs, 0⟩] scope pos) spos) (tAsg (tDcT wi g tt tk tv (own.map (·.2))) (gName i)) := by
  refine ⟨fun pins s0 σ H0 D I0 rd => ?_⟩
  rw [exec_Assign_Name_used _ _ _ _ sw]
  refine wpAny_bind (wpAny_standAt (wpAny_bind ?_))
  show wpAny _ X.A (do let _ ← comprehension (.DictComp kx vx [⟨tg, iter, ifs, 0⟩] scope pos) scope X.env (firstIterPos [⟨tg, iter, ifs, 0⟩] pos) newDict false (eval iter X.env) (some (assign (.Name y py) X.env))) _ _ s0
  have rd' : tDcT wi g tt tk tv (own.map (·.2)) σ H0 (fun x G => gName i x σ G D.nx) := rd
  refine wpAny_bind (thn (dcT_core (Qf := fun _ t => SP X pins D .next t) room calm nd I0 pi ok pgs pts pks pvs fold rd' fun L C t ns G J fin isNs fo => ?_) fun _ _ z => wpAny_pure (wpAny_pure z))
  obtain ⟨f0, f1, f2, f3, f4, f5⟩ := fo
  show wpAny _ _ (assign (.Name y py) X.env (.ref L)) _ _ _
  refine wpAny_assign_Name (store_ok2 (v := V.ref L) J nd at_y (.inl loc) rfl (fun t2 J2 ⟨c, sb, hc⟩ => ?_) (.inr loc))
  have ne : C ≠ c := hc.elim (fun z => z ▸ f1) fun z e => f4 y c z e.symm
  exact ⟨ns, isNs.sameBut sb ne, fun h3 sb3 => ⟨_, G, J2.turned (t' := t2.toks) (fun b o hb e => (sb3.2 b hb).trans e) f0 f1 f3 f4 f5, fin⟩⟩
theorem sw_dict {kx vx : Expr} {gs : List Comprehension} {scope : Scope} {pos py : Pos} {y : Str} {l : Nat} {env : Env} (fn : env.scope.kind = .function) (loc : env.scope.names.lookup y = some .local) (row : (py.line == pos.line) = true)
    (other : (scope.names.any fun (n, k) => n == y && (k == .local || k == .cell)) = false) : swapsWith (.DictComp kx vx gs scope pos) (some (.Name y py)) l env = pure true := by
  have k1 : env.kindOf y = some .local := loc
  have k2 : env.blockKind = .function := by
    unfold Env.blockKind
    rw [fn]
    rfl
  unfold swapsWith
  simp only [k1, k2, other, Expr.pos, row]
  rfl
end
end DcT

/-! sorted(d), the keys of d tuples of ints, of any number. -/
namespace SortR
open PySem PySem.Spec PyProof.Rows L2 PySem.W
theorem enc_alikeT (p q : Addr × List Int) : alike (PyData.tuple (p.2.map .int)) (PyData.tuple (q.2.map .int)) = true := by
  simp only [alike]
  exact alike_ints p.2 q.2
theorem le_tuples : dataLe false (fun b : Addr × List Int => PyData.tuple (b.2.map .int)) = rowLe := by
  have e : dataLe false (fun b : Addr × List Int => PyData.tuple (b.2.map .int)) = dataLe false (fun b : Addr × List Int => PyData.list (b.2.map .int)) := by
    funext p q
    simp only [dataLe_eq, dataLt_tuple, dataLt_list]
  rw [e]
  exact dataLe_rows (fun b : Addr × List Int => b.2)
/-- the keys' tuples, in the dict's sequence -/
theorem key_rows {H : Hp} : ∀ {kvs : List (List L2.Key × V)} {ks : List (List L2.Key × Addr × Value)} {bs : List (List Int)},
    Paired (fun (p : List L2.Key × V) (q : List L2.Key × Addr × Value) => p.1 = q.1 ∧ H q.2.1 = some (.tup (p.1.map kV)) ∧ RelV p.2 q.2.2) kvs ks → kvs.map (·.1) = bs.map (fun ns => ns.map Sum.inl) →
    ∃ as : List (Addr × List Int), as.map (·.1) = ks.map (·.2.1) ∧ as.map (·.2) = bs ∧ ∀ b ∈ as, H b.1 = some (.tup (b.2.map V.int))
  | _, _, [], .nil, _ => ⟨[], rfl, rfl, fun _ m => nomatch m⟩
  | _, _, n :: bs, .cons (a := p) (b := q) h t, e => by
    rw [List.map_cons, List.map_cons] at e
    obtain ⟨e1, e2⟩ := List.cons.inj e
    obtain ⟨as, f1, f2, f3⟩ := key_rows t e2
    refine ⟨(q.2.1, n) :: as, by rw [List.map_cons, List.map_cons, f1], by rw [List.map_cons, f2], fun b m => ?_⟩
    rcases List.mem_cons.mp m with z | z
    · rw [z]
      have g := h.2.1
      rw [e1, List.map_map] at g
      exact g
    · exact f3 b z
  | _, _, [], .cons _ _, e => by cases e
  | _, _, _ :: _, .nil, e => by cases e
section
variable {X : Cx}
theorem call_sortedDT (hu : X.A.units + 64 < cLine) (calm : X.calm = true) : CallR X (.builtin "sorted") (fun xs H Q => ∃ (d : Addr) (kvs : List (List L2.Key × V)) (bs : List (List Int)), xs = [V.ref d] ∧ H d = some (.dT kvs) ∧ kvs.map (·.1) = bs.map (fun ns => ns.map Sum.inl) ∧ (∀ k ∈ bs, k ≠ []) ∧
    ∀ as : List (Addr × List Int), as.map (·.2) = bs → (∀ b ∈ as, H b.1 = some (.tup (b.2.map V.int))) → ∀ p, H p = none → Q (.ref p) (upd H p (.lst ((as.mergeSort rowLe).map fun b => V.ref b.1)))) := by
  intro pins s σ H xs us Q I r h
  obtain ⟨d, kvs, bs, rfl, hd, hk, hne, q⟩ := h
  obtain ⟨u, rfl, ru⟩ := vals1 r
  obtain rfl : u = Value.ref d := ru
  obtain ⟨z, hs, ks, pr, o, es, ep, ho, hx, hdt, he, hn⟩ := (show ObjOk X.prog X.w H s.heap d (.dT kvs) from I.hok d _ hd)
  obtain ⟨as, a1, a2, a3⟩ := key_rows pr hk
  have l0 : es.size = ks.length := size_of_entries he
  have l1 : kvs.length = ks.length := Paired.length pr
  have l2 : as.length = ks.length := by rw [← List.length_map (f := (·.1)), a1, List.length_map]
  have fits : ks.length ≤ sizeLine := l1 ▸ z
  refine Calls.call_function_entry PyProof.Rows.kind_sorted PyProof.Rows.plain_sorted PyProof.Rows.entry_sorted (PyProof.Rows.args_sorted1 _) ?_
  unfold Builtin.«sorted»
  refine wpAny_bind (m := checkCount "sorted" 1 1 _) (wpAny_pure (wpAny_bind (kdu_collect (A := X.A.in1) (kdl_raw hs hx hdt) (I.ok.hd calm) ho (l0 ▸ fits) fun h1 tk acc keep it => ?_)))
  have ea : acc.toList = as.map fun b => Value.ref b.1 := by
    have e1 : acc.toList = ks.map fun x => Value.ref x.2.1 := by
      have len : acc.toList.length = ks.length := by rw [Array.length_toList, it.1, l0]
      refine List.ext_getElem (by rw [List.length_map, len]) fun j j1 j2 => ?_
      obtain ⟨en, hen, hv⟩ := it.2 j acc.toList[j] (by rw [← Array.getElem?_toList, List.getElem?_eq_getElem j1])
      have at_j := entry_at he j
      rw [hen, List.getElem?_eq_getElem (len ▸ j1)] at at_j
      have e2 : en = entryOfKey (tupleKind (mixKind X.prog X.w)) (ks[j]'(len ▸ j1)) := Option.some.inj at_j
      rw [hv, e2, List.getElem_map]
      rfl
    rw [e1]
    have e3 := congrArg (List.map Value.ref) a1
    rw [List.map_map, List.map_map] at e3
    exact e3.symm
  have len : acc.toList.length = as.length := by rw [ea, List.length_map]
  have I1 : Inv X pins σ H { s with heap := h1, toks := tk } := I.kept keep
  refine wpAny_bind (wpAny_newList ?_ (by rw [len, l2]; exact fits))
  have at_p : (h1.push (seqObj "list" acc.toList.toArray 0)).get? h1.objs.size = some (seqObj "list" acc.toList.toArray 0) := Heap.get?_push_size _ rfl
  have old : ∀ b u, h1.get? b = some u → b ≠ h1.objs.size ∧ (h1.push (seqObj "list" acc.toList.toArray 0)).get? b = some u := fun b u e => ⟨Nat.ne_of_lt (Heap.lt_size e), Heap.get?_push_of_some _ e⟩
  have each : EachIs (fun v (b : Addr × List Int) => v = Value.ref b.1 ∧ True) acc.toList as := by
    have vr : Vals (as.map fun b => V.ref b.1) acc.toList := by
      rw [ea]
      clear ea a1 a2 a3 l2 len q it
      induction as with
      | nil => exact .nil
      | cons b as ih => exact .cons rfl ih
    exact vals_each (h := s.heap) (K := X.K) (H := H) (P := fun _ => True) vr fun _ _ => trivial
  obtain ⟨hS, ehS⟩ : ∃ z, z = sortingHeap (h1.push (seqObj "list" acc.toList.toArray 0)) h1.objs.size acc.toList := ⟨_, rfl⟩
  have reads : EachIs (fun v (b : Addr × List Int) => ∃ rs, Reads hS v (PyData.tuple (b.2.map .int)) rs) acc.toList as := by
    have each2 : EachIs (fun v (b : Addr × List Int) => v = Value.ref b.1 ∧ H b.1 = some (.tup (b.2.map V.int))) acc.toList as := by
      have vr : Vals (as.map fun b => V.ref b.1) acc.toList := each_back each
      exact vals_each (h := s.heap) (K := X.K) (H := H) vr a3
    refine each_mono each2 fun v b ⟨ev, hb⟩ => ?_
    rw [ev]
    obtain ⟨rs, rr⟩ := Dp.reads I1 (PyData.tuple (b.2.map .int)) (.ref b.1) (.ref b.1) (.tup (SqT.of hb) (rows_dp b.2)) rfl
    refine ⟨rs, PyProof.Rows.Reads.keeps (fun c u e => ?_) rr⟩
    rw [ehS]
    obtain ⟨n1, n2⟩ := old c u e
    exact sortingHeap_old n1 n2
  have alikeAll_ : AllAlike (as.map fun b => PyData.tuple (b.2.map .int)) := AllAlike.of enc_alikeT
  have sortable : Sortable (as.map fun b => PyData.tuple (b.2.map .int)) := .inl fun dd hm => by
    obtain ⟨b, hb, rfl⟩ := List.mem_map.mp hm
    have mem : b.2 ∈ bs := a2 ▸ List.mem_map.mpr ⟨b, hb, rfl⟩
    cases e : b.2 with
    | nil => exact absurd e (hne _ mem)
    | cons x l => exact ⟨_, _, rfl⟩
  have shallow : ∀ dd ∈ as.map (fun b => PyData.tuple (b.2.map .int)), dd.depth = 1 := fun dd hm => by
    obtain ⟨b, _, rfl⟩ := List.mem_map.mp hm
    simp only [PyData.depth, depth_ints]
  show wpAny _ _ _ _ _ { s with heap := h1.push (seqObj "list" acc.toList.toArray 0), toks := tk }
  have sorts : ∀ Ar : Around, Ar.units ≤ X.A.units + 8 → SortsAt X.prog X.w Ar { s with heap := hS, toks := tk } (dataKind hS (as.map fun b => PyData.tuple (b.2.map .int))) acc.toList := fun Ar hA =>
    SortsAt.data (s := { s with heap := hS, toks := tk }) (each_map (R := fun v dd => ∃ rs, Reads hS v dd rs) (fun b : Addr × List Int => PyData.tuple (b.2.map .int)) reads) alikeAll_ sortable fun dd hm => by rw [shallow dd hm]; omega
  rw [ehS] at sorts reads
  have each3 := sortVals_data (R := fun v (b : Addr × List Int) => v = Value.ref b.1 ∧ True) (enc := fun b : Addr × List Int => PyData.tuple (b.2.map .int)) false each reads alikeAll_
  rw [le_tuples] at each3
  have back := each_back each3
  have short : ((as.mergeSort rowLe).map fun b => V.ref b.1).length ≤ sizeLine := by
    rw [List.length_map, List.length_mergeSort, l2]
    exact fits
  refine wpAny_bind (wpAny_holding (wpAny_call_entry PyProof.Rows.slot_list_sort ⟨_, at_p, rfl⟩ PyProof.Rows.entry_list_sort
    (list_sort_vals (s := { s with heap := h1.push (seqObj "list" acc.toList.toArray 0), toks := tk }) at_p (sorts _ (by show X.A.units + 1 + 1 ≤ X.A.units + 8; omega)) (by rw [len, l2]; exact fits) ⟨_, rfl, ?_⟩) (PyProof.Rows.args_list_sort _)))
  obtain ⟨n2, at2⟩ := PyProof.Rows.sortedHeap_at (vs := acc.toList) (out := (sortVals (dataKind (sortingHeap (h1.push (seqObj "list" acc.toList.toArray 0)) h1.objs.size acc.toList) (as.map fun b => PyData.tuple (b.2.map .int))) false acc.toList acc.toList).toArray) at_p
  refine wpAny_pure ⟨_, rfl, .ref h1.objs.size, upd H h1.objs.size (.lst ((as.mergeSort rowLe).map fun b => V.ref b.1)), I1.laid (t' := tk) (fun b u e => ?_) (Nat.le_refl _) ⟨short, _, n2, back, at2⟩, rfl, q as a2 a3 _ (I1.hok.fresh (Nat.le_refl _))⟩
  obtain ⟨n1, g⟩ := old b u e
  rw [PyProof.Rows.sortedHeap_old n1 (Heap.lt_size g)]
  exact g
end
end SortR

/-! Comprehensions with a test, and dict comprehensions, by the value of each turn. -/
namespace LcM
open PySem PySem.Spec PyProof.Rows L2
/-- what is kept -/
def kept (p : Nat → Bool) (F : Nat → V) (n : Nat) : List V := ((List.range n).filter p).map F
theorem kept_yes {p : Nat → Bool} {F : Nat → V} {n : Nat} (h : p n = true) : kept p F (n + 1) = kept p F n ++ [F n] := by
  unfold kept
  rw [List.range_succ, List.filter_append, List.map_append, List.filter_cons_of_pos h]
  rfl
theorem kept_no {p : Nat → Bool} {F : Nat → V} {n : Nat} (h : p n = false) : kept p F (n + 1) = kept p F n := by
  unfold kept
  rw [List.range_succ, List.filter_append, List.map_append, List.filter_cons_of_neg (by rw [h]; exact Bool.false_ne_true)]
  exact List.append_nil _
theorem kept_le (p : Nat → Bool) (F : Nat → V) (n : Nat) : (kept p F n).length ≤ n := by
  unfold kept
  rw [List.length_map]
  exact Nat.le_trans (List.length_filter_le _ _) (Nat.le_of_eq List.length_range)
section
variable {K : PySem.W.Frag} {a : Addr} {xs : List V} {g : TG} {tt : TT} {te tk tv : TE} {vs : List Nat} {σ : L2.St} {H0 : Hp} {D : Addr} {Qd : Hp → Prop}
theorem lc_listT (p : Nat → Bool) (F : Nat → V) (hD : H0 D = none) (hx : SqL K H0 a xs) (small : xs.length ≤ 1000000)
    (turn : ∀ (i : Nat) (x : V) (H : Hp) (Ry : V → Hp → Prop) (Rn : Hp → Prop), xs[i]? = some x → Grows H0 H → (p i = true → ∀ H4, Grows H H4 → Ry (F i) H4) → (p i = false → ∀ H4, Grows H H4 → Rn H4) →
      g x (wipe σ vs) H fun σ2 H2 => wipe σ2 vs = wipe σ vs ∧ tt σ2 H2 fun t H3 => if t = true then te σ2 H3 Ry else Rn H3)
    (done : ∀ H, Grows H0 H → H D = some (.lst (kept p F xs.length)) → Qd H) :
    ∃ W : Nat → Nat → Hp → Prop, (∃ m, W 0 m (upd H0 D (.lst []))) ∧ ∀ i m H, W i m H →
      ((Itl K a).stop i H ∧ Qd H) ∨ ((Itl K a).go i H ∧ ∃ Nx : Hp → Prop, (∀ H', Nx H' → ∃ m', m' < m ∧ W (i + 1) m' H') ∧ ∀ x H', (Itl K a).yld i H x H' → g x (wipe σ vs) H' fun σ2 H2 => wipe σ2 vs = wipe σ vs ∧ tt σ2 H2 fun b H3 =>
        if b = true then te σ2 H3 fun y H4 => ∃ acc, H4 D = some (.lst acc) ∧ acc.length < sizeLine ∧ Nx (upd H4 D (.lst (acc ++ [y]))) else Nx H3) := by
  refine lc_list (fun i H => Grows H0 H ∧ H D = some (.lst (kept p F i))) ⟨Grows.new hD, upd_same⟩ (fun i H _ m => m.1.seq hx) (fun i x H ex m => ?_) fun H m => done H m.1 m.2
  have il := Nat.lt_of_lt_of_le (List.getElem?_eq_some_iff.mp ex).1 small
  refine turn i x H _ _ ex m.1 (fun hp H4 s => ⟨_, s _ _ m.2, ?_, fun b o e => ?_, ?_⟩) fun hp H4 s => ⟨m.1.trans s, ?_⟩
  · exact Nat.lt_of_le_of_lt (kept_le p F i) (Nat.lt_trans il (by decide))
  · rw [upd_ne (ne_of_none e hD)]
    exact s _ _ (m.1 _ _ e)
  · rw [upd_same, kept_yes hp]
  · rw [kept_no hp]
    exact s _ _ m.2
/-- a dict's entries, laid one after another -/
def laid {κ : Type} [DecidableEq κ] (p : Nat → Bool) (G : Nat → κ) (F : Nat → V) : Nat → List (κ × V)
  | 0 => []
  | n + 1 => if p n = true then putK (laid p G F n) (G n) (F n) else laid p G F n
theorem laid_le {κ : Type} [DecidableEq κ] (p : Nat → Bool) (G : Nat → κ) (F : Nat → V) : ∀ n, (laid p G F n).length ≤ n
  | 0 => Nat.le_refl _
  | n + 1 => by
    have ih := laid_le p G F n
    unfold laid
    by_cases h : p n = true
    · rw [if_pos h]
      exact Nat.le_trans (length_putK _ _ _) (Nat.succ_le_succ ih)
    · rw [if_neg h]
      exact Nat.le_succ_of_le ih
/-- over enumerate, keys ints or texts, no test -/
theorem dc_enumM (G : Nat → L2.Key) (F : Nat → V) (hD : H0 D = none) (hx : SqL K H0 a xs) (small : xs.length ≤ 1000000)
    (turn : ∀ (i : Nat) (x : V) (T : Addr) (H : Hp) (R : V → Hp → V → Hp → Prop), xs[i]? = some x → Grows H0 H → H T = none → (∀ H4 H5, Grows (upd H T (.tup [.int (i : Nat), x])) H4 → Grows H4 H5 → R (kV (G i)) H4 (F i) H5) →
      g (.ref T) (wipe σ vs) (upd H T (.tup [.int (i : Nat), x])) fun σ2 H2 => wipe σ2 vs = wipe σ vs ∧ tk σ2 H2 fun y H4 => tv σ2 H4 fun z H5 => R y H4 z H5)
    (done : ∀ H, Grows H0 H → H D = some (.dK (laid (fun _ => true) G F xs.length)) → Qd H) :
    ∃ W : Nat → Nat → Hp → Prop, (∃ m, W 0 m (upd H0 D (.dK []))) ∧ ∀ i m H, W i m H →
      ((Ite K a).stop i H ∧ Qd H) ∨ ((Ite K a).go i H ∧ ∃ Nx : Hp → Prop, (∀ H', Nx H' → ∃ m', m' < m ∧ W (i + 1) m' H') ∧ ∀ x H', (Ite K a).yld i H x H' → g x (wipe σ vs) H' fun σ2 H2 => wipe σ2 vs = wipe σ vs ∧ tYes σ2 H2 fun b H3 =>
        if b = true then tk σ2 H3 fun y H4 => tv σ2 H4 fun z H5 => ∃ kvs k, y = kV k ∧ H5 D = some (.dK kvs) ∧ kvs.length < sizeLine ∧ Nx (upd H5 D (.dK (putK kvs k z))) else Nx H3) := by
  let inv : Nat → Hp → Prop := fun i H => Grows H0 H ∧ H D = some (.dK (laid (fun _ => true) G F i))
  refine ⟨fun i m H => m = xs.length - i ∧ i ≤ xs.length ∧ inv i H, ⟨_, rfl, Nat.zero_le _, Grows.new hD, upd_same⟩, ?_⟩
  rintro i m H ⟨rfl, hi, pv⟩
  rcases Nat.lt_or_ge i xs.length with lt | ge
  · have ex : xs[i]? = some xs[i] := List.getElem?_eq_getElem lt
    refine .inr ⟨⟨xs, _, pv.1.seq hx, ex⟩, inv (i + 1), fun H' p' => ⟨xs.length - (i + 1), by omega, rfl, lt, p'⟩, fun v H' y => ?_⟩
    obtain ⟨T, x, rfl, hT, rfl, f1⟩ := y
    have e0 : (fun (σ2 : L2.St) (H2 : Hp) => wipe σ2 vs = wipe σ vs ∧ tYes σ2 H2 fun b H3 => if b = true then tk σ2 H3 fun y H4 => tv σ2 H4 fun z H5 => ∃ kvs k, y = kV k ∧ H5 D = some (.dK kvs) ∧ kvs.length < sizeLine ∧ inv (i + 1) (upd H5 D (.dK (putK kvs k z))) else inv (i + 1) H3) =
        fun σ2 H2 => wipe σ2 vs = wipe σ vs ∧ tk σ2 H2 fun y H4 => tv σ2 H4 fun z H5 => ∃ kvs k, y = kV k ∧ H5 D = some (.dK kvs) ∧ kvs.length < sizeLine ∧ inv (i + 1) (upd H5 D (.dK (putK kvs k z))) := by
      funext σ2 H2
      unfold tYes
      dsimp only
      rw [if_pos rfl]
    rw [e0]
    refine turn i x T H (fun y _ z H5 => ∃ kvs k, y = kV k ∧ H5 D = some (.dK kvs) ∧ kvs.length < sizeLine ∧ inv (i + 1) (upd H5 D (.dK (putK kvs k z)))) (f1 xs (pv.1.seq hx)) pv.1 hT fun H4 H5 s4 s5 => ⟨_, G i, rfl, s5 _ _ (s4 _ _ (Grows.new hT _ _ pv.2)), ?_, fun b o e => ?_, ?_⟩
    · exact Nat.lt_of_le_of_lt (laid_le _ G F i) (Nat.lt_of_lt_of_le lt (Nat.le_trans small (by decide)))
    · rw [upd_ne (ne_of_none e hD)]
      exact s5 _ _ (s4 _ _ (Grows.new hT _ _ (pv.1 _ _ e)))
    · rw [upd_same]
      rfl
  · have e : i = xs.length := by omega
    subst e
    exact .inl ⟨⟨xs, pv.1.seq hx, Nat.le_refl _⟩, done H pv.1 pv.2⟩
/-- over a list, the keys tuples, with a test -/
theorem dc_listTT (p : Nat → Bool) (G : Nat → List L2.Key) (F : Nat → V) (hD : H0 D = none) (hx : SqL K H0 a xs) (small : xs.length ≤ 1000000)
    (turn : ∀ (i : Nat) (x : V) (H : Hp) (R : V → V → Hp → Prop) (Rn : Hp → Prop), xs[i]? = some x → Grows H0 H → (p i = true → ∀ b H5, Grows H H5 → H5 b = some (.tup ((G i).map kV)) → R (.ref b) (F i) H5) → (p i = false → ∀ H4, Grows H H4 → Rn H4) →
      g x (wipe σ vs) H fun σ2 H2 => wipe σ2 vs = wipe σ vs ∧ tt σ2 H2 fun t H3 => if t = true then tk σ2 H3 fun y H4 => tv σ2 H4 fun z H5 => R y z H5 else Rn H3)
    (done : ∀ H, Grows H0 H → H D = some (.dT (laid p G F xs.length)) → Qd H) :
    ∃ W : Nat → Nat → Hp → Prop, (∃ m, W 0 m (upd H0 D (.dT []))) ∧ ∀ i m H, W i m H →
      ((Itl K a).stop i H ∧ Qd H) ∨ ((Itl K a).go i H ∧ ∃ Nx : Hp → Prop, (∀ H', Nx H' → ∃ m', m' < m ∧ W (i + 1) m' H') ∧ ∀ x H', (Itl K a).yld i H x H' → g x (wipe σ vs) H' fun σ2 H2 => wipe σ2 vs = wipe σ vs ∧ tt σ2 H2 fun t H3 =>
        if t = true then tk σ2 H3 fun y H4 => tv σ2 H4 fun z H5 => ∃ b kvs k, y = .ref b ∧ H5 b = some (.tup (k.map kV)) ∧ H5 D = some (.dT kvs) ∧ kvs.length < sizeLine ∧ Nx (upd H5 D (.dT (putK kvs k z))) else Nx H3) := by
  let inv : Nat → Hp → Prop := fun i H => Grows H0 H ∧ H D = some (.dT (laid p G F i))
  refine ⟨fun i m H => m = xs.length - i ∧ i ≤ xs.length ∧ inv i H, ⟨_, rfl, Nat.zero_le _, Grows.new hD, upd_same⟩, ?_⟩
  rintro i m H ⟨rfl, hi, pv⟩
  rcases Nat.lt_or_ge i xs.length with lt | ge
  · have ex : xs[i]? = some xs[i] := List.getElem?_eq_getElem lt
    refine .inr ⟨⟨xs, _, pv.1.seq hx, ex⟩, inv (i + 1), fun H' p' => ⟨xs.length - (i + 1), by omega, rfl, lt, p'⟩, fun v H' y => ?_⟩
    obtain ⟨rfl, y⟩ := y
    refine turn i v _ (fun y z H5 => ∃ b kvs k, y = .ref b ∧ H5 b = some (.tup (k.map kV)) ∧ H5 D = some (.dT kvs) ∧ kvs.length < sizeLine ∧ inv (i + 1) (upd H5 D (.dT (putK kvs k z)))) (inv (i + 1)) (y xs (pv.1.seq hx)) pv.1 (fun hp b H5 s5 hb => ⟨b, _, G i, rfl, hb, s5 _ _ pv.2, ?_, fun c o e => ?_, ?_⟩) fun hp H4 s4 => ⟨pv.1.trans s4, ?_⟩
    · exact Nat.lt_of_le_of_lt (laid_le _ G F i) (Nat.lt_of_lt_of_le lt (Nat.le_trans small (by decide)))
    · rw [upd_ne (ne_of_none e hD)]
      exact s5 _ _ (pv.1 _ _ e)
    · rw [upd_same]
      show _ = some (HO.dT (if p i = true then _ else _))
      rw [if_pos hp]
    · rw [s4 _ _ pv.2]
      show _ = some (HO.dT (if p i = true then _ else _))
      rw [if_neg (by rw [hp]; exact Bool.false_ne_true)]
  · have e : i = xs.length := by omega
    subst e
    exact .inl ⟨⟨xs, pv.1.seq hx, Nat.le_refl _⟩, done H pv.1 pv.2⟩
end
end LcM

/-! A comprehension that makes new lists of ints. -/
namespace LcM
open PySem PySem.Spec PyProof.Rows L2
/-- new lists of ints -/
structure Nw (H0 H : Hp) (cs : List (Addr × List Int)) : Prop where
  lists : ∀ c ∈ cs, H c.1 = some (.lst (c.2.map V.int))
  new : ∀ c ∈ cs, H0 c.1 = none
  nodup : (cs.map (·.1)).Nodup
theorem Nw.keep {H0 H H' : Hp} {cs : List (Addr × List Int)} (n : Nw H0 H cs) (s : Grows H H') : Nw H0 H' cs := ⟨fun c m => s _ _ (n.lists c m), n.new, n.nodup⟩
section
variable {K : PySem.W.Frag} {a : Addr} {xs : List V} {g : TG} {te : TE} {vs : List Nat} {σ : L2.St} {H0 : Hp} {D : Addr} {Qd : Hp → Prop}
theorem lc_listR (R : Nat → List Int) (hD : H0 D = none) (hx : SqL K H0 a xs) (small : xs.length ≤ 1000000)
    (turn : ∀ (i : Nat) (x : V) (H : Hp) (Rk : V → Hp → Prop), xs[i]? = some x → Grows H0 H → (∀ q H4, Grows H H4 → H q = none → H4 q = some (.lst ((R i).map V.int)) → Rk (.ref q) H4) → g x (wipe σ vs) H fun σ2 H2 => wipe σ2 vs = wipe σ vs ∧ te σ2 H2 Rk)
    (done : ∀ H cs, Grows H0 H → cs.map (·.2) = (List.range xs.length).map R → Nw H0 H cs → (∀ c ∈ cs, c.1 ≠ D) → H D = some (.lst (cs.map fun c => V.ref c.1)) → Qd H) :
    ∃ W : Nat → Nat → Hp → Prop, (∃ m, W 0 m (upd H0 D (.lst []))) ∧ ∀ i m H, W i m H →
      ((Itl K a).stop i H ∧ Qd H) ∨ ((Itl K a).go i H ∧ ∃ Nx : Hp → Prop, (∀ H', Nx H' → ∃ m', m' < m ∧ W (i + 1) m' H') ∧ ∀ x H', (Itl K a).yld i H x H' → g x (wipe σ vs) H' fun σ2 H2 => wipe σ2 vs = wipe σ vs ∧ tYes σ2 H2 fun b H3 =>
        if b = true then te σ2 H3 fun y H4 => ∃ acc, H4 D = some (.lst acc) ∧ acc.length < sizeLine ∧ Nx (upd H4 D (.lst (acc ++ [y]))) else Nx H3) := by
  refine lc_list (fun i H => ∃ cs : List (Addr × List Int), Grows H0 H ∧ cs.map (·.2) = (List.range i).map R ∧ Nw H0 H cs ∧ (∀ c ∈ cs, c.1 ≠ D) ∧ H D = some (.lst (cs.map fun c => V.ref c.1)))
    ⟨[], Grows.new hD, rfl, ⟨(fun _ m => nomatch m), (fun _ m => nomatch m), List.Pairwise.nil⟩, (fun _ m => nomatch m), upd_same⟩ (fun i H _ ⟨_, s, _⟩ => s.seq hx) (fun i x H ex ⟨cs, s, e, n, apart, top⟩ => ?_) fun H ⟨cs, s, e, n, apart, top⟩ => done H cs s e n apart top
  rw [yes_eq (A := fun σ2 => wipe σ2 vs = wipe σ vs)]
  refine turn i x H _ ex s fun q H4 s4 hq at_q => ?_
  have il := Nat.lt_of_lt_of_le (List.getElem?_eq_some_iff.mp ex).1 small
  have len : cs.length = i := by
    have := congrArg List.length e
    rw [List.length_map, List.length_map, List.length_range] at this
    exact this
  have qD : q ≠ D := fun z => by
    rw [z, top] at hq
    cases hq
  have all : Grows H0 (upd H4 D (.lst (cs.map (fun c => V.ref c.1) ++ [.ref q]))) := fun b o eb => by
    rw [upd_ne (ne_of_none eb hD)]
    exact s4 _ _ (s _ _ eb)
  have q0 : H0 q = none := by
    rcases Option.eq_none_or_eq_some (H0 q) with z | ⟨o, z⟩
    · exact z
    · have := s _ _ z
      rw [hq] at this
      cases this
  refine ⟨_, s4 _ _ top, ?_, cs ++ [(q, R i)], all, ?_, ⟨?_, ?_, ?_⟩, ?_, ?_⟩
  · rw [List.length_map, len]
    exact Nat.lt_trans il (by decide)
  · rw [List.map_append, e, List.range_succ, List.map_append]
    rfl
  · intro c m
    rcases List.mem_append.mp m with m | m
    · rw [upd_ne (apart c m)]
      exact s4 _ _ (n.lists c m)
    · rw [List.mem_singleton.mp m, upd_ne qD]
      exact at_q
  · intro c m
    rcases List.mem_append.mp m with m | m
    · exact n.new c m
    · rw [List.mem_singleton.mp m]
      exact q0
  · rw [List.map_append, List.nodup_append]
    refine ⟨n.nodup, List.nodup_cons.mpr ⟨(fun z => nomatch z), List.Pairwise.nil⟩, fun b mb d md => ?_⟩
    obtain ⟨c, mc, rfl⟩ := List.mem_map.mp mb
    have ed : d = q := by simpa using md
    rw [ed]
    intro z
    have := n.lists c mc
    rw [z, hq] at this
    cases this
  · intro c m
    rcases List.mem_append.mp m with m | m
    · exact apart c m
    · rw [List.mem_singleton.mp m]
      exact qD
  · rw [upd_same, List.map_append]
    rfl
end
end LcM

/-! Rules with their readings named by K, for use within comprehensions. -/
namespace LcM
open PySem PySem.Spec PyProof.Rows L2
def rLenS (K : PySem.W.Frag) : List V → Hp → VK → Prop := fun xs H Q => ∃ p ys, xs = [.ref p] ∧ (SqL K H p ys ∨ SqT K H p ys) ∧ Q (.int ys.length) H
def rLst (K : PySem.W.Frag) : List V → Hp → VK → Prop := fun xs H Q => ∃ p ys, xs = [.ref p] ∧ (SqL K H p ys ∨ SqT K H p ys) ∧ ∀ l, H l = none → Q (.ref l) (upd H l (.lst ys))
def rTup (K : PySem.W.Frag) : List V → Hp → VK → Prop := fun xs H Q => ∃ p ys, xs = [.ref p] ∧ SqL K H p ys ∧ ∀ t, H t = none → Q (.ref t) (upd H t (.tup ys))
section
variable {X : Cx}
theorem call_lenK : CallR X (.builtin "len") (rLenS X.K) := fun pins s σ H xs us Q I r ⟨p, ys, e, h, q⟩ => call_len_seq pins s σ H xs us Q I r ⟨p, ys, e, h, q⟩
theorem call_lstK : CallR X (.type "list") (rLst X.K) := fun pins s σ H xs us Q I r ⟨p, ys, e, h, q⟩ => call_list_of pins s σ H xs us Q I r ⟨p, ys, e, h, q⟩
theorem call_tupK : CallR X (.type "tuple") (rTup X.K) := fun pins s σ H xs us Q I r ⟨p, ys, e, h, q⟩ => call_tuple_of pins s σ H xs us Q I r ⟨p, ys, e, .inl ⟨h, q⟩⟩
end
end LcM

/-! What cut gives, on lists of lists of ints. -/
namespace LcM
open PySem PySem.Spec PyProof.Rows L2 SortR
/-- the last place of x among the first n -/
def plcN (ns : List Int) (x : Int) : Nat → Option Nat
  | 0 => none
  | n + 1 => if ns.getD n 0 = x then some n else plcN ns x n
def plc (ns : List Int) (x : Int) : Option Nat := plcN ns x ns.length
theorem valV_laid (ns : List Int) (x : Int) : ∀ n, valV (laid (fun _ => true) (fun i => (Sum.inl (ns.getD i 0) : L2.Key)) (fun i => V.int (i : Nat)) n) (Sum.inl x) = (plcN ns x n).map fun j => V.int (j : Nat)
  | 0 => rfl
  | n + 1 => by
    have ih := valV_laid ns x n
    unfold laid plcN
    rw [if_pos rfl, valV_put]
    by_cases e : ns.getD n 0 = x
    · rw [if_pos e, if_pos (by rw [e])]
      rfl
    · rw [if_neg e, if_neg (fun z => e (Sum.inl.inj z).symm)]
      exact ih
/-- a group's persons who stay, by their places -/
def meet (ns r : List Int) : List Int := ((List.range r.length).filter fun i => (plc ns (r.getD i 0)).isSome).map fun i => (((plc ns (r.getD i 0)).getD 0 : Nat) : Int)
def two (m : List Int) : Bool := decide (2 ≤ (m.length : Int))
/-- unlike rows, in the sequence in which they come first -/
def firsts (p : Nat → Bool) (M : Nat → List Int) : Nat → List (List Int)
  | 0 => []
  | n + 1 => if p n = true then (if M n ∈ firsts p M n then firsts p M n else firsts p M n ++ [M n]) else firsts p M n
theorem put_keys {κ : Type} [DecidableEq κ] (kvs : List (κ × V)) (k : κ) (v : V) : (putK kvs k v).map (·.1) = if k ∈ kvs.map (·.1) then kvs.map (·.1) else kvs.map (·.1) ++ [k] := by
  unfold putK
  by_cases h : (kvs.any fun kv => decide (kv.1 = k)) = true
  · rw [if_pos h]
    obtain ⟨kv, hm, e⟩ := List.any_eq_true.mp h
    rw [if_pos (List.mem_map.mpr ⟨kv, hm, of_decide_eq_true e⟩), List.map_map]
    refine List.map_congr_left fun q _ => ?_
    show (if q.1 = k then (q.1, v) else q).1 = q.1
    split <;> rfl
  · rw [if_neg h, if_neg fun z => ?_, List.map_append]
    · rfl
    · obtain ⟨kv, hm, e⟩ := List.mem_map.mp z
      exact h (List.any_eq_true.mpr ⟨kv, hm, decide_eq_true e⟩)
theorem inl_inj {m n : List Int} (h : (m.map Sum.inl : List L2.Key) = n.map Sum.inl) : m = n := by
  induction m generalizing n with
  | nil =>
    cases n with
    | nil => rfl
    | cons _ _ => cases h
  | cons x m ih =>
    cases n with
    | nil => cases h
    | cons y n =>
      rw [List.map_cons, List.map_cons] at h
      obtain ⟨h1, h2⟩ := List.cons.inj h
      rw [Sum.inl.inj h1, ih h2]
theorem keys_laid (p : Nat → Bool) (M : Nat → List Int) (F : Nat → V) : ∀ n, (laid p (fun i => ((M i).map Sum.inl : List L2.Key)) F n).map (·.1) = (firsts p M n).map fun m => m.map Sum.inl
  | 0 => rfl
  | n + 1 => by
    have ih := keys_laid p M F n
    unfold laid firsts
    by_cases h : p n = true
    · rw [if_pos h, if_pos h, put_keys, ih]
      by_cases m : M n ∈ firsts p M n
      · rw [if_pos m, if_pos (List.mem_map.mpr ⟨_, m, rfl⟩)]
      · rw [if_neg m, if_neg fun z => ?_, List.map_append]
        · rfl
        · obtain ⟨r, hr, e⟩ := List.mem_map.mp z
          rw [inl_inj e] at hr
          exact m hr
    · rw [if_neg h, if_neg h]
      exact ih
theorem firsts_of (p : Nat → Bool) (M : Nat → List Int) : ∀ n, ∀ r ∈ firsts p M n, ∃ i, i < n ∧ p i = true ∧ r = M i
  | 0, _, h => nomatch h
  | n + 1, r, h => by
    have ih := firsts_of p M n r
    unfold firsts at h
    have old : r ∈ firsts p M n → ∃ i, i < n + 1 ∧ p i = true ∧ r = M i := fun z => let ⟨i, a, b, c⟩ := ih z; ⟨i, Nat.lt_succ_of_lt a, b, c⟩
    by_cases hp : p n = true
    · rw [if_pos hp] at h
      split at h
      · exact old h
      · rcases List.mem_append.mp h with z | z
        · exact old z
        · exact ⟨n, Nat.lt_succ_self n, hp, List.mem_singleton.mp z⟩
    · rw [if_neg hp] at h
      exact old h
theorem firsts_le (p : Nat → Bool) (M : Nat → List Int) : ∀ n, (firsts p M n).length ≤ n
  | 0 => Nat.le_refl _
  | n + 1 => by
    have ih := firsts_le p M n
    unfold firsts
    split
    · split
      · omega
      · rw [List.length_append, List.length_singleton]
        omega
    · omega
def cutR (rs : List (List Int)) (ns : List Int) : List (List Int) := (firsts (fun i => two (meet ns (rs.getD i []))) (fun i => meet ns (rs.getD i [])) rs.length).mergeSort fun p q => decide (p ≤ q)
theorem sort_rows (as : List (Addr × List Int)) : (as.mergeSort rowLe).map (·.2) = (as.map (·.2)).mergeSort fun p q => decide (p ≤ q) := List.map_mergeSort fun _ _ _ _ => rfl
end LcM

/-! Lists of ints and lists of such, as data. -/
namespace LcM
open PySem PySem.Spec PyProof.Rows L2 SortR
theorem eqvAll_ints : ∀ ns ms : List Int, PyData.eqvAll (ns.map .int) (ms.map .int) = decide (ns = ms)
  | [], [] => by
    simp only [List.map_nil, PyData.eqvAll]
    exact (decide_eq_true (rfl : ([] : List Int) = [])).symm
  | x :: ns, y :: ms => by
    rw [List.map_cons, List.map_cons, PyData.eqvAll, eqvAll_ints ns ms, PyData.eqv]
    by_cases e : x = y
    · rw [e, beq_self_eq_true, Bool.true_and]
      by_cases e2 : ns = ms
      · rw [decide_eq_true e2, decide_eq_true (by rw [e2])]
      · rw [decide_eq_false e2, decide_eq_false fun z => e2 (List.cons.inj z).2]
    · rw [beq_eq_false_iff_ne.mpr e, Bool.false_and, decide_eq_false fun z => e (List.cons.inj z).1]
  | [], _ :: _ => by
    rw [List.map_nil, List.map_cons, PyData.eqvAll]
    exact (decide_eq_false fun z => nomatch z).symm
  | _ :: _, [] => by
    rw [List.map_nil, List.map_cons, PyData.eqvAll]
    exact (decide_eq_false fun z => nomatch z).symm
theorem eqv_ints (ns ms : List Int) : PyData.eqv (PyData.list (ns.map .int)) (PyData.list (ms.map .int)) = decide (ns = ms) := by
  rw [PyData.eqv]
  exact eqvAll_ints ns ms
theorem eqvAll_rows : ∀ rs qs : List (List Int), PyData.eqvAll (rs.map fun r => .list (r.map .int)) (qs.map fun r => .list (r.map .int)) = decide (rs = qs)
  | [], [] => by
    simp only [List.map_nil, PyData.eqvAll]
    exact (decide_eq_true (rfl : ([] : List (List Int)) = [])).symm
  | x :: ns, y :: ms => by
    rw [List.map_cons, List.map_cons, PyData.eqvAll, eqvAll_rows ns ms, eqv_ints]
    by_cases e : x = y
    · rw [decide_eq_true e, Bool.true_and]
      by_cases e2 : ns = ms
      · rw [decide_eq_true e2, decide_eq_true (by rw [e, e2])]
      · rw [decide_eq_false e2, decide_eq_false fun z => e2 (List.cons.inj z).2]
    · rw [decide_eq_false e, Bool.false_and, decide_eq_false fun z => e (List.cons.inj z).1]
  | [], _ :: _ => by
    rw [List.map_nil, List.map_cons, PyData.eqvAll]
    exact (decide_eq_false fun z => nomatch z).symm
  | _ :: _, [] => by
    rw [List.map_nil, List.map_cons, PyData.eqvAll]
    exact (decide_eq_false fun z => nomatch z).symm
theorem eqv_rows (rs qs : List (List Int)) : PyData.eqv (PyData.list (rs.map fun r => .list (r.map .int))) (PyData.list (qs.map fun r => .list (r.map .int))) = decide (rs = qs) := by
  rw [PyData.eqv]
  exact eqvAll_rows rs qs
theorem lay_ints : ∀ ns : List Int, PyData.canLayAll0 (ns.map .int) = true
  | [] => by simp only [List.map_nil, PyData.canLayAll0]
  | n :: ns => by simp only [List.map_cons, PyData.canLayAll0, PyData.canLay0, lay_ints ns, Bool.and_self]
theorem lay_rows : ∀ rs : List (List Int), PyData.canLayAll0 (rs.map fun r => .list (r.map .int)) = true
  | [] => by simp only [List.map_nil, PyData.canLayAll0]
  | r :: rs => by simp only [List.map_cons, PyData.canLayAll0, PyData.canLay0, lay_ints r, lay_rows rs, Bool.and_self]
theorem depth_rows : ∀ rs : List (List Int), PyData.depthAll (rs.map fun r => .list (r.map .int)) ≤ 1
  | [] => by simp only [List.map_nil, PyData.depthAll]; omega
  | r :: rs => by
    have := depth_rows rs
    simp only [List.map_cons, PyData.depthAll, PyData.depth, PySem.W.depth_ints]
    omega
theorem shaped_ints (ns : List Int) : SeqAt.shaped (PyData.list (ns.map .int)) = true := by
  unfold SeqAt.shaped
  simp only [PyData.canLay0, lay_ints, PyData.depth, PySem.W.depth_ints]
  decide
theorem shaped_rows (rs : List (List Int)) : SeqAt.shaped (PyData.list (rs.map fun r => .list (r.map .int))) = true := by
  have d := depth_rows rs
  have e : (PyData.list (rs.map fun r => .list (r.map .int))).depth ≤ 64 := by
    simp only [PyData.depth]
    omega
  unfold SeqAt.shaped
  rw [decide_eq_true e, Bool.and_true]
  simp only [PyData.canLay0, lay_rows]
/-- lists of lists as data -/
theorem rows_data {K : PySem.W.Frag} {H : Hp} : ∀ {bs : List (Addr × List Int)}, (∀ b ∈ bs, SqL K H b.1 (b.2.map V.int)) → DpAll K H (bs.map fun b => V.ref b.1) ((bs.map (·.2)).map fun r => .list (r.map .int))
  | [], _ => .nil
  | b :: bs, h => .cons (.lst (h b List.mem_cons_self) (rows_dp b.2)) (rows_data fun c m => h c (List.mem_cons_of_mem _ m))
end LcM

/-! sorted(xs), xs ints, THE sorted list. -/
namespace SortR
open PySem PySem.Spec PyProof.Rows L2 PySem.W
def intLe (p q : Int) : Bool := decide (p ≤ q)
theorem ints_each {h : Heap} : ∀ {ns : List Int} {us : List Value}, Vals (ns.map V.int) us → EachIs (fun v (n : Int) => ∃ t, v = Value.int n t) us ns
  | [], _, .nil => .nil
  | _ :: _, _, .cons h1 h2 => .cons h1 (ints_each (h := h) h2)
theorem each_ints : ∀ {us : List Value} {ns : List Int}, EachIs (fun v (n : Int) => ∃ t, v = Value.int n t) us ns → Vals (ns.map V.int) us
  | _, _, .nil => .nil
  | _, _, .cons h t => .cons h (each_ints t)
section
variable {X : Cx}
theorem call_sortedInts (hu : X.A.units + 64 < cLine) : CallR X (.builtin "sorted") (fun xs H Q => ∃ (a : Addr) (ns : List Int), xs = [V.ref a] ∧ SqL X.K H a (ns.map V.int) ∧ ∀ p, H p = none → Q (.ref p) (upd H p (.lst ((ns.mergeSort intLe).map V.int)))) := by
  intro pins s σ H xs us Q I r h
  obtain ⟨a, ns, rfl, hs, q⟩ := h
  obtain ⟨u, rfl, ru⟩ := vals1 r
  obtain rfl : u = Value.ref a := ru
  obtain ⟨its, rv, hl, hz⟩ := I.list hs
  have each := ints_each (h := s.heap) rv
  have len : its.length = ns.length := by rw [← rv.length, List.length_map]
  have reads : EachIs (fun v (n : Int) => ∃ as, Reads s.heap v (PyData.int n) as) its ns := each_mono each fun v n ⟨t, e⟩ => by
    rw [e]
    exact ⟨_, Reads.int n t⟩
  have le : dataLe false (fun n : Int => PyData.int n) = intLe := dataLe_int fun n : Int => n
  refine sorted_data (enc := fun n : Int => PyData.int n) hl.isList each reads (AllAlike.of fun p q => by simp only [alike]) (Sortable.others fun b => ⟨(fun z => nomatch z), fun xs z => nomatch z⟩) (by rw [List.length_map] at hz; exact hz) (fun b _ => by
    have d : (PyData.int b).depth = 0 := by simp only [PyData.depth]
    rw [d]
    omega) fun out ho each3 => ?_
  rw [le] at each3
  have back := each_ints each3
  obtain ⟨n, hn⟩ := sortedAll_at s.heap its out.toArray
  refine ⟨.ref (s.heap.objs.size + 1), upd H (s.heap.objs.size + 1) (.lst ((ns.mergeSort intLe).map V.int)), I.laid (t' := s.toks) (fun b o e => sortedAll_old e) (Nat.le_succ _) ⟨?_, out, n, back, hn⟩, rfl, q _ (I.hok.fresh (Nat.le_succ _))⟩
  rw [List.length_map, List.length_mergeSort]
  rw [List.length_map] at hz
  exact hz
end
end SortR

/-! Comprehensions over a tuple or a list, each turn's value by a relation that lasts. -/
namespace LcM
open PySem PySem.Spec PyProof.Rows L2
/-- so far -/
structure Mx (H0 : Hp) (D : Addr) (Rel : Nat → V → Hp → Prop) (i : Nat) (H : Hp) (ys : List V) : Prop where
  grow : Grows H0 H
  top : H D = some (.lst ys)
  len : ys.length = i
  rel : ∀ j y, ys[j]? = some y → Rel j y H
theorem Mx.more {H0 H H4 : Hp} {D : Addr} {Rel : Nat → V → Hp → Prop} {i : Nat} {ys : List V} {y : V} (last : ∀ j y H H', Grows H H' → Rel j y H → Rel j y H') (free : ∀ j y H zs, Rel j y H → H D = some (.lst zs) → ∀ u, Rel j y (upd H D u)) (hD : H0 D = none) (m : Mx H0 D Rel i H ys) (s : Grows H H4) (r : Rel i y H4) (small : i < 1000000) :
    ∃ acc, H4 D = some (.lst acc) ∧ acc.length < sizeLine ∧ ∃ ys', Mx H0 D Rel (i + 1) (upd H4 D (.lst (acc ++ [y]))) ys' := by
  have at_D := s _ _ m.top
  refine ⟨ys, at_D, ?_, ys ++ [y], fun b o e => ?_, upd_same, ?_, fun j z e => ?_⟩
  · rw [m.len]
    exact Nat.lt_trans small (by decide)
  · rw [upd_ne (ne_of_none e hD)]
    exact s _ _ (m.grow _ _ e)
  · rw [List.length_append, m.len]
    rfl
  · rcases Nat.lt_or_ge j ys.length with l | g
    · rw [List.getElem?_append_left l] at e
      exact free j z H4 _ (last j z H H4 s (m.rel j z e)) at_D _
    · rw [List.getElem?_append_right g] at e
      have zero : j - ys.length = 0 := by
        rcases Nat.eq_zero_or_pos (j - ys.length) with q | q
        · exact q
        · rw [List.getElem?_eq_none (by show 1 ≤ j - ys.length; omega)] at e
          cases e
      rw [zero] at e
      obtain rfl : y = z := Option.some.inj e
      obtain rfl : j = i := by rw [← m.len]; omega
      exact free j y H4 _ r at_D _
section
variable {K : PySem.W.Frag} {a : Addr} {xs : List V} {g : TG} {te : TE} {vs : List Nat} {σ : L2.St} {H0 : Hp} {D : Addr} {Qd : Hp → Prop}
theorem lc_tupX (Rel : Nat → V → Hp → Prop) (last : ∀ j y H H', Grows H H' → Rel j y H → Rel j y H') (free : ∀ j y H zs, Rel j y H → H D = some (.lst zs) → ∀ u, Rel j y (upd H D u)) (hD : H0 D = none) (hx : SqT K H0 a xs) (small : xs.length ≤ 1000000)
    (turn : ∀ (i : Nat) (x : V) (H : Hp) (Rk : V → Hp → Prop), xs[i]? = some x → Grows H0 H → H D ≠ none → (∀ y H4, Grows H H4 → Rel i y H4 → Rk y H4) → g x (wipe σ vs) H fun σ2 H2 => wipe σ2 vs = wipe σ vs ∧ te σ2 H2 Rk)
    (done : ∀ H ys, Mx H0 D Rel xs.length H ys → Qd H) :
    ∃ W : Nat → Nat → Hp → Prop, (∃ m, W 0 m (upd H0 D (.lst []))) ∧ ∀ i m H, W i m H →
      ((Itt K a).stop i H ∧ Qd H) ∨ ((Itt K a).go i H ∧ ∃ Nx : Hp → Prop, (∀ H', Nx H' → ∃ m', m' < m ∧ W (i + 1) m' H') ∧ ∀ x H', (Itt K a).yld i H x H' → g x (wipe σ vs) H' fun σ2 H2 => wipe σ2 vs = wipe σ vs ∧ tYes σ2 H2 fun b H3 =>
        if b = true then te σ2 H3 fun y H4 => ∃ acc, H4 D = some (.lst acc) ∧ acc.length < sizeLine ∧ Nx (upd H4 D (.lst (acc ++ [y]))) else Nx H3) := by
  refine lc_tup (fun i H => ∃ ys, Mx H0 D Rel i H ys) ⟨[], Grows.new hD, upd_same, rfl, fun j y e => by rw [List.getElem?_nil] at e; cases e⟩ (fun i H _ ⟨_, m⟩ => m.grow.tup hx) (fun i x H ex ⟨ys, m⟩ => ?_) fun H ⟨ys, m⟩ => done H ys m
  rw [yes_eq (A := fun σ2 => wipe σ2 vs = wipe σ vs)]
  exact turn i x H _ ex m.grow (by rw [m.top]; exact fun z => nomatch z) fun y H4 s r => m.more last free hD s r (Nat.lt_of_lt_of_le (List.getElem?_eq_some_iff.mp ex).1 small)
theorem lc_listX (Rel : Nat → V → Hp → Prop) (last : ∀ j y H H', Grows H H' → Rel j y H → Rel j y H') (free : ∀ j y H zs, Rel j y H → H D = some (.lst zs) → ∀ u, Rel j y (upd H D u)) (hD : H0 D = none) (hx : SqL K H0 a xs) (small : xs.length ≤ 1000000)
    (turn : ∀ (i : Nat) (x : V) (H : Hp) (Rk : V → Hp → Prop), xs[i]? = some x → Grows H0 H → H D ≠ none → (∀ y H4, Grows H H4 → Rel i y H4 → Rk y H4) → g x (wipe σ vs) H fun σ2 H2 => wipe σ2 vs = wipe σ vs ∧ te σ2 H2 Rk)
    (done : ∀ H ys, Mx H0 D Rel xs.length H ys → Qd H) :
    ∃ W : Nat → Nat → Hp → Prop, (∃ m, W 0 m (upd H0 D (.lst []))) ∧ ∀ i m H, W i m H →
      ((Itl K a).stop i H ∧ Qd H) ∨ ((Itl K a).go i H ∧ ∃ Nx : Hp → Prop, (∀ H', Nx H' → ∃ m', m' < m ∧ W (i + 1) m' H') ∧ ∀ x H', (Itl K a).yld i H x H' → g x (wipe σ vs) H' fun σ2 H2 => wipe σ2 vs = wipe σ vs ∧ tYes σ2 H2 fun b H3 =>
        if b = true then te σ2 H3 fun y H4 => ∃ acc, H4 D = some (.lst acc) ∧ acc.length < sizeLine ∧ Nx (upd H4 D (.lst (acc ++ [y]))) else Nx H3) := by
  refine lc_list (fun i H => ∃ ys, Mx H0 D Rel i H ys) ⟨[], Grows.new hD, upd_same, rfl, fun j y e => by rw [List.getElem?_nil] at e; cases e⟩ (fun i H _ ⟨_, m⟩ => m.grow.seq hx) (fun i x H ex ⟨ys, m⟩ => ?_) fun H ⟨ys, m⟩ => done H ys m
  rw [yes_eq (A := fun σ2 => wipe σ2 vs = wipe σ vs)]
  exact turn i x H _ ex m.grow (by rw [m.top]; exact fun z => nomatch z) fun y H4 s r => m.more last free hD s r (Nat.lt_of_lt_of_le (List.getElem?_eq_some_iff.mp ex).1 small)
/-- a loop over enumerate of a list that stands still -/
theorem for_enumL {tb : TS} {Dn : Ends} (Pv : Nat → L2.St → Hp → Prop) (h0 : Pv 0 σ H0) (hl : ∀ i σ H, Pv i σ H → SqL K H a xs)
    (hs : ∀ (i : Nat) (x : V) (T : Addr) (σ : L2.St) (H : Hp), xs[i]? = some x → Pv i σ H → H T = none → g (.ref T) σ (upd H T (.tup [.int (i : Nat), x])) fun σ2 H2 => tb { Dn with nx := Pv (i + 1), ct := Pv (i + 1), bk := Dn.nx } σ2 H2) (hd : ∀ σ H, Pv xs.length σ H → Dn.nx σ H) :
    ∃ W : Nat → Nat → L2.St → Hp → Prop, (∃ m, W 0 m σ H0) ∧ ∀ i m σ H, W i m σ H →
      ((Ite K a).stop i H ∧ Dn.nx σ H) ∨ ((Ite K a).go i H ∧ ∃ N : L2.St → Hp → Prop, (∀ σ' H', N σ' H' → ∃ m', m' < m ∧ W (i + 1) m' σ' H') ∧ ∀ v H', (Ite K a).yld i H v H' → g v σ H' fun σ2 H2 => tb { Dn with nx := N, ct := N, bk := Dn.nx } σ2 H2) := by
  refine ⟨fun i m σ H => m = xs.length - i ∧ i ≤ xs.length ∧ Pv i σ H, ⟨_, rfl, Nat.zero_le _, h0⟩, ?_⟩
  rintro i m σ H ⟨rfl, hi, pv⟩
  have qx := hl i σ H pv
  rcases Nat.lt_or_ge i xs.length with lt | ge
  · have ex : xs[i]? = some xs[i] := List.getElem?_eq_getElem lt
    refine .inr ⟨⟨xs, _, qx, ex⟩, Pv (i + 1), fun σ' H' p' => ⟨xs.length - (i + 1), by omega, rfl, lt, p'⟩, fun v H' y => ?_⟩
    obtain ⟨T, x', rfl, hT, rfl, f1⟩ := y
    exact hs i x' T σ H (f1 xs qx) pv hT
  · have e : i = xs.length := by omega
    subst e
    exact .inl ⟨⟨xs, qx, Nat.le_refl _⟩, hd σ H pv⟩
end
end LcM

/-! f(k = v, ..): a def called by keywords alone. -/
namespace LcM
open PySem PySem.Spec PyProof.Rows L2
section
variable {X : Cx} {CX : CXT} {k : Nat} {f : Addr} {fd : FuncData} {ps ks : List Str} {sp : Sp} {E : XK} {x : Str} {p pos : Pos} {kws : List Keyword} {tk : TA} {g : List Value → List Value → List Value} {gV : List V → List V → List V}
theorem pe_callKw (F : FnOk X.prog X.w X.K X.mg X.base CX k f fd ps sp) (room : Room k X.A) (hg : Gl X x) (hm : X.mg x = some (.ref f)) (kp : PySem.W.keepIn X.K (.ref f) = true) (bd : KBinds X.K fd ps ks g gV) (ps' : Passes CX X E) (args : PK X kws tk)
    (all : (backToKw pos (keywordEach kws X.env)).all (·.1.isSome) = true := by rfl) (names : (backToKw pos (keywordEach kws X.env)).filterMap (·.1) = ks := by rfl) (hdb : (x == ("__debug__" : Str)) = false := by decide)
    (plain : ((backTo pos (starEach [] X.env)).any (·.1) || (backToKw pos (keywordEach kws X.env)).any (·.1.isNone)) = false := by rfl) :
    PE X (.Call (.Name x p) [] kws pos) (tCallK sp gV E tNil tk) := by
  refine ⟨fun pins s σ H Q I rd => ?_⟩
  refine wpAny_Call_Name_kw (ld_glob I hg hm ?_ hdb)
  refine PySem.W.callWith_KW0 (h₀ := X.base) I.ok.mod.kin kp all (thn (args.run pos pins s σ H _ I rd) fun ws s2 ⟨zs, H2, I2, rz, q2⟩ => ⟨I2.kIn, ?_⟩) plain
  rw [names]
  exact run_fnk (us := []) (vs := []) F room bd ps' I2 .nil rz q2
end
end LcM

/-! Data whose text is short. -/
namespace LcM
open PySem PySem.Spec PyProof.Rows L2
structure Brief (n : Nat) (d : PyData) : Prop where
  sh : d.showable = true
  dp : d.depth ≤ 10
  lv : PyData.leavesShort 13 d = true
  wt : d.weight ≤ n
def Smalls (ns : List Int) : Prop := ∀ x ∈ ns, x.natAbs < 10 ^ 12
theorem small_bits {n : Int} (h : n.natAbs < 10 ^ 12) : n.natAbs.log2 < 40 := by
  by_cases z : n.natAbs = 0
  · rw [z]
    decide
  · exact (Nat.log2_lt z).mpr (Nat.lt_trans h (by decide))
theorem show_ints : ∀ ns : List Int, Smalls ns → PyData.showableAll (ns.map .int) = true
  | [], _ => by simp only [List.map_nil, PyData.showableAll]
  | n :: ns, h => by
    have b := small_bits (h n List.mem_cons_self)
    simp only [List.map_cons, PyData.showableAll, PyData.showable, show_ints ns fun x m => h x (List.mem_cons_of_mem _ m), Bool.and_true]
    exact decide_eq_true (by omega)
theorem weight_ints : ∀ ns : List Int, Smalls ns → PyData.weightAll (ns.map .int) ≤ ns.length * 42
  | [], _ => by simp only [List.map_nil, PyData.weightAll]; exact Nat.zero_le _
  | n :: ns, h => by
    have b := small_bits (h n List.mem_cons_self)
    have ih := weight_ints ns fun x m => h x (List.mem_cons_of_mem _ m)
    simp only [List.map_cons, PyData.weightAll, PyData.weight, List.length_cons]
    split <;> omega
theorem brief_ints {ns : List Int} (h : Smalls ns) : Brief (ns.length * 42) (PyData.list (ns.map .int)) := by
  refine ⟨?_, ?_, ?_, ?_⟩
  · simp only [PyData.showable, show_ints ns h]
  · simp only [PyData.depth, PySem.W.depth_ints]
    decide
  · refine PyData.leavesShort_of_canLay0 13 _ ?_ ?_
    · simp only [PyData.canLay0, lay_ints]
    · simp only [PyData.intsShort]
      exact PyData.intsShortAll_ints ns h
  · simp only [PyData.weight]
    exact weight_ints ns h
def rowD (rs : List (List Int)) : List PyData := rs.map fun r => .list (r.map .int)
theorem show_rows : ∀ rs : List (List Int), (∀ r ∈ rs, Smalls r) → PyData.showableAll (rowD rs) = true
  | [], _ => by simp only [rowD, List.map_nil, PyData.showableAll]
  | r :: rs, h => by
    have ih := show_rows rs fun q m => h q (List.mem_cons_of_mem _ m)
    unfold rowD at ih ⊢
    simp only [List.map_cons, PyData.showableAll, PyData.showable, show_ints r (h r List.mem_cons_self), ih, Bool.and_self]
theorem short_rows : ∀ rs : List (List Int), (∀ r ∈ rs, Smalls r) → PyData.intsShortAll 13 (rowD rs) = true
  | [], _ => by simp only [rowD, List.map_nil, PyData.intsShortAll]
  | r :: rs, h => by
    have ih := short_rows rs fun q m => h q (List.mem_cons_of_mem _ m)
    unfold rowD at ih ⊢
    simp only [List.map_cons, PyData.intsShortAll, PyData.intsShort, ih, PyData.intsShortAll_ints r (h r List.mem_cons_self), Bool.and_self]
theorem weight_rows {m : Nat} : ∀ rs : List (List Int), (∀ r ∈ rs, Smalls r ∧ r.length ≤ m) → PyData.weightAll (rowD rs) ≤ rs.length * (m * 42 + 1)
  | [], _ => by simp only [rowD, List.map_nil, PyData.weightAll]; exact Nat.zero_le _
  | r :: rs, h => by
    have ih := weight_rows rs fun q m => h q (List.mem_cons_of_mem _ m)
    have l := (h r List.mem_cons_self).2
    have w := weight_ints r (h r List.mem_cons_self).1
    unfold rowD at ih ⊢
    simp only [List.map_cons, PyData.weightAll, PyData.weight, List.length_cons]
    rw [Nat.add_mul]
    omega
theorem brief_rows {rs : List (List Int)} {m : Nat} (h : ∀ r ∈ rs, Smalls r ∧ r.length ≤ m) : Brief (rs.length * (m * 42 + 1)) (PyData.list (rowD rs)) := by
  refine ⟨?_, ?_, ?_, ?_⟩
  · simp only [PyData.showable, show_rows rs fun r m => (h r m).1]
  · have := depth_rows rs
    unfold rowD
    simp only [PyData.depth]
    omega
  · refine PyData.leavesShort_of_canLay0 13 _ ?_ ?_
    · have := lay_rows rs
      unfold rowD
      simp only [PyData.canLay0, this]
    · simp only [PyData.intsShort]
      exact short_rows rs fun r m => (h r m).1
  · simp only [PyData.weight]
    exact weight_rows rs h
theorem brief_two {a b : PyData} {m n : Nat} (x : Brief m a) (y : Brief n b) (l : m + n ≤ 100000) :
    PyData.showableAll [a, b] = true ∧ PyData.depthAll [a, b] ≤ 40 ∧ (listText (PyData.shownAll [a, b])).length ≤ sizeLine := by
  refine ⟨?_, ?_, ?_⟩
  · simp only [PyData.showableAll, x.sh, y.sh, Bool.and_self]
  · have := x.dp
    have := y.dp
    simp only [PyData.depthAll]
    omega
  · have e : (PyData.list [a, b]).shown = listText (PyData.shownAll [a, b]) := by simp only [PyData.shown]
    rw [← e]
    refine PyData.shown_fits (B := 13) (by decide) (by decide) ?_ ?_
    · simp only [PyData.leavesShort, PyData.leavesShortAll, x.lv, y.lv, Bool.and_self]
    · have := x.wt
      have := y.wt
      simp only [PyData.weight, PyData.weightAll]
      omega
end LcM

/-! comprehensions over a range with a test; dict comprehensions over a list. -/
namespace LcM
open PySem PySem.Spec PyProof PyProof.Rows L2 SortR
section
variable {K : PySem.W.Frag} {a : Addr} {xs : List V} {g : TG} {tt : TT} {te tk tv : TE} {vs : List Nat} {σ : L2.St} {H0 : Hp} {D : Addr} {Qd : Hp → Prop}
/-- [e for i in range(lo, lo + n) if t] -/
theorem lc_rangeT {lo : Int} {n : Nat} (p : Nat → Bool) (F : Nat → V) (hD : H0 D = none) (small : n ≤ 1000000)
    (turn : ∀ (i : Nat) (H : Hp) (Ry : V → Hp → Prop) (Rn : Hp → Prop), i < n → Grows H0 H → (p i = true → ∀ H4, Grows H H4 → Ry (F i) H4) → (p i = false → ∀ H4, Grows H H4 → Rn H4) →
      g (.int (lo + i)) (wipe σ vs) H fun σ2 H2 => wipe σ2 vs = wipe σ vs ∧ tt σ2 H2 fun t H3 => if t = true then te σ2 H3 Ry else Rn H3)
    (done : ∀ H, Grows H0 H → H D = some (.lst (kept p F n)) → Qd H) :
    ∃ W : Nat → Nat → Hp → Prop, (∃ m, W 0 m (upd H0 D (.lst []))) ∧ ∀ i m H, W i m H →
      ((Itr lo n).stop i H ∧ Qd H) ∨ ((Itr lo n).go i H ∧ ∃ Nx : Hp → Prop, (∀ H', Nx H' → ∃ m', m' < m ∧ W (i + 1) m' H') ∧ ∀ x H', (Itr lo n).yld i H x H' → g x (wipe σ vs) H' fun σ2 H2 => wipe σ2 vs = wipe σ vs ∧ tt σ2 H2 fun b H3 =>
        if b = true then te σ2 H3 fun y H4 => ∃ acc, H4 D = some (.lst acc) ∧ acc.length < sizeLine ∧ Nx (upd H4 D (.lst (acc ++ [y]))) else Nx H3) := by
  refine lc_range (fun i H => Grows H0 H ∧ H D = some (.lst (kept p F i))) ⟨Grows.new hD, upd_same⟩ (fun i H il m => ?_) fun H m => done H m.1 m.2
  refine turn i H _ _ il m.1 (fun hp H4 s => ⟨_, s _ _ m.2, ?_, fun b o e => ?_, ?_⟩) fun hp H4 s => ⟨m.1.trans s, ?_⟩
  · exact Nat.lt_of_le_of_lt (kept_le p F i) (Nat.lt_of_lt_of_le il (Nat.le_trans small (by decide)))
  · rw [upd_ne (ne_of_none e hD)]
    exact s _ _ (m.1 _ _ e)
  · rw [upd_same, kept_yes hp]
  · rw [kept_no hp]
    exact s _ _ m.2
/-- {k: v for x in xs}, keys ints or texts -/
theorem dc_listM (G : Nat → L2.Key) (F : Nat → V) (hD : H0 D = none) (hx : SqL K H0 a xs) (small : xs.length ≤ 1000000)
    (turn : ∀ (i : Nat) (x : V) (H : Hp) (R : V → Hp → V → Hp → Prop), xs[i]? = some x → Grows H0 H → (∀ H4 H5, Grows H H4 → Grows H4 H5 → R (kV (G i)) H4 (F i) H5) →
      g x (wipe σ vs) H fun σ2 H2 => wipe σ2 vs = wipe σ vs ∧ tk σ2 H2 fun y H4 => tv σ2 H4 fun z H5 => R y H4 z H5)
    (done : ∀ H, Grows H0 H → H D = some (.dK (laid (fun _ => true) G F xs.length)) → Qd H) :
    ∃ W : Nat → Nat → Hp → Prop, (∃ m, W 0 m (upd H0 D (.dK []))) ∧ ∀ i m H, W i m H →
      ((Itl K a).stop i H ∧ Qd H) ∨ ((Itl K a).go i H ∧ ∃ Nx : Hp → Prop, (∀ H', Nx H' → ∃ m', m' < m ∧ W (i + 1) m' H') ∧ ∀ x H', (Itl K a).yld i H x H' → g x (wipe σ vs) H' fun σ2 H2 => wipe σ2 vs = wipe σ vs ∧ tYes σ2 H2 fun b H3 =>
        if b = true then tk σ2 H3 fun y H4 => tv σ2 H4 fun z H5 => ∃ kvs k, y = kV k ∧ H5 D = some (.dK kvs) ∧ kvs.length < sizeLine ∧ Nx (upd H5 D (.dK (putK kvs k z))) else Nx H3) := by
  let inv : Nat → Hp → Prop := fun i H => Grows H0 H ∧ H D = some (.dK (laid (fun _ => true) G F i))
  refine ⟨fun i m H => m = xs.length - i ∧ i ≤ xs.length ∧ inv i H, ⟨_, rfl, Nat.zero_le _, Grows.new hD, upd_same⟩, ?_⟩
  rintro i m H ⟨rfl, hi, pv⟩
  rcases Nat.lt_or_ge i xs.length with lt | ge
  · have ex : xs[i]? = some xs[i] := List.getElem?_eq_getElem lt
    refine .inr ⟨⟨xs, _, pv.1.seq hx, ex⟩, inv (i + 1), fun H' p' => ⟨xs.length - (i + 1), by omega, rfl, lt, p'⟩, fun v H' y => ?_⟩
    obtain ⟨rfl, f1⟩ := y
    have e0 : (fun (σ2 : L2.St) (H2 : Hp) => wipe σ2 vs = wipe σ vs ∧ tYes σ2 H2 fun b H3 => if b = true then tk σ2 H3 fun y H4 => tv σ2 H4 fun z H5 => ∃ kvs k, y = kV k ∧ H5 D = some (.dK kvs) ∧ kvs.length < sizeLine ∧ inv (i + 1) (upd H5 D (.dK (putK kvs k z))) else inv (i + 1) H3) =
        fun σ2 H2 => wipe σ2 vs = wipe σ vs ∧ tk σ2 H2 fun y H4 => tv σ2 H4 fun z H5 => ∃ kvs k, y = kV k ∧ H5 D = some (.dK kvs) ∧ kvs.length < sizeLine ∧ inv (i + 1) (upd H5 D (.dK (putK kvs k z))) := by
      funext σ2 H2
      unfold tYes
      dsimp only
      rw [if_pos rfl]
    rw [e0]
    refine turn i v _ (fun y _ z H5 => ∃ kvs k, y = kV k ∧ H5 D = some (.dK kvs) ∧ kvs.length < sizeLine ∧ inv (i + 1) (upd H5 D (.dK (putK kvs k z)))) (f1 xs (pv.1.seq hx)) pv.1 fun H4 H5 s4 s5 => ⟨_, G i, rfl, s5 _ _ (s4 _ _ pv.2), ?_, fun b o e => ?_, ?_⟩
    · exact Nat.lt_of_le_of_lt (laid_le _ G F i) (Nat.lt_of_lt_of_le lt (Nat.le_trans small (by decide)))
    · rw [upd_ne (ne_of_none e hD)]
      exact s5 _ _ (s4 _ _ (pv.1 _ _ e))
    · rw [upd_same]
      rfl
  · have e : i = xs.length := by omega
    subst e
    exact .inl ⟨⟨xs, pv.1.seq hx, Nat.le_refl _⟩, done H pv.1 pv.2⟩
end
end LcM

/-! Masks of ascending lists, bit by bit. -/
namespace LcM
open PySem
def mk (ns : List Nat) : Nat := (ns.map (2 ^ ·)).sum
theorem mk_cons (x : Nat) (xs : List Nat) : mk (x :: xs) = 2 ^ x + mk xs := by
  unfold mk
  rw [List.map_cons, List.sum_cons]
theorem mk_dvd (y : Nat) : ∀ xs : List Nat, (∀ z ∈ xs, y ≤ z) → 2 ^ y ∣ mk xs
  | [], _ => ⟨0, rfl⟩
  | x :: xs, h => by
    rw [mk_cons]
    exact Nat.dvd_add (Nat.pow_dvd_pow 2 (h x List.mem_cons_self)) (mk_dvd y xs fun z hz => h z (List.mem_cons_of_mem _ hz))
theorem mk_bit : ∀ (xs : List Nat) (i : Nat), xs.Pairwise (· < ·) → (mk xs).testBit i = decide (i ∈ xs)
  | [], i, _ => by
    show Nat.testBit 0 i = _
    rw [Nat.zero_testBit]
    rfl
  | x :: xs, i, h => by
    obtain ⟨h1, h2⟩ := List.pairwise_cons.mp h
    have ih := mk_bit xs i h2
    obtain ⟨k, hk⟩ := mk_dvd (x + 1) xs fun z hz => h1 z hz
    rw [mk_cons, Nat.add_comm, hk, Nat.testBit_two_pow_mul_add k (Nat.pow_lt_pow_right (by decide) (Nat.lt_succ_self x))]
    rw [hk] at ih
    by_cases l : i < x + 1
    · rw [if_pos l, Nat.testBit_two_pow]
      have no : i ∉ xs := fun z => by
        have := h1 i z
        omega
      by_cases e : x = i
      · rw [decide_eq_true e, e, decide_eq_true List.mem_cons_self]
      · rw [decide_eq_false e, decide_eq_false fun z => (List.mem_cons.mp z).elim (fun q => e q.symm) no]
    · rw [if_neg l]
      have z := Nat.testBit_two_pow_mul_add k (b := 0) (i := x + 1) (Nat.two_pow_pos _) i
      rw [if_neg l, Nat.add_zero] at z
      rw [← z, ih]
      have ne : i ≠ x := by omega
      by_cases m : i ∈ xs
      · rw [decide_eq_true m, decide_eq_true (List.mem_cons_of_mem _ m)]
      · rw [decide_eq_false m, decide_eq_false fun q => (List.mem_cons.mp q).elim ne m]
/-- masks of lists that do not cross -/
theorem mk_and {xs ys : List Nat} (hx : xs.Pairwise (· < ·)) (hy : ys.Pairwise (· < ·)) (h : (∀ z ∈ xs, z ∉ ys) ∨ (∀ z ∈ xs, z ∈ ys) ∨ ∀ z ∈ ys, z ∈ xs) : mk xs &&& mk ys = 0 ∨ mk xs &&& mk ys = mk xs ∨ mk xs &&& mk ys = mk ys := by
  have bit : ∀ i, (mk xs &&& mk ys).testBit i = (decide (i ∈ xs) && decide (i ∈ ys)) := fun i => by rw [Nat.testBit_and, mk_bit xs i hx, mk_bit ys i hy]
  rcases h with h | h | h
  · refine .inl (Nat.eq_of_testBit_eq fun i => ?_)
    rw [bit, Nat.zero_testBit]
    by_cases m : i ∈ xs
    · rw [decide_eq_false (h i m), Bool.and_false]
    · rw [decide_eq_false m, Bool.false_and]
  · refine .inr (.inl (Nat.eq_of_testBit_eq fun i => ?_))
    rw [bit, mk_bit xs i hx]
    by_cases m : i ∈ xs
    · rw [decide_eq_true m, decide_eq_true (h i m)]
      rfl
    · rw [decide_eq_false m, Bool.false_and]
  · refine .inr (.inr (Nat.eq_of_testBit_eq fun i => ?_))
    rw [bit, mk_bit ys i hy]
    by_cases m : i ∈ ys
    · rw [decide_eq_true m, decide_eq_true (h i m)]
      rfl
    · rw [decide_eq_false m, Bool.and_false]
end LcM

/-! repr of data of any kind, where no guard stands -/
namespace RepA
open PySem PySem.Spec PyProof.Rows L2
section
variable {X : Cx} {pins : List (Addr × Obj)} {σ : L2.St} {H : Hp} {s : Shared}
/-- a dict of one text -/
theorem repr_one (hg : X.A.guards = some []) (hu : X.A.units + 64 < cLine) (I : Inv X pins σ H s) {a : Addr} {z : Str} {x : V} {e : PyData} {Q : Value → Shared → Prop} (ha : H a = some (.dK [(Sum.inr z, x)])) (hx : Dq X.K H x e) (hs : (PyData.dict [(.str z, e)]).showable = true)
    (dep : (PyData.dict [(.str z, e)]).depth ≤ 40) (hz : (PyData.dict [(.str z, e)]).shown.length ≤ sizeLine) (fin : ∀ (t tk : Nat) (h' : Heap), (∀ b o, s.heap.get? b = some o → h'.get? b = some o) → Q (.str (PyData.dict [(.str z, e)]).shown t) { s with heap := h', toks := tk }) :
    wpAny (model X.prog X.w) X.A (call (.builtin "repr") [.ref a]) Q X.xe s := by
  obtain ⟨_, hn, vs, rel, dd⟩ := dk_of I.hok ha
  obtain ⟨o, es, ep, e1, e2, e3, e4⟩ := dd
  obtain ⟨en, ux, ees, ekey, eval, rx⟩ : ∃ (en : DictEntry) (ux : Value), es.toList = [en] ∧ (∃ t, en.key = .str z t) ∧ en.val = ux ∧ RelV x ux := by
    cases rel with
    | cons hd tl =>
      cases tl
      have q := e4.2.1
      generalize es.toList = l at q
      rename_i b
      obtain ⟨kb, ux⟩ := b
      obtain ⟨e5, e6⟩ := hd
      cases e5
      cases q with
      | cons p1 p2 p3 =>
        cases p3
        refine ⟨_, ux, rfl, ?_, p2, e6⟩
        rcases keyIs_shape (show keyIs (Sum.inr z) _ = true from p1) with ⟨i, t, q1, q2⟩ | ⟨y, t, q1, q2⟩
        · cases q1
        · cases q1
          exact ⟨t, q2⟩
  obtain ⟨t, ek⟩ := ekey
  have hz' : (dictText (PyData.shownKv [(.str z, e)])).length ≤ sizeLine := by simpa only [PyData.shown] using hz
  have hs2 : e.showable = true := by
    have q := (PyData.showableKv_split [(.str z, e)] (by simpa [PyData.showable] using hs)).2
    simpa [PyData.showableAll] using q
  have hs1 : (PyData.str z).showable = true := by
    have q := (PyData.showableKv_split [(.str z, e)] (by simpa [PyData.showable] using hs)).1
    simpa [PyData.showableAll] using q
  have key_le : ∀ t ∈ PyData.shownAll [PyData.str z], t.length ≤ sizeLine := fun t ht => by
    obtain ⟨p, hp, l⟩ := PyData.shownKv_key_le [(.str z, e)] t ht
    exact Nat.le_trans l (Nat.le_trans (dictText_mem_le hp) hz')
  have val_le : ∀ t ∈ PyData.shownAll [e], t.length ≤ sizeLine := fun t ht => by
    obtain ⟨p, hp, l⟩ := PyData.shownKv_val_le [(.str z, e)] t ht
    exact Nat.le_trans l (Nat.le_trans (dictText_mem_le hp) hz')
  obtain ⟨b1, m1, k1⟩ := ReprK.of_reads (prog := X.prog) (w := X.w) (Reads.str (h := s.heap) z t) hs1 (fun _ h => nomatch h) (key_le _ (by simp only [PyData.shownAll]; exact List.mem_cons_self ..))
  obtain ⟨a2, b2, q2, m2, k2⟩ := shw_dq I hx rx hs2 (val_le _ (by simp only [PyData.shownAll]; exact List.mem_cons_self ..))
  have rd : Reads s.heap (.ref a) (.dict [(.str z, e)]) _ := .dict (kvs := [(PyData.str z, e)]) e1 e2.1 e3 (by rw [ees]; show ReadsAll s.heap [en.key] [PyData.str z] _; rw [ek]; exact .cons (.str z t) .nil) (by rw [ees]; show ReadsAll s.heap [en.val] [e] _; rw [eval]; exact .cons q2 .nil)
  have hd1 : (PyData.str z).depth ≤ PyData.depthKv [(.str z, e)] := by simp only [PyData.depthKv, PyData.depth]; omega
  have hd2 : e.depth ≤ PyData.depthKv [(.str z, e)] := by simp only [PyData.depthKv]; omega
  have hb : ReadAtMost s.heap (PyData.depthKv [(.str z, e)]) (b1 ++ b2) := (m1.mono hd1).append (m2.mono hd2)
  have hna : a ∉ b1 ++ b2 := not_mem_of_deeper rd (by simp only [PyData.depth]; omega) hb
  have d40 : PyData.depthKv [(.str z, e)] + 1 ≤ 40 := by simpa only [PyData.depth] using dep
  refine call_repr_slot (by omega) ⟨o, e1, e2.1⟩ PySem.F.slot_dict_repr ?_
  have ent : ReprEntriesK X.prog X.w (b1 ++ b2) s.heap (PyData.depthKv [(.str z, e)]) es.toList (PyData.shownKv [(.str z, e)]) := by
    rw [ees]
    simp only [PyData.shownKv]
    refine .cons ?_ ?_ .nil
    · rw [ek]
      exact (k1.more fun b hb => List.mem_append.mpr (.inl hb)).level_le hd1
    · rw [eval]
      exact (k2.more fun b hb => List.mem_append.mpr (.inr hb)).level_le hd2
  have end_ : ∀ h' u tk, (∀ b o, s.heap.get? b = some o → h'.get? b = some o) → Q (.str (dictText (PyData.shownKv [(.str z, e)])) u) { s with heap := h', toks := tk } := fun h' u tk k => by
    have q := fin u tk h' k
    simpa only [PyData.shown] using q
  exact call_dict_reprK (h₀ := s.heap) e1 e2.1 e3 hn hna ent hg (fun b _ => Clear.nil b) (by show X.A.units + 1 + (PyData.depthKv [(.str z, e)] + 1) < cLine; omega) (fun _ _ e => e) (fun h' u tk k => ⟨_, _, rfl, end_ h' u tk k⟩) hz'
/-- data as they come here: of any kind, or a dict of one text -/
theorem call_reprV (hg : X.A.guards = some []) (hu : X.A.units + 64 < cLine) : CallR X (.builtin "repr") (fun xs H Q => ∃ (x : V) (d : PyData), xs = [x] ∧ (Dd X.K H x d ∨ ∃ a z y e, x = .ref a ∧ H a = some (.dK [(Sum.inr z, y)]) ∧ Dp X.K H y e ∧ d = .dict [(.str z, e)]) ∧ d.showable = true ∧ d.depth ≤ 40 ∧ d.shown.length ≤ sizeLine ∧ Q (.str d.shown) H) := by
  intro pins s σ H xs us Q I r h
  obtain ⟨x, d, rfl, hd, sh, dep, len, q⟩ := h
  obtain ⟨u, rfl, ru⟩ := vals1 r
  have fin : ∀ (t tk : Nat) (h' : Heap), (∀ b o, s.heap.get? b = some o → h'.get? b = some o) → EP X pins σ Q (.str d.shown t) { s with heap := h', toks := tk } := fun t tk h' k => ⟨.str _, H, I.kept k, ⟨t, rfl⟩, q⟩
  have refs : ∀ {a : Addr}, u = .ref a → Dd X.K H x d → wpAny (model X.prog X.w) X.A (call (.builtin "repr") [u]) (EP X pins σ Q) X.xe s := fun {a} eu hd => by
    subst eu
    obtain ⟨as, rd, sy⟩ := dd_reads I hd ru
    exact repr_of_reads' (h₀ := s.heap) rd sh sy hg (by omega) (fun _ _ e => e) (fun h' t tk k => fin t tk h' k) len
  rcases hd with hd | ⟨a, z, y, e, rfl, ha, hy, rfl⟩
  · rcases hd with h | ⟨a, rfl, ha, rfl⟩
    · cases h with
      | non =>
        obtain rfl : u = Value.none := ru
        exact PySem.P.repr_of_none (fin _ _ s.heap fun _ _ e => e)
      | bl b =>
        obtain rfl : u = Value.bool b := ru
        refine PySem.P.repr_of_bool ?_
        have z := fin s.toks (s.toks + 1) s.heap fun _ _ e => e
        cases b <;> simpa only [PyData.shown] using z
      | int i =>
        obtain ⟨t, rfl⟩ := ru
        refine PySem.P.repr_of_int ?_ (fin _ _ s.heap fun _ _ e => e)
        simp only [PyData.showable] at sh
        exact of_decide_eq_true sh
      | str w =>
        obtain ⟨t, rfl⟩ := ru
        exact PySem.P.repr_of_str (fin _ _ s.heap fun _ _ e => e) len
      | lst h1 h2 =>
        obtain rfl : u = Value.ref _ := ru
        exact refs rfl (.inl (.lst h1 h2))
      | tup h1 h2 =>
        obtain rfl : u = Value.ref _ := ru
        exact refs rfl (.inl (.tup h1 h2))
    · obtain rfl : u = Value.ref a := ru
      exact refs rfl (.inr ⟨a, rfl, ha, rfl⟩)
  · obtain rfl : u = Value.ref a := ru
    exact repr_one hg hu I ha (.base (.inl hy)) sh dep len fin
end
end RepA

/-! name = {k: v for ..} on one line, keys ints or texts, the name a local. -/
namespace DcK
open PySem PySem.Spec PyProof.Rows L2
section
variable {X : Cx}
theorem ps_setDc {i : Nat} {y : Str} {py : Pos} {kx vx tg iter : Expr} {ifs : List Expr} {scope : Scope} {own : List (Str × Nat)} {pos spos : Pos} {wi : TI} {g : TG} {tt : TT} {tk tv : TE} (calm : X.calm = true) (nd : X.N.Nodup) (at_y : X.N[i]? = some y) (loc : X.env.scope.names.lookup y = some .local)
    (sw : swapsWith (.DictComp kx vx [⟨tg, iter, ifs, 0⟩] scope pos) (some (.Name y py)) spos.line X.env = pure true) (pi : PI X tg iter wi) (ok : BlkOk X.N X.env.scope scope own)
    (pgs : ∀ (s : Shared) (H : Hp) (C : Addr) (cl : List (Str × Addr)) (fp : List Addr), PG (X.blk s H scope (compEnvC scope cl C X.env) fp) tg g) (pts : ∀ (s : Shared) (H : Hp) (C : Addr) (cl : List (Str × Addr)) (fp : List Addr), PTs (X.blk s H scope (compEnvC scope cl C X.env) fp) ifs tt)
    (pks : ∀ (s : Shared) (H : Hp) (C : Addr) (cl : List (Str × Addr)) (fp : List Addr), PE (X.blk s H scope (compEnvC scope cl C X.env) fp) kx tk) (pvs : ∀ (s : Shared) (H : Hp) (C : Addr) (cl : List (Str × Addr)) (fp : List Addr), PE (X.blk s H scope (compEnvC scope cl C X.env) fp) vx tv)
    (fold : ∀ x, foldedSetIterable iter X.env x = pure x := by intro _; rfl) : PS X (.Assign [.Name y py] (.DictComp kx vx [⟨tg, iter, ifs, 0⟩] scope pos) spos) (tAsg (tDc wi g tt tk tv (own.map (·.2))) (gName i)) := by
  refine ⟨fun pins s0 σ H0 D I0 rd => ?_⟩
  rw [exec_Assign_Name_used _ _ _ _ sw]
  refine wpAny_bind (wpAny_standAt (wpAny_bind ?_))
  show wpAny _ X.A (do let _ ← comprehension (.DictComp kx vx [⟨tg, iter, ifs, 0⟩] scope pos) scope X.env (firstIterPos [⟨tg, iter, ifs, 0⟩] pos) newDict false (eval iter X.env) (some (assign (.Name y py) X.env))) _ _ s0
  have rd' : tDc wi g tt tk tv (own.map (·.2)) σ H0 (fun x G => gName i x σ G D.nx) := rd
  refine wpAny_bind (thn (dc_core (Qf := fun _ t => SP X pins D .next t) calm nd I0 pi ok pgs pts pks pvs fold rd' fun L C t m G J fin isNs fo => ?_) fun _ _ z => wpAny_pure (wpAny_pure z))
  obtain ⟨f0, f1, f2, f3, f4, f5⟩ := fo
  show wpAny _ _ (assign (.Name y py) X.env (.ref L)) _ _ _
  refine wpAny_assign_Name (store_ok2 (v := V.ref L) J nd at_y (.inl loc) rfl (fun t2 J2 ⟨c, sb, hc⟩ => ?_) (.inr loc))
  have ne : C ≠ c := hc.elim (fun z => z ▸ f1) fun z e => f4 y c z e.symm
  exact ⟨m, isNs.sameBut sb ne, fun h3 sb3 => ⟨_, G, J2.turned (t' := t2.toks) (fun b o hb e => (sb3.2 b hb).trans e) f0 f1 f3 f4 f5, fin⟩⟩
end
end DcK

/-! Defs that are called where a token is out (str.replace of two written texts). -/
namespace TokF
open PySem PySem.Spec PyProof.Rows L2
structure FnT (Pg : Program) (wd : World) (Kf : PySem.W.Frag) (gl : Str → Option Value) (bs : Heap) (cx : CXT) (lv : Nat) (fa : Addr) (dat : FuncData) (names : List Str) (prom : Sp) : Prop where
  cnt : ∀ xs G Qv Ex, prom xs G Qv Ex → xs.length = names.length
  go : ∀ (Ar : Around) (fr : List Env) (sh : Shared) (G : Hp) (ar : Args) (us : List Value) (xs : List V) (Qv : VK) (Ex : XK), Room lv Ar → 1 ≤ sh.toks →
    Env0 Pg wd Kf gl bs Ar fr sh G → BindsTo sh dat ar (names.zip us) → Vals xs us → prom xs G Qv Ex →
    codeAny (model Pg wd) Ar (.call (.ref fa) ar) (CR cx fr Pg wd G sh Qv Ex) sh
theorem okT {Pg : Program} {wd : World} {Kf : PySem.W.Frag} {gl : Str → Option Value} {bs : Heap} {nm qn : Str} {st : Stmt} {fa : Addr} {dat : FuncData} {slots names : List Str} {lv : Nat} {prom : Sp}
    (F : Fun Kf nm qn st fa dat) (S : FnScope slots names (defScope st)) (cnt : ∀ xs G Qv Ex, prom xs G Qv Ex → xs.length = names.length)
    (body : ∀ (cd : Value) (Ar : Around) (fr : List Env) (sh : Shared) (G : Hp) (xs : List V) (Qv : VK) (Ex : XK), Room lv (Ar.deeper (envOfC qn (defScope st) sh.heap.objs.size fa cd)) → prom xs G Qv Ex →
      ∃ t, PSsT (cxOf CX0 Pg wd Kf gl bs slots qn (defScope st) fa cd Ar fr sh G Ex) (defBody st) t ∧ t { nx := fun _ G' => Qv .non G', rt := Qv } (start slots xs) G) :
    FnT Pg wd Kf gl bs CX0 (lv + 1) fa dat names prom := by
  obtain ⟨oc, od, kV, doc, pm, an, cd, ct, osl, rfl, look, code⟩ := F.ex
  refine ⟨cnt, fun Ar fr sh G ar us xs Qv Ex room tok env bind vals hp => ?_⟩
  have sz := cnt _ _ _ _ hp
  have inK : Kf.In sh.heap := env.mod.kin.keeps fun b o q => (env.bs b o q).1
  have noL : sh.heap.NoLimit := env.mod.nolimit.keeps fun b o q => (env.bs b o q).1
  have kinds : ∀ y ∈ names.zip us, (defScope st).names.lookup y.1 = some .local ∨ ((defScope st).names.lookup y.1 = some .cell ∧ ((cellsFrom (sh.heap.objs.size + 1) (defScope st).names []).lookup y.1).isSome = true) := by
    rintro ⟨n, v⟩ hy
    rcases S.par n (List.of_mem_zip hy).1 with z | z
    · exact .inl z
    · exact .inr ⟨z, PySem.W.cellsFrom_some _ _ _ (.inl z)⟩
  refine codeAny_call_function room.depth (inK _ _ look) rfl S.co S.gen rfl (PySem.W.codeRec_of inK code) (bind _ _ _ _ ?_)
  refine PySem.wpAny_with_toks tok (wpAny_mono (wpAny_newFunctionEnv_cells (E := _) S.kind kinds fun en hen sh1 inC tok1 => ?_) (fun _ _ z => z) fun _ _ z _ => z)
  subst hen
  refine ⟨noL.keeps inC.toInCall.keep, codeAny_func ?_⟩
  obtain ⟨t, walk, read⟩ := body cd Ar fr sh G xs Qv Ex (room.deeper _) hp
  have I0 := inv_start (CX := CX0) (P := Pg) (w := wd) (K := Kf) (mg := gl) (base := bs) (E := Ex) S room.hd env sz vals inC
  refine wpAny_mono (walk [] sh1 _ G _ tok1 I0 read) (fun fl sh2 out => ?_) fun _ _ x => x
  cases fl with
  | ret u =>
    obtain ⟨v, σ2, G2, J, rel, q⟩ := out
    exact ⟨v, G2, J.os, J.bare, J.base, J.hok, rel, q⟩
  | next =>
    obtain ⟨σ2, G2, J, q⟩ := out
    exact ⟨V.non, G2, J.os, J.bare, J.base, J.hok, (rfl : RelV V.non Value.none), q⟩
  | brk => exact out.elim fun _ z => z.elim fun _ z => z.2.elim
  | cont => exact out.elim fun _ z => z.elim fun _ z => z.2.elim
section
variable {X : Cx} {x : Str} {p pos : Pos} {e : Expr} {es : List Expr} {t : TA} {CX : CXT} {k : Nat} {f : Addr} {fd : FuncData} {ps : List Str} {sp : Sp} {ds : List Value} {dvs : List V} {E : XK}
/-- f(e, ..), f any def, the arguments wanting a token -/
theorem pet_call (F : FnOk X.prog X.w X.K X.mg X.base CX k f fd ps sp) (room : Room k X.A) (hg : Gl X x) (hm : X.mg x = some (.ref f)) (kp : PySem.W.keepIn X.K (.ref f) = true) (bd : Binds X.K fd ps ds) (dv : Vals dvs ds) (ps' : Passes CX X E)
    (args : PAT X (e :: es) t) (hdb : (x == ("__debug__" : Str)) = false := by decide) (h1 : starEach (e :: es) X.env = (false, eval e X.env) :: starEach es X.env := by rfl) (h2 : (backTo pos (starEach es X.env)).any (·.1) = false := by rfl) :
    PET X (.Call (.Name x p) (e :: es) [] pos) (tCall sp dvs E t) := by
  intro pins s σ H Q tok I rd
  refine wpAny_Call_Name_kw (ld_glob I hg hm ?_ hdb)
  refine PySem.W.callWith_K (h₀ := X.base) I.ok.mod.kin kp (thn (args pos pins s σ H _ tok I rd) fun us s1 ⟨vs, H1, I1, rv, q⟩ => ⟨I1.kIn, ?_⟩) h1 h2
  exact run_fn F room bd dv ps' I1 rv q
/-- e.split(sep), e wanting a token -/
theorem pet_split {o e : Expr} {to te : TE} {apos pos : Pos} (ho : PET X o to) (he : PE X e te) (hs : starEach [e] X.env = [(false, eval e X.env)] := by rfl) (hbase : attributeBase o "split" X.env (eval o X.env) = eval o X.env := by rfl) (hline : (apos.endLine == pos.line) = true := by rfl) :
    PET X (.Call (.Attribute o "split" apos) [e] [] pos) (tM1 (fun x xs H Q => ∃ a b, x = .str a ∧ xs = [.str b] ∧ (b.length == 0) = false ∧ a.length + 2 ≤ sizeLine ∧ rNewStrs (Txt.split a b) H Q) to te) := by
  intro pins s σ H Q tok I rd
  refine PySem.Call_method1 hbase hs hline (thn (ho pins s σ H _ tok I rd) fun v s1 ⟨x, H1, I1, r1, q1⟩ => ?_)
  obtain ⟨⟨a, ea⟩, q1⟩ := q1
  subst ea
  have r0 := r1
  obtain ⟨t, et⟩ := r1
  subst et
  refine ⟨"str", _, PySem.F.plainAttrs_str, PySem.F.slot_str_split, PySem.F.type_str_split, typeIs_str _ _ _, (fun _ e => nomatch e), Calls.callWith_builtin rfl (Calls.evalArgs_plain (Calls.spliced_cons ?_))⟩
  exact thn (he.run pins s1 σ H1 _ I1 q1) fun u s2 ⟨y, H2, I2, r2, q2⟩ => Calls.spliced_nil (mt_split pins s2 σ H2 _ [y] _ [u] Q I2 r0 (.cons r2 .nil) q2)
/-- name = e, e wanting a token -/
theorem pst_set {i : Nat} {y : Str} {e : Expr} {te : TE} {ypos spos : Pos} (he : PET X e te) (hN : X.N.Nodup) (hi : X.N[i]? = some y) (hx : Loc X.env.scope y)
    (hs : swapsWith e (some (.Name y ypos)) spos.line X.env = pure false := by rfl) (hf : X.fn y = true ∨ X.env.scope.names.lookup y = some .local := by first | exact .inl rfl | exact .inr rfl | assumption) :
    PST X (.Assign [.Name y ypos] e spos) (tAsg te (gName i)) := by
  intro pins s σ H D tok I rd
  refine wpAny_Assign_Name (thn (he pins s σ H _ tok I rd) fun v s1 ⟨x, H1, I1, r1, q1⟩ => ?_) hs
  exact store_ok I1 hN hi hx r1 (fun s2 I2 => ⟨_, H1, I2, q1⟩) hf
end
end TokF

/-! Behind a statement that evaluates a written text a token is out. -/
namespace TokF
open PySem PySem.Spec PyProof.Rows L2
/-- e is evaluated, and behind it a token is out -/
def PEK (X : Cx) (e : Expr) (te : TE) : Prop :=
  ∀ (pins : List (Addr × Obj)) (s : Shared) (σ : L2.St) (H : Hp) (Q : VK), Inv X pins σ H s → te σ H Q → wpAny (model X.prog X.w) X.A (eval e X.env) (fun v s1 => 1 ≤ s1.toks ∧ EP X pins σ Q v s1) X.xe s
def PAK (X : Cx) (es : List Expr) (t : TA) : Prop :=
  ∀ (pos : Pos) (pins : List (Addr × Obj)) (s : Shared) (σ : L2.St) (H : Hp) (Q : List V → Hp → Prop), Inv X pins σ H s → t σ H Q → wpAny (model X.prog X.w) X.A (spliced (backTo pos (starEach es X.env))) (fun us s1 => 1 ≤ s1.toks ∧ AP X pins σ Q us s1) X.xe s
def PSK (X : Cx) (st : Stmt) (t : TS) : Prop :=
  ∀ (pins : List (Addr × Obj)) (s : Shared) (σ : L2.St) (H : Hp) (D : Ends), Inv X pins σ H s → t D σ H → wpAny (model X.prog X.w) X.A (exec st X.env) (fun f s1 => 1 ≤ s1.toks ∧ SP X pins D f s1) X.xe s
section
variable {X : Cx} {o e a b c : Expr} {te to ta tb : TE} {tc : TT} {pos apos : Pos}
theorem pek_str {x : Str} {j : Nat} {p : Pos} : PEK X (.Constant (.str x) j p) (tC (.str x)) := by
  intro pins s σ H Q I rd
  exact Calls.Constant_str ⟨by show 1 ≤ s.toks + 1; omega, .str x, H, I.tok _, ⟨_, rfl⟩, rd⟩
theorem pek_if (hc : PT X c tc) (ha : PEK X a ta) (hb : PEK X b tb) : PEK X (.IfExp c a b pos) (tIf tc ta tb) := by
  intro pins s σ H Q I rd
  refine wpAny_IfExp (thn (hc.run pins s σ H _ I rd) fun d s1 ⟨H1, I1, q1⟩ => ?_)
  cases d with
  | true => exact ha pins s1 σ H1 Q I1 q1
  | false => exact hb pins s1 σ H1 Q I1 q1
/-- sep.join(e), sep written -/
theorem pek_join (ho : PEK X o to) (he : PE X e te) (hs : starEach [e] X.env = [(false, eval e X.env)] := by rfl) (hbase : attributeBase o "join" X.env (eval o X.env) = eval o X.env := by rfl) (hline : (apos.endLine == pos.line) = true := by rfl) :
    PEK X (.Call (.Attribute o "join" apos) [e] [] pos) (tM1 (fun x xs H Q => ∃ a p, ∃ ys : List Str, x = .str a ∧ xs = [.ref p] ∧ (SqL X.K H p (ys.map V.str) ∨ SqT X.K H p (ys.map V.str)) ∧
      (ys.map (·.length)).sum + ys.length * a.length ≤ 16777216 ∧ Q (.str (Txt.join a ys)) H) to te) := by
  intro pins s σ H Q I rd
  refine PySem.Call_method1 hbase hs hline (thn (ho pins s σ H _ I rd) fun v s1 ⟨tk, x, H1, I1, r1, q1⟩ => ?_)
  obtain ⟨⟨y, ey⟩, q1⟩ := q1
  subst ey
  have r0 := r1
  obtain ⟨t, et⟩ := r1
  subst et
  refine ⟨"str", _, PySem.F.plainAttrs_str, PySem.F.slot_str_join, PySem.F.type_str_join, typeIs_str _ _ _, (fun _ e => nomatch e), Calls.callWith_builtin rfl (Calls.evalArgs_plain (Calls.spliced_cons ?_))⟩
  refine wpAny_mono (PySem.wpAny_toks_of tk (he.run pins s1 σ H1 _ I1 q1)) (fun u s2 z => ?_) fun _ _ z => z.2
  obtain ⟨tk2, y2, H2, I2, r2, q2⟩ := z
  exact Calls.spliced_nil (wpAny_mono (PySem.wpAny_toks_of tk2 (mt_join pins s2 σ H2 _ [y2] _ [u] Q I2 r0 (.cons r2 .nil) q2)) (fun _ _ z => z) fun _ _ z => z.2)
theorem pak_one (he : PEK X e te) (hs : starEach [e] X.env = (false, eval e X.env) :: starEach [] X.env := by rfl) : PAK X [e] (tCons te tNil) := by
  intro pos pins s σ H Q I rd
  rw [hs]
  show wpAny _ _ (spliced ((false, eval e X.env) :: backTo pos (starEach [] X.env))) _ _ s
  refine Calls.spliced_cons (thn (he pins s σ H _ I rd) fun v s1 ⟨tk, x, H1, I1, r1, q1⟩ => ?_)
  exact Calls.spliced_nil ⟨tk, [x], H1, I1, .cons r1 .nil, q1⟩
theorem pak_cons {es : List Expr} {t : TA} (he : PE X e te) (hr : PAK X es t) (hs : starEach (e :: es) X.env = (false, eval e X.env) :: starEach es X.env := by rfl) : PAK X (e :: es) (tCons te t) := by
  intro pos pins s σ H Q I rd
  rw [hs]
  show wpAny _ _ (spliced ((false, eval e X.env) :: backTo pos (starEach es X.env))) _ _ s
  refine Calls.spliced_cons (thn (he.run pins s σ H _ I rd) fun v s1 ⟨x, H1, I1, r1, q1⟩ => ?_)
  exact thn (hr pos pins s1 σ H1 _ I1 q1) fun us s2 ⟨tk, xs, H2, I2, r2, q2⟩ => ⟨tk, x :: xs, H2, I2, .cons r1 r2, q2⟩
theorem pek_lst {es : List Expr} {t : TA} (h : PAK X es t) : PEK X (.List es pos) (tLst t) := by
  intro pins s σ H Q I rd
  refine wpAny_List_spliced (thn (h pos pins s σ H _ I rd) fun us s1 ⟨tk, xs, H1, I1, r, z, q⟩ => ⟨by rw [← r.length]; exact z, ?_⟩)
  have hf : H1 s1.heap.objs.size = none := I1.hok.fresh (Nat.le_refl _)
  refine ⟨tk, .ref s1.heap.objs.size, upd H1 s1.heap.objs.size (.lst xs), I1.laid (t' := s1.toks) (fun b u e => Heap.get?_push_of_some _ e) (Nat.le_refl _) ?_, rfl, q _ hf⟩
  exact ⟨z, us, 0, r, Heap.get?_push_size _ rfl⟩
theorem psk_set {i : Nat} {y : Str} {ypos spos : Pos} (he : PEK X e te) (hN : X.N.Nodup) (hi : X.N[i]? = some y) (hx : Loc X.env.scope y)
    (hs : swapsWith e (some (.Name y ypos)) spos.line X.env = pure false := by rfl) (hf : X.fn y = true ∨ X.env.scope.names.lookup y = some .local := by first | exact .inl rfl | exact .inr rfl | assumption) :
    PSK X (.Assign [.Name y ypos] e spos) (tAsg te (gName i)) := by
  intro pins s σ H D I rd
  refine wpAny_Assign_Name (thn (he pins s σ H _ I rd) fun v s1 ⟨tk, x, H1, I1, r1, q1⟩ => ?_) hs
  exact wpAny_mono (PySem.wpAny_toks_of tk (store_ok (Q := fun _ s2 => SP X pins D .next s2) I1 hN hi hx r1 (fun s2 I2 => ⟨_, H1, I2, q1⟩) hf)) (fun _ _ z => z) fun _ _ z => z.2
/-- the rest stands behind a token -/
theorem pss_k {st : Stmt} {rest : List Stmt} {t u : TS} (h1 : PSK X st t) (h2 : PSsT X rest u) : PSs X (st :: rest) (tSeq t u) := by
  refine ⟨fun pins s σ H D I rd => ?_⟩
  refine wpAny_execs_cons (thn (h1 pins s σ H { D with nx := u D } I rd) fun f s1 ⟨tk, q⟩ => ?_)
  cases f with
  | next =>
    obtain ⟨σ', H', I', q⟩ := q
    exact h2 pins s1 σ' H' D tk I' q
  | ret v => exact q
  | brk => exact q
  | cont => exact q
end
/-! ### calls of such defs -/
section
variable {X : Cx} {x : Str} {p pos : Pos} {e : Expr} {es : List Expr} {t : TA} {CX : CXT} {k : Nat} {f : Addr} {fd : FuncData} {ps : List Str} {sp : Sp} {ds : List Value} {dvs : List V} {E : XK}
theorem run_fnT {pins : List (Addr × Obj)} {σ : L2.St} {H : Hp} {s : Shared} {Q : VK} {us : List Value} {vs : List V} (F : FnT X.prog X.w X.K X.mg X.base CX k f fd ps sp) (hr : Room k X.A) (hb : Binds X.K fd ps ds) (hd : Vals dvs ds) (hx : Passes CX X E)
    (tok : 1 ≤ s.toks) (I : Inv X pins σ H s) (r : Vals vs us) (h : sp (vs ++ dvs) H Q E) : wpAny (model X.prog X.w) X.A (call (.ref f) us) (EP X pins σ Q) X.xe s := by
  have r2 : Vals (vs ++ dvs) (us ++ ds) := r.append hd
  have hl : (us ++ ds).length = ps.length := r2.length.symm.trans (F.cnt _ _ _ _ h)
  refine wpAny_call (codeAny_mono (F.go X.A X.stack s H ⟨us, []⟩ _ _ Q E hr tok I.env0 (hb s us I.kIn hl) r2 h) fun r s2 out => ?_)
  match r, out with
  | .error er, out => exact hx pins σ H s er s2 I out
  | .ok (.ret u), out => exact I.after out
  | .ok .next, out => exact out.elim
  | .ok .brk, out => exact out.elim
  | .ok .cont, out => exact out.elim
/-- f(e, ..) where a token is out -/
theorem pet_callT (F : FnT X.prog X.w X.K X.mg X.base CX k f fd ps sp) (hr : Room k X.A) (hg : Gl X x) (hm : X.mg x = some (.ref f)) (hk : PySem.W.keepIn X.K (.ref f) = true) (hb : Binds X.K fd ps ds) (hd : Vals dvs ds) (hx : Passes CX X E)
    (ha : PA X (e :: es) t) (hdb : (x == ("__debug__" : Str)) = false := by decide) (h1 : starEach (e :: es) X.env = (false, eval e X.env) :: starEach es X.env := by rfl) (h2 : (backTo pos (starEach es X.env)).any (·.1) = false := by rfl) :
    PET X (.Call (.Name x p) (e :: es) [] pos) (tCall sp dvs E t) := by
  intro pins s σ H Q tok I rd
  refine wpAny_Call_Name_kw (ld_glob I hg hm ?_ hdb)
  refine PySem.W.callWith_K (h₀ := X.base) I.ok.mod.kin hk (wpAny_mono (PySem.wpAny_toks_of tok (ha.run pos pins s σ H _ I rd)) (fun us s1 z => ?_) fun _ _ z => z.2) h1 h2
  obtain ⟨tk, vs, H1, I1, rv, q⟩ := z
  exact ⟨I1.kIn, run_fnT F hr hb hd hx tk I1 rv q⟩
/-- f(e), e a written text -/
theorem pe_callT (F : FnT X.prog X.w X.K X.mg X.base CX k f fd ps sp) (hr : Room k X.A) (hg : Gl X x) (hm : X.mg x = some (.ref f)) (hk : PySem.W.keepIn X.K (.ref f) = true) (hb : Binds X.K fd ps ds) (hd : Vals dvs ds) (hx : Passes CX X E)
    (ha : PAK X (e :: es) t) (hdb : (x == ("__debug__" : Str)) = false := by decide) (h1 : starEach (e :: es) X.env = (false, eval e X.env) :: starEach es X.env := by rfl) (h2 : (backTo pos (starEach es X.env)).any (·.1) = false := by rfl) :
    PE X (.Call (.Name x p) (e :: es) [] pos) (tCall sp dvs E t) := by
  refine ⟨fun pins s σ H Q I rd => ?_⟩
  refine wpAny_Call_Name_kw (ld_glob I hg hm ?_ hdb)
  refine PySem.W.callWith_K (h₀ := X.base) I.ok.mod.kin hk (thn (ha pos pins s σ H _ I rd) fun us s1 ⟨tk, vs, H1, I1, rv, q⟩ => ?_) h1 h2
  exact ⟨I1.kIn, run_fnT F hr hb hd hx tk I1 rv q⟩
end
/-! ### by keyword; tests -/
section
variable {X : Cx} {x : Str} {p pos : Pos} {e : Expr} {kws : List Keyword} {tk : TA} {CX : CXT} {k : Nat} {f : Addr} {fd : FuncData} {ps ks : List Str} {sp : Sp} {g : List Value → List Value → List Value} {gV : List V → List V → List V} {E : XK}
theorem run_fnkT {pins : List (Addr × Obj)} {σ : L2.St} {H : Hp} {s : Shared} {Q : VK} {us ws : List Value} {vs zs : List V} (F : FnT X.prog X.w X.K X.mg X.base CX k f fd ps sp) (hr : Room k X.A) (hb : KBinds X.K fd ps ks g gV) (hx : Passes CX X E)
    (tok : 1 ≤ s.toks) (I : Inv X pins σ H s) (r : Vals vs us) (rz : Vals zs ws) (h : sp (gV vs zs) H Q E) : wpAny (model X.prog X.w) X.A (call (.ref f) us (ks.zip ws)) (EP X pins σ Q) X.xe s := by
  have r2 := hb.rel r rz
  have hl : (g us ws).length = ps.length := r2.length.symm.trans (F.cnt _ _ _ _ h)
  refine wpAny_call (codeAny_mono (F.go X.A X.stack s H ⟨us, ks.zip ws⟩ (g us ws) (gV vs zs) Q E hr tok I.env0 (hb.to s us ws I.kIn hl) r2 h) fun r s2 out => ?_)
  match r, out with
  | .error er, out => exact hx pins σ H s er s2 I out
  | .ok (.ret u), out => exact I.after out
  | .ok .next, out => exact out.elim
  | .ok .brk, out => exact out.elim
  | .ok .cont, out => exact out.elim
/-- f(k = v, ..) where a token is out -/
theorem pet_callKwT (F : FnT X.prog X.w X.K X.mg X.base CX k f fd ps sp) (room : Room k X.A) (hg : Gl X x) (hm : X.mg x = some (.ref f)) (kp : PySem.W.keepIn X.K (.ref f) = true) (bd : KBinds X.K fd ps ks g gV) (ps' : Passes CX X E) (args : PK X kws tk)
    (all : (backToKw pos (keywordEach kws X.env)).all (·.1.isSome) = true := by rfl) (names : (backToKw pos (keywordEach kws X.env)).filterMap (·.1) = ks := by rfl) (hdb : (x == ("__debug__" : Str)) = false := by decide)
    (plain : ((backTo pos (starEach [] X.env)).any (·.1) || (backToKw pos (keywordEach kws X.env)).any (·.1.isNone)) = false := by rfl) :
    PET X (.Call (.Name x p) [] kws pos) (tCallK sp gV E tNil tk) := by
  intro pins s σ H Q tok I rd
  refine wpAny_Call_Name_kw (ld_glob I hg hm ?_ hdb)
  refine PySem.W.callWith_KW0 (h₀ := X.base) I.ok.mod.kin kp all (wpAny_mono (PySem.wpAny_toks_of tok (args.run pos pins s σ H _ I rd)) (fun ws s2 z => ?_) fun _ _ z => z.2) plain
  obtain ⟨tk', zs, H2, I2, rz, q2⟩ := z
  refine ⟨I2.kIn, ?_⟩
  rw [names]
  exact run_fnkT (us := []) (vs := []) F room bd ps' tk' I2 .nil rz q2
/-- a test that wants a token -/
def PTT (X : Cx) (e : Expr) (t : TT) : Prop :=
  ∀ (pins : List (Addr × Obj)) (s : Shared) (σ : L2.St) (H : Hp) (Q : Bool → Hp → Prop), 1 ≤ s.toks → Inv X pins σ H s → t σ H Q → wpAny (model X.prog X.w) X.A (isTrue e X.env (eval e X.env)) (TP X pins σ Q) X.xe s
theorem ptt_val {t : TE} (h : PET X e t) (he : ∀ whole, isTrue e X.env whole = (do let v ← whole; standAt e.pos; holding [v] (truthy v)) := by intro _; rfl) : PTT X e (tB t) := by
  intro pins s σ H Q tok I rd
  refine isTrue_plain (thn (h pins s σ H _ tok I rd) fun v s1 ⟨y, H1, I1, r1, q1⟩ => ?_) (he _)
  obtain ⟨d, rfl, q⟩ := q1
  cases r1
  exact wpAny_truthy_bool ⟨H1, I1, q⟩
theorem ptt_not {t : TT} (h : PTT X e t) : PTT X (.UnaryOp .Not e pos) (tNot t) := by
  intro pins s σ H Q tok I rd
  exact isTrue_not (h pins s σ H (fun c H1 => Q (!c) H1) tok I rd)
theorem pst_ifT {a b : List Stmt} {tc : TT} {t u : TS} (hc : PTT X e tc) (ha : PSs X a t) (hb : PSs X b u) : PST X (.If e a b pos) (tIfS tc t u) := by
  intro pins s σ H D tok I rd
  refine wpAny_If (thn (hc pins s σ H _ tok I rd) fun d s1 ⟨H1, I1, q1⟩ => ?_)
  cases d with
  | true => exact ha.run pins s1 σ H1 D I1 q1
  | false => exact hb.run pins s1 σ H1 D I1 q1
end
end TokF

namespace K50
open PySem PySem.Spec PyProof.Rows L2 LcM
def top (i : Nat) : Stmt := PySem.Challenge.pw_twopartings_k50_texts_written_and_read.main.body.getD i (.Pass ⟨0, 0, 0, 0⟩)
abbrev sBag : Stmt := top 26
abbrev sStir : Stmt := top 27
abbrev sDraw : Stmt := top 28
abbrev sAlike : Stmt := top 29
def CPowW (i j : Int) : Prop := 0 ≤ j ∧ (Builtin.Int.intBits i : Int) * j ≤ 2 ^ 27
section
variable {X : Cx}
theorem op_powW : OpR X (binaryOp .Pow) (rI CPowW fun i j => .int (i ^ j.toNat)) := opI fun _ _ _ _ _ _ _ hc q => pow_int hc.1 hc.2 q
end
theorem bits_of {i : Int} {n : Nat} (h : i.natAbs < 2 ^ n) (h0 : 0 < n) : Builtin.Int.intBits i ≤ n := by
  unfold Builtin.Int.intBits
  split
  · omega
  · have := PySem.Flt.log2_lt_of h0 h
    omega
theorem pow3' {i : Int} {n : Nat} (h : i.natAbs < 2 ^ 64) (hn : n ≤ 1000) : CPowW i n := ⟨by omega, by
  have := bits_of h (by decide)
  have z : (Builtin.Int.intBits i : Int) * (n : Int) ≤ 64 * 1000 := Int.mul_le_mul (by omega) (by omega) (by omega) (by decide)
  omega⟩
theorem pow3 {i : Int} (h : i.natAbs < 2 ^ 300) : CPowW i 3 := ⟨by decide, by have := bits_of h (by decide); omega⟩

/-! ### the heap grows: all of it stays but at one place -/
def Gr (p : Addr) (H H' : Hp) : Prop := ∀ b o, b ≠ p → H b = some o → H' b = some o
theorem Gr.refl {p : Addr} {H : Hp} : Gr p H H := fun _ _ _ e => e
theorem Gr.trans {p : Addr} {H H1 H2 : Hp} (x : Gr p H H1) (y : Gr p H1 H2) : Gr p H H2 := fun b o n e => y b o n (x b o n e)
theorem Gr.new {p a : Addr} {H : Hp} {o : HO} (h : H a = none) : Gr p H (upd H a o) := fun b u n e => by
  rw [upd_ne (ne_of_none e h)]
  exact e
theorem Gr.at {p : Addr} {H : Hp} {o : HO} : Gr p H (upd H p o) := fun b u n e => by
  rw [upd_ne n]
  exact e
theorem _root_.LcM.Grows.gr {p : Addr} {H H' : Hp} (x : Grows H H') : Gr p H H' := fun b o _ e => x b o e
/-! ### the pouch -/
/-! ### the bag -/
def bagL (b : Addr) (i t s k : Int) : HO := .lst [.ref b, .int i, .int t, .int s, .int k]
def big : Int := 10 ^ 600
structure Bag (H : Hp) (a : Addr) : Prop where
  ex : ∃ (b : Addr) (i : Nat) (t s k : Int) (cs : List Int), H a = some (bagL b i t s k) ∧ H b = some (.lst (cs.map V.int)) ∧ b ≠ a ∧ i ≤ cs.length ∧ cs.length ≤ 63 ∧ 0 ≤ t ∧ 0 ≤ s ∧ s < 2147483647 ∧ ∀ c ∈ cs, 0 ≤ c
/-- all but the bag as it was -/
def But (a : Addr) (H H' : Hp) : Prop := ∀ b, b ≠ a → H' b = H b
theorem But.refl {a : Addr} {H : Hp} : But a H H := fun _ _ => rfl
theorem But.trans {a : Addr} {H H1 H2 : Hp} (x : But a H H1) (y : But a H1 H2) : But a H H2 := fun b h => (y b h).trans (x b h)
theorem But.upd {a : Addr} {H : Hp} {o : HO} : But a H (upd H a o) := fun b h => upd_ne h

structure Txt0 (mg : Str → Option Value) : Prop where
  int : mg "int" = none
  range : mg "range" = none
  len : mg "len" = none
  abs : mg "abs" = none
  max : mg "max" = none
  min : mg "min" = none
def spStir : Sp := fun vs H Q _ => ∃ (a : Addr) (w : Int), vs = [.ref a, .int w] ∧ Bag H a ∧ 0 < w ∧ w.natAbs.log2 < 200 ∧
  ∀ (v : Int) (H' : Hp), 0 ≤ v → v < w → Bag H' a → But a H H' → Q (.int v) H'

section
variable {P : Program} {w : World} {K : PySem.W.Frag} {mg : Str → Option Value} {base : Heap}
theorem scStir : FnScope ["bag", "wide", "found", "k", "mixed"] ["bag", "wide"] (defScope sStir) := ⟨rfl, rfl, rfl, by decide +kernel, rfl, by decide +kernel, by decide +kernel⟩
theorem ok_stir {f : Addr} {fd : FuncData} (F : Fun K "_law_stirred" "_law_stirred" sStir f fd) (T : Txt0 mg) : FnOk P w K mg base CX0 1 f fd ["bag", "wide"] spStir := by
  refine F.ok scStir (fun vs H Q E h => ?_) (fun cdv A outer s H vs Q E hr h => ?_)
  · obtain ⟨a, w, rfl, _⟩ := h
    rfl
  · obtain ⟨a, w, rfl, hB, hw, hw2, k⟩ := h
    refine ⟨_, pss_cons (ps_set (i := 2) scStir.nd rfl (.inl rfl) pe_int)
      (pss_cons (ps_for PassesOwn.never rfl (pi_range1 (by rfl) T.range (pa_cons (pe_op op_add pe_int (pe_op op_fdiv (pe_bits (pv 1)) pe_int)) pa_nil))
          (pg_name (i := 3) scStir.nd rfl (.inl rfl))
        (pss_cons (ps_asg (pe_op op_add (pe_ix ix_list (pv 0) pe_int (fun _ _ => rfl)) pe_int) (pg_sub (pv 0) pe_int set_list))
        (pss_cons (ps_set (i := 4) scStir.nd rfl (.inl rfl)
          (pe_op op_add (pe_op op_add (pe_op op_add (pe_op op_powW (pe_ix ix_list (pv 0) pe_int (fun _ _ => rfl)) pe_int) (pe_op op_mul pe_int (pe_ix ix_list (pv 0) pe_int (fun _ _ => rfl)))) (pe_op op_mul pe_int (pe_ix ix_list (pv 0) pe_int (fun _ _ => rfl)))) pe_int))
        (pss_cons (ps_asg (pe_op op_mod (pe_callTy call_int1 (by rfl) T.int boot_int (pa_cons (pv 4) pa_nil)) pe_int) (pg_sub (pv 0) pe_int set_list))
        (pss_one (ps_set (i := 2) scStir.nd rfl (.inl rfl) (pe_op op_add (pe_op op_mul (pv 2) pe_int) (pe_op op_fdiv (pe_ix ix_list (pv 0) pe_int (fun _ _ => rfl)) pe_int))))))))
      (pss_one (ps_ret (pe_op op_mod (pe_callTy call_int1 (by rfl) T.int boot_int (pa_cons (pv 2) pa_nil)) (pv 1))))), ?_⟩
    have hbw : Builtin.Int.intBits w ≤ 200 := by
      unfold Builtin.Int.intBits
      split <;> omega
    refine ⟨_, rfl, w, rfl, _, _, rfl, rfl, ⟨by decide, by decide⟩, _, _, rfl, rfl, _, rfl, by omega, by omega,
      for_range (fun i σ H' => ∃ (fnd : Int) (kk mm : Option V), σ = [some (.ref a), some (.int w), some (.int fnd), kk, mm] ∧ 0 ≤ fnd ∧ Bag H' a ∧ But a H H')
      ⟨0, none, none, rfl, Int.le_refl _, hB, .refl⟩ ?_ ?_⟩
    · rintro i σ H' _ ⟨fnd, kk, mm, rfl, hf, ⟨b, ix, t, sd, kn, cs, h1, h2, nb, hi, hc, ht, hs, hs2, hcs⟩, hbut⟩
      have sz : (Builtin.Int.intBits sd : Int) * 3 ≤ 2 ^ 27 := by
        have := intBits_le_64 (k := sd) (by omega) (by omega)
        omega
      -- bag[4] = bag[4] + 1
      refine ⟨_, rfl, a, _, _, _, rfl, rfl, SqL.of h1, rfl, _, _, rfl, rfl, _, rfl, a, _, _, 4, rfl, rfl, h1, rfl, ?_⟩
      -- mixed
      refine ⟨_, rfl, a, _, _, _, rfl, rfl, SqL.of upd_same, rfl, _, _, rfl, rfl, ⟨by decide, sz⟩, ?_⟩
      refine ⟨_, rfl, a, _, _, _, rfl, rfl, SqL.of upd_same, rfl, _, _, rfl, rfl, .inl ⟨by decide, by decide⟩, _, _, rfl, rfl, ?_⟩
      refine ⟨_, rfl, a, _, _, _, rfl, rfl, SqL.of upd_same, rfl, _, _, rfl, rfl, .inl ⟨by decide, by decide⟩, _, _, rfl, rfl, _, _, rfl, rfl, ?_⟩
      obtain ⟨m, hm⟩ : ∃ m : Int, m = sd ^ (3 : Int).toNat + 69621 * sd + 1031 * (kn + 1) + 1 := ⟨_, rfl⟩
      -- bag[3] = int(mixed) % 2147483647
      refine ⟨_, rfl, .inl ⟨_, rfl, _, _, rfl, rfl, (by decide : (0 : Int) < 2147483647), _, rfl, a, _, _, 3, rfl, rfl, upd_same, rfl, ?_⟩⟩
      -- found
      refine ⟨_, rfl, _, _, rfl, rfl, .inr ⟨by decide, by decide⟩, _, rfl, a, _, _, _, rfl, rfl, SqL.of upd_same, rfl, _, _, rfl, rfl, ⟨by decide, by decide⟩, _, _, rfl, rfl, ?_⟩
      have g0 : 0 ≤ m % 2147483647 := Int.emod_nonneg _ (by decide)
      have g1 : m % 2147483647 < 2147483647 := Int.emod_lt_of_pos _ (by decide)
      refine ⟨fnd * 134217728 + m % 2147483647 / 16, _, _, (by rw [hm]; rfl), by omega, ⟨b, ix, t, m % 2147483647, kn + 1, cs, (by rw [hm]; exact upd_same), ?_, nb, hi, hc, ht, g0, g1, hcs⟩, hbut.trans (But.upd.trans But.upd)⟩
      rw [upd_ne nb, upd_ne nb]
      exact h2
    · rintro σ H' ⟨fnd, kk, mm, rfl, hf, hB', hbut⟩
      refine ⟨_, rfl, .inl ⟨_, rfl, _, rfl, _, _, rfl, rfl, hw, ?_⟩⟩
      exact k _ _ (Int.emod_nonneg _ (by omega)) (Int.emod_lt_of_pos _ hw) hB' hbut
end
end K50

namespace K50
open PySem PySem.Spec PyProof.Rows L2 LcM
structure Txt1 (K : PySem.W.Frag) (mg : Str → Option Value) (fS : Addr) : Prop extends Txt0 mg where
  gS : mg "_law_stirred" = some (.ref fS)
section
variable {P : Program} {w : World} {K : PySem.W.Frag} {mg : Str → Option Value} {base : Heap}
theorem scDraw : FnScope ["bag", "wide", "found"] ["bag", "wide"] (defScope sDraw) := ⟨rfl, rfl, rfl, by decide +kernel, rfl, by decide +kernel, by decide +kernel⟩
theorem dec_of {t u : Int} (e : decide (V.int t = V.int u) = true) : t = u := by simpa using e
theorem ok_draw {f fS : Addr} {fd fdS : FuncData} (F : Fun K "_law_draw" "_law_draw" sDraw f fd) (T : Txt1 K mg fS) (FS : Fun K "_law_stirred" "_law_stirred" sStir fS fdS) (bS : Binds K fdS ["bag", "wide"] []) : FnOk P w K mg base CX0 2 f fd ["bag", "wide"] spStir := by
  have GS : FnOk P w K mg base CX0 1 fS fdS ["bag", "wide"] spStir := ok_stir FS T.toTxt0
  refine F.ok scDraw (fun vs H Q E h => ?_) (fun cdv A outer s H vs Q E hr h => ?_)
  · obtain ⟨a, w, rfl, _⟩ := h
    rfl
  · obtain ⟨a, w, rfl, hB, hw, hw2, k⟩ := h
    refine ⟨_, pss_cons (ps_if (PW.pt (pw_and (pt_cmpR op_eq (pe_ix ix_list (pv 0) pe_int (fun _ _ => rfl)) pe_int (nomark _)) (pw_and1 (pt_cmpR op_lt (pe_ix ix_list (pv 0) pe_int (fun _ _ => rfl)) (pe_callB call_len_seq (by rfl) T.len boot_len (pa_cons (pe_ix ix_list (pv 0) pe_int (fun _ _ => rfl)) pa_nil)) (nomark _)))))
        (pss_cons (ps_asg (pe_ix ix_list (pe_ix ix_list (pv 0) pe_int (fun _ _ => rfl)) (pe_ix ix_list (pv 0) pe_int (fun _ _ => rfl)) (fun _ _ => rfl)) (pg_sub (pv 0) pe_int set_list))
          (pss_one (ps_asg (pe_op op_add (pe_ix ix_list (pv 0) pe_int (fun _ _ => rfl)) pe_int) (pg_sub (pv 0) pe_int set_list))))
        (pss_one (ps_if (pt_cmpR op_eq (pe_ix ix_list (pv 0) pe_int (fun _ _ => rfl)) pe_int (nomark _))
          (pss_one (ps_ret (pe_call GS hr rfl T.gS FS.kp bS .nil pass0 (pa_cons (pv 0) (pa_cons (pv 1) pa_nil)))))
          pss_nil)))
      (pss_cons (ps_set (i := 2) scDraw.nd rfl (.inl rfl) (pe_op op_mod (pe_callTy call_int1 (by rfl) T.int boot_int (pa_cons (pe_ix ix_list (pv 0) pe_int (fun _ _ => rfl)) pa_nil)) (pv 1)))
      (pss_cons (ps_asg (pe_op op_fdivW (pe_ix ix_list (pv 0) pe_int (fun _ _ => rfl)) (pv 1)) (pg_sub (pv 0) pe_int set_list))
      (pss_one (ps_ret (pv 2))))), ?_⟩
    obtain ⟨b, ix, t, sd, kn, cs, h1, h2, nb, hi, hc, ht, hs, hs2, hcs⟩ := id hB
    -- the last three statements, from any bag
    have last : ∀ (H' : Hp) (ix : Nat) (t kn : Int), H' a = some (bagL b ix t sd kn) → H' b = some (.lst (cs.map V.int)) → ix ≤ cs.length → 0 ≤ t → But a H H' →
        ∃ v : Int, ∃ H2 : Hp, v = t % w ∧ H2 = upd H' a (bagL b ix (t / w) sd kn) ∧ Q (.int v) H2 := fun H' ix t kn g1 g2 hi ht hb =>
      ⟨_, _, rfl, rfl, k _ _ (Int.emod_nonneg _ (by omega)) (Int.emod_lt_of_pos _ hw)
        ⟨b, ix, t / w, sd, kn, cs, upd_same, (by rw [upd_ne nb]; exact g2), nb, hi, hc, Int.ediv_nonneg ht (by omega), hs, hs2, hcs⟩ (hb.trans But.upd)⟩
    have fin : ∀ (H' : Hp) (ix : Nat) (t kn : Int), H' a = some (bagL b ix t sd kn) → H' b = some (.lst (cs.map V.int)) → ix ≤ cs.length → 0 ≤ t → But a H H' →
        tSeq (tAsg (tOp (rI (fun _ j => 0 < j) fun i j => V.int (i % j)) (tCB (fun xs H Q => (∃ i, xs = [V.int i] ∧ Q (.int i) H) ∨ ∃ k, xs = [V.bl k] ∧ Q (.int (if k then 1 else 0)) H) (tCons (tOp (rIxL K) (tVar 0) (tC (.int 2))) tNil)) (tVar 1)) (gName 2))
          (tSeq (tAsg (tOp (rI CDivW fun i j => V.int (i / j)) (tOp (rIxL K) (tVar 0) (tC (.int 2))) (tVar 1)) (gSub (tVar 0) (tC (.int 2)) rSetL)) (tRet (tVar 2)))
          { nx := fun _ H' => Q .non H', rt := Q } [some (.ref a), some (.int w), none] H' := fun H' ix t kn g1 g2 hi ht hb => by
      refine ⟨_, rfl, a, _, _, _, rfl, rfl, SqL.of g1, rfl, .inl ⟨_, rfl, _, rfl, _, _, rfl, rfl, hw, ?_⟩⟩
      refine ⟨_, rfl, a, _, _, _, rfl, rfl, SqL.of g1, rfl, _, rfl, _, _, rfl, rfl, ⟨hw, by omega⟩, _, rfl, a, _, _, 2, rfl, rfl, g1, rfl, _, rfl, ?_⟩
      obtain ⟨v, H2, rfl, rfl, q⟩ := last H' ix t kn g1 g2 hi ht hb
      exact q
    refine ⟨_, rfl, a, _, _, _, rfl, rfl, SqL.of h1, rfl, rfl, _, rfl, ?_⟩
    refine ite2 (fun e0 => ?_) (fun e0 => ?_)
    · obtain rfl := dec_of e0
      refine ⟨_, rfl, a, _, _, _, rfl, rfl, SqL.of h1, rfl, _, rfl, a, _, _, _, rfl, rfl, SqL.of h1, rfl, b, _, rfl, .inl (SqL.of h2), _, _, rfl, rfl, _, rfl, ?_⟩
      refine ite2 (fun e1 => ?_) (fun e1 => ?_)
      · have lt : ix < cs.length := by
          have := of_decide_eq_true e1
          rw [List.length_map] at this
          omega
        have g : (cs.map V.int)[ix]? = some (.int cs[ix]) := by
          rw [List.getElem?_map, List.getElem?_eq_getElem lt]
          rfl
        refine ⟨_, rfl, a, _, _, _, rfl, rfl, SqL.of h1, rfl, _, rfl, a, _, _, _, rfl, rfl, SqL.of h1, rfl, b, _, _, _, rfl, rfl, SqL.of h2, atI_nat g, _, rfl, a, _, _, 2, rfl, rfl, h1, rfl, ?_⟩
        refine ⟨_, rfl, a, _, _, _, rfl, rfl, SqL.of upd_same, rfl, _, _, rfl, rfl, _, rfl, a, _, _, 1, rfl, rfl, upd_same, rfl, ?_⟩
        refine fin _ (ix + 1) cs[ix] kn upd_same (by rw [upd_ne nb, upd_ne nb]; exact h2) (by omega) (hcs _ (List.getElem_mem lt)) (But.upd.trans But.upd)
      · refine ⟨_, rfl, a, _, _, _, rfl, rfl, SqL.of h1, rfl, rfl, _, rfl, iteT ?_⟩
        exact ⟨_, rfl, _, rfl, a, w, rfl, hB, hw, hw2, k⟩
    · refine iteF ?_
      refine ⟨_, rfl, a, _, _, _, rfl, rfl, SqL.of h1, rfl, rfl, _, rfl, ?_⟩
      refine ite2 (fun e1 => absurd e1 e0) (fun _ => ?_)
      exact fin H ix t kn h1 h2 hi ht .refl
theorem same_upd {H : Hp} {p : Addr} {o : HO} (h : H p = none) : Same H (upd H p o) := fun b x e => by
  rw [upd_ne (ne_of_none e h)]
  exact e
theorem cut_ints (ns : List Int) (lo hi : Option Int) : ∃ ms : List Int, cutV (ns.map V.int) lo hi = ms.map V.int ∧ ms.length ≤ ns.length :=
  ⟨(ns.drop (HT.sIx (ns.map V.int).length 0 lo)).take (HT.sIx (ns.map V.int).length (ns.map V.int).length hi - HT.sIx (ns.map V.int).length 0 lo), by unfold cutV; rw [List.map_take, List.map_drop], by
    rw [List.length_take, List.length_drop]
    omega⟩
theorem int_at {ms : List Int} {i : Nat} {y : V} (h : (ms.map V.int)[i]? = some y) : ∃ z, y = V.int z := by
  rw [List.getElem?_map] at h
  cases e : ms[i]? with
  | none =>
    rw [e] at h
    cases h
  | some u =>
    rw [e] at h
    exact ⟨u, (Option.some.inj h).symm⟩
/-- a bag, new -/
def spBag (K : PySem.W.Frag) : Sp := fun vs H Q _ => ∃ (a : Addr) (ns : List Int), vs = [.ref a] ∧ SqL K H a (ns.map V.int) ∧ ns.length ≤ 63 ∧ ∀ (H' : Hp) (p : Addr), Same H H' → H p = none → Bag H' p → Q (.ref p) H'
theorem scBag : FnScope ["script", "stir", "cell"] ["script"] (defScope sBag) := ⟨rfl, rfl, rfl, by decide +kernel, rfl, by decide +kernel, by decide +kernel⟩
theorem ok_bag {f : Addr} {fd : FuncData} (F : Fun K "_law_bag" "_law_bag" sBag f fd) (T : Txt0 mg) : FnOk P w K mg base CX0 1 f fd ["script"] (spBag K) := by
  refine F.ok scBag (fun vs H Q E h => ?_) (fun cdv A outer s H vs Q E hr h => ?_)
  · obtain ⟨a, ns, rfl, _⟩ := h
    rfl
  · obtain ⟨a, ns, rfl, hS, hlen, k⟩ := h
    refine ⟨_, pss_cons (ps_set (i := 1) scBag.nd rfl (.inl rfl) pe_int)
      (pss_cons (ps_for PassesOwn.never rfl (pi_list (pe_slice sl_list (pv 0) po_none (po_some pe_int))) (pg_name (i := 2) scBag.nd rfl (.inl rfl))
        (pss_one (ps_set (i := 1) scBag.nd rfl (.inl rfl) (pe_op op_mod (pe_callTy call_int1 (by rfl) T.int boot_int (pa_cons (pe_op op_add (pe_op op_add (pe_op op_mul (pv 1) pe_int) (pe_op op_mod (pe_callTy call_int1 (by rfl) T.int boot_int (pa_cons (pv 2) pa_nil)) pe_int)) pe_int) pa_nil)) pe_int))))
      (pss_one (ps_ret (pe_lst (pa_cons
        (pe_lc (own := [("cell", 2)]) (g := gName 2) (tt := tYes) rfl scBag.nd (pi_list (pe_slice sl_list (pv 0) po_none (po_some pe_int))) (blkOk_by (N := ["script", "stir", "cell"]) (sc := defScope sBag) (by decide +kernel))
          (fun _ _ _ _ _ => pg_name (i := 2) scBag.nd rfl (Or.inl rfl)) (fun _ _ _ _ _ => pts_nil)
          (fun _ _ _ _ _ => pe_op op_mod (pe_callTy call_int1 (by rfl) T.int boot_int (pa_cons (pe_callB call_abs (by rfl) T.abs (by decide +kernel) (pa_cons (pv 2) pa_nil)) pa_nil)) (pe_op op_powW (pe_op op_pow pe_int pe_int) pe_int)))
        (pa_cons pe_int (pa_cons pe_int (pa_cons (pv 1) (pa_cons pe_int pa_nil))))))))), ?_⟩
    obtain ⟨ms, hms, hml⟩ := cut_ints ns none (some 63)
    refine ⟨_, rfl, 63, rfl, a, _, rfl, hS, fun c nc => ⟨c, rfl, ⟨_, SqL.of upd_same⟩, for_list (K := K) (a := c) (xs := ms.map V.int)
      (fun i σ H' => ∃ (st : Int) (v : Option V), σ = [some (.ref a), some (.int st), v] ∧ 0 ≤ st ∧ st < 2147483647 ∧ Same H H' ∧ H' c = some (.lst (ms.map V.int)))
      ⟨251, none, rfl, by decide, by decide, same_upd nc, by rw [upd_same, hms]⟩ (fun i σ H' _ ⟨_, _, _, _, _, _, e⟩ => SqL.of e) ?_ ?_⟩⟩
    · rintro i y σ H' hi' ⟨st, v, rfl, h0, h1, sm, hc⟩
      obtain ⟨z, rfl⟩ := int_at hi'
      refine ⟨_, rfl, _, _, rfl, rfl, .inr ⟨by decide, by decide⟩, _, rfl, .inl ⟨_, rfl, _, _, rfl, rfl, (by show (0 : Int) < 2147483629; decide), _, _, rfl, rfl, _, _, rfl, rfl, .inl ⟨_, rfl, _, _, rfl, rfl, (by show (0 : Int) < 2147483647; decide), ?_⟩⟩⟩
      exact ⟨_, _, rfl, Int.emod_nonneg _ (by decide), Int.emod_lt_of_pos _ (by decide), sm, hc⟩
    · rintro σ H' ⟨st, v, rfl, h0, h1, sm, hc⟩
      have hS' : SqL K H' a (ns.map V.int) := sm.seq hS
      refine ⟨_, rfl, 63, rfl, a, _, rfl, hS', fun d nd => ⟨d, rfl, ⟨_, SqL.of upd_same⟩, fun D hD => ?_⟩⟩
      have hdD : d ≠ D := fun e => by
        rw [← e, upd_same] at hD
        cases hD
      refine lc_list (K := K) (a := d) (xs := ms.map V.int) (fun i H2 => ∃ cs : List Int, Same H' H2 ∧ H2 d = some (.lst (ms.map V.int)) ∧ H2 D = some (.lst (cs.map V.int)) ∧ H' D = none ∧ cs.length = i ∧ ∀ x ∈ cs, 0 ≤ x)
        ⟨[], (same_upd nd).trans (same_upd hD), by rw [upd_ne hdD, upd_same, hms], upd_same, (by rw [upd_ne hdD.symm] at hD; exact hD), rfl, fun x hx => nomatch hx⟩ (fun i H2 _ ⟨_, _, e, _⟩ => SqL.of e) ?_ ?_
      · rintro i y H2 hi' ⟨cs, sm2, e1, e2, nD, el, pos⟩
        obtain ⟨z, rfl⟩ := int_at hi'
        have hil : i < ms.length := by
          have := (List.getElem?_eq_some_iff.mp hi').1
          rw [List.length_map] at this
          exact this
        refine ⟨rfl, ?_⟩
        unfold tYes
        dsimp only
        rw [if_pos rfl]
        refine ⟨_, rfl, _, rfl, .inl ⟨_, rfl, _, _, rfl, rfl, ⟨by decide, by decide, by decide⟩, _, _, rfl, rfl, ⟨by decide, by decide +kernel⟩, _, _, rfl, rfl, Int.pow_pos (Int.pow_pos (by decide)), ?_⟩⟩
        refine ⟨_, e2, ?_, cs ++ [(if z < 0 then -z else z) % ((10 ^ (60 : Int).toNat) ^ (10 : Int).toNat)], fun b o e => ?_, ?_, ?_, nD, ?_, ?_⟩
        · rw [List.length_map]
          exact small1000 (by omega)
        · rw [upd_ne (ne_of_none e nD)]
          exact sm2 _ _ e
        · rw [upd_ne hdD]
          exact e1
        · rw [upd_same, List.map_append]
          rfl
        · rw [List.length_append, List.length_singleton, el]
        · intro x hx
          rcases List.mem_append.mp hx with hx | hx
          · exact pos x hx
          · rw [List.mem_singleton.mp hx]
            exact Int.emod_nonneg _ (Int.ne_of_gt (Int.pow_pos (Int.pow_pos (by decide))))
      · rintro H2 ⟨cs, sm2, e1, e2, nD, el, pos⟩
        rw [List.length_map] at el
        refine ⟨_, rfl, (by show 5 ≤ sizeLine; decide), fun p hp => ?_⟩
        have nDp : D ≠ p := ne_of_none e2 hp
        refine k _ p ((sm.trans sm2).trans (same_upd hp)) ((sm.trans sm2).free hp) ⟨D, 0, 0, st, 0, cs, upd_same, ?_, nDp, Nat.zero_le _, by omega, Int.le_refl _, h0, h1, pos⟩
        rw [upd_ne nDp]
        exact e2
end
end K50

namespace K50
open PySem PySem.Spec PyProof.Rows L2 LcM
theorem at_in {xs : List V} {v : Int} (h0 : 0 ≤ v) (h1 : v < xs.length) : ∃ z ∈ xs, atI xs v = some z := by
  have lt : v.toNat < xs.length := by omega
  have q := atI_nat (List.getElem?_eq_getElem lt)
  rw [Int.toNat_of_nonneg h0] at q
  exact ⟨_, List.getElem_mem lt, q⟩
end K50

namespace K50
open PySem PySem.Spec PyProof.Rows L2 SortR LcM
abbrev sNumber : Stmt := top 6
abbrev sPerson : Stmt := top 7
abbrev sAsc : Stmt := top 8
abbrev sPList : Stmt := top 9
abbrev sGroup : Stmt := top 10
abbrev sMask : Stmt := top 11
abbrev sCross : Stmt := top 12
abbrev sAny : Stmt := top 13
abbrev sParting : Stmt := top 15
/-- the program's defs, where they stand -/
structure ProgF (K : PySem.W.Frag) (mg : Str → Option Value) where
  (fNum fPer fAsc fPL fGr fMask fCross fAny fIs : Addr)
  (dNum dPer dAsc dPL dGr dMask dCross dAny dIs : FuncData)
  FNum : Fun K "is_number" "is_number" sNumber fNum dNum
  FPer : Fun K "is_person" "is_person" sPerson fPer dPer
  FAsc : Fun K "is_ascending" "is_ascending" sAsc fAsc dAsc
  FPL : Fun K "is_person_list" "is_person_list" sPList fPL dPL
  FGr : Fun K "is_group" "is_group" sGroup fGr dGr
  FMask : Fun K "mask_of" "mask_of" sMask fMask dMask
  FCross : Fun K "masks_cross" "masks_cross" sCross fCross dCross
  FAny : Fun K "any_cross" "any_cross" sAny fAny dAny
  FIs : Fun K "is_parting" "is_parting" sParting fIs dIs
  gNum : mg "is_number" = some (.ref fNum)
  gPer : mg "is_person" = some (.ref fPer)
  gAsc : mg "is_ascending" = some (.ref fAsc)
  gPL : mg "is_person_list" = some (.ref fPL)
  gGr : mg "is_group" = some (.ref fGr)
  gMask : mg "mask_of" = some (.ref fMask)
  gCross : mg "masks_cross" = some (.ref fCross)
  gAny : mg "any_cross" = some (.ref fAny)
  gIs : mg "is_parting" = some (.ref fIs)
  bNum : Binds K dNum ["thing"] []
  bPer : Binds K dPer ["thing", "persons"] []
  bAsc : Binds K dAsc ["items"] []
  bPL : Binds K dPL ["thing", "persons"] []
  bGr : Binds K dGr ["thing", "persons"] []
  bMask : Binds K dMask ["group"] []
  bCross : Binds K dCross ["one", "other"] []
  bAny : Binds K dAny ["groups"] []
  bIs : Binds K dIs ["thing"] []
  gComb : mg "combinations" = some (.type "itertools.combinations")
  mostT : Tok
  gMost : mg "MOST_PERSONS" = some (.int 20 mostT)
/-- the built-in kinds that may come -/
def kinds : List String := ["int", "bool", "str", "NoneType", "list", "tuple", "dict"]
structure TxtP (mg : Str → Option Value) : Prop where
  isi : mg "isinstance" = none
  int : mg "int" = none
  bool : mg "bool" = none
  list : mg "list" = none
  len : mg "len" = none
  all : mg "all" = none
  any : mg "any" = none
  sum : mg "sum" = none
  zip : mg "zip" = none
  sorted : mg "sorted" = none
  tuple : mg "tuple" = none
  range : mg "range" = none
  enumerate : mg "enumerate" = none
def spNumber (K : PySem.W.Frag) : Sp := fun vs H Q _ => ∃ (x : V) (t : String), vs = [x] ∧ TyX K H x (.type t) ∧ t ∈ kinds ∧ Q (.bl (decide (t = "int"))) H
def spPerson (K : PySem.W.Frag) : Sp := fun vs H Q _ => ∃ (x : V) (t : String) (n : Int), vs = [x, .int n] ∧ TyX K H x (.type t) ∧ t ∈ kinds ∧ (t = "int" → ∃ i, x = .int i ∧ Q (.bl (decide (0 ≤ i) && decide (i < n))) H) ∧ (t ≠ "int" → Q (.bl false) H)
/-- each below the one behind it -/
def ascI (ns : List Int) : Bool := (List.range (ns.length - 1)).all fun i => decide (ns.getD i 0 < ns.getD (i + 1) 0)
def ascR (rs : List (List Int)) : Bool := (List.range (rs.length - 1)).all fun i => decide (rs.getD i [] < rs.getD (i + 1) [])
def spAscI (K : PySem.W.Frag) : Sp := fun vs H Q _ => ∃ (a : Addr) (ns : List Int), vs = [.ref a] ∧ SqL K H a (ns.map V.int) ∧ ns.length ≤ 1000 ∧ ∀ H', Grows H H' → Q (.bl (ascI ns)) H'
def spAscR (K : PySem.W.Frag) : Sp := fun vs H Q _ => ∃ (a : Addr) (bs : List (Addr × List Int)), vs = [.ref a] ∧ SqL K H a (bs.map fun b => V.ref b.1) ∧ (∀ b ∈ bs, SqL K H b.1 (b.2.map V.int)) ∧ bs.length ≤ 1000 ∧ ∀ H', Grows H H' → Q (.bl (ascR (bs.map (·.2)))) H'
section
variable {P : Program} {w : World} {K : PySem.W.Frag} {mg : Str → Option Value} {base : Heap}
theorem scNumber : FnScope ["thing"] ["thing"] (defScope sNumber) := ⟨rfl, rfl, rfl, by decide +kernel, rfl, by decide +kernel, by decide +kernel⟩
theorem scPerson : FnScope ["thing", "persons"] ["thing", "persons"] (defScope sPerson) := ⟨rfl, rfl, rfl, by decide +kernel, rfl, by decide +kernel, by decide +kernel⟩
theorem scAsc : FnScope ["items", "low", "high"] ["items"] (defScope sAsc) := ⟨rfl, rfl, rfl, by decide +kernel, rfl, by decide +kernel, by decide +kernel⟩
theorem ok_number {f : Addr} {fd : FuncData} (F : Fun K "is_number" "is_number" sNumber f fd) (T : TxtP mg) : FnOk P w K mg base CX0 1 f fd ["thing"] (spNumber K) := by
  refine F.ok scNumber (fun vs H Q E h => ?_) (fun cdv A outer s H vs Q E hr h => ?_)
  · obtain ⟨x, t, rfl, _⟩ := h
    rfl
  · obtain ⟨x, t, rfl, ty, hk, k⟩ := h
    refine ⟨_, (pss_one (ps_ret (pe_and (pe_callB call_isi (by rfl) T.isi (by decide +kernel) (pa_cons (pv 0) (pa_cons (pe_bltn (v := .ty "int") (u := .type "int") (by rfl) T.int (by decide +kernel) rfl) pa_nil))) (pe_one (pe_not (pe_callB call_isi (by rfl) T.isi (by decide +kernel) (pa_cons (pv 0) (pa_cons (pe_bltn (v := .ty "bool") (u := .type "bool") (by rfl) T.bool (by decide +kernel) rfl) pa_nil)))))))), ?_⟩
    simp only [kinds, List.mem_cons, List.not_mem_nil, or_false] at hk
    rcases hk with rfl | rfl | rfl | rfl | rfl | rfl | rfl
    · exact ⟨_, rfl, _, _, _, _, true, rfl, .ty "int", ty, kit_ty (by decide +kernel), true, rfl, _, rfl, _, _, _, _, false, rfl, .ty "bool", ty, kit_ty (by decide +kernel), false, rfl, k⟩
    · exact ⟨_, rfl, _, _, _, _, true, rfl, .ty "int", ty, kit_ty (by decide +kernel), true, rfl, _, rfl, _, _, _, _, true, rfl, .ty "bool", ty, kit_ty (by decide +kernel), true, rfl, k⟩
    all_goals exact ⟨_, rfl, _, _, _, _, false, rfl, .ty "int", ty, kit_ty (by decide +kernel), false, rfl, k⟩
theorem ok_person (Z : ProgF K mg) (T : TxtP mg) : FnOk P w K mg base CX0 2 Z.fPer Z.dPer ["thing", "persons"] (spPerson K) := by
  have GNum : FnOk P w K mg base CX0 1 Z.fNum Z.dNum ["thing"] (spNumber K) := ok_number Z.FNum T
  refine Z.FPer.ok scPerson (fun vs H Q E h => ?_) (fun cdv A outer s H vs Q E hr h => ?_)
  · obtain ⟨x, t, n, rfl, _⟩ := h
    rfl
  · obtain ⟨x, t, n, rfl, ty, hk, k1, k2⟩ := h
    refine ⟨_, (pss_one (ps_ret (pe_and (pe_call GNum (hr.mono (by decide)) rfl Z.gNum Z.FNum.kp Z.bNum .nil pass0 (pa_cons (pv 0) pa_nil)) (pe_one (pe_chain op_le op_lt pe_int (pv 0) (pv 1)))))), ?_⟩
    refine ⟨_, rfl, x, t, rfl, ty, hk, ?_⟩
    by_cases e : t = "int"
    · obtain ⟨i, rfl, q⟩ := k1 e
      refine ⟨_, rfl, ?_⟩
      rw [if_pos (decide_eq_true e)]
      refine ⟨_, rfl, _, _, rfl, rfl, _, rfl, ?_⟩
      by_cases l : 0 ≤ i
      · rw [if_pos (decide_eq_true l)]
        refine ⟨_, rfl, _, _, rfl, rfl, ?_⟩
        rw [decide_eq_true l, Bool.true_and] at q
        exact q
      · rw [if_neg (by rw [decide_eq_false l]; exact Bool.false_ne_true)]
        rw [decide_eq_false l, Bool.false_and] at q
        exact q
    · refine ⟨_, rfl, ?_⟩
      rw [if_neg (by rw [decide_eq_false e]; exact Bool.false_ne_true)]
      exact k2 e
theorem at_map {α : Type} {f : α → V} {ns : List α} {i : Nat} {x : V} {d : α} (h : (ns.map f)[i]? = some x) : x = f (ns.getD i d) := by
  rw [List.getElem?_map] at h
  obtain ⟨z, hz, e⟩ := Option.map_eq_some_iff.mp h
  rw [← e, List.getD_eq_getElem?_getD, hz]
  rfl
theorem at_tail {α : Type} {f : α → V} {ns : List α} {i : Nat} {x : V} {d : α} (h : (ns.map f).tail[i]? = some x) : x = f (ns.getD (i + 1) d) := by
  rw [List.getElem?_tail] at h
  exact at_map h
theorem all_rng (n : Nat) (p : Nat → Bool) : ((List.range n).map p).all id = (List.range n).all p := by
  rw [List.all_map]
  rfl
theorem ok_ascI {f : Addr} {fd : FuncData} (F : Fun K "is_ascending" "is_ascending" sAsc f fd) (T : TxtP mg) : FnOk P w K mg base CX0 1 f fd ["items"] (spAscI K) := by
  refine F.ok scAsc (fun vs H Q E h => ?_) (fun cdv A outer s H vs Q E hr h => ?_)
  · obtain ⟨a, ns, rfl, _⟩ := h
    rfl
  · obtain ⟨a, ns, rfl, hS, hn, k⟩ := h
    refine ⟨_, (pss_one (ps_ret (pe_callB (cr_all rfl) (by rfl) T.all (by decide +kernel) (pa_cons (pe_lc (own := [("low", 1), ("high", 2)]) (g := gTup K 2 (gCons (gName 1) (gCons (gName 2) gNil))) (tt := tYes) rfl scAsc.nd (pi_zip (by rfl) T.zip (pa_cons (pv 0) (pa_cons (pe_slice sl_list (pv 0) (po_some pe_int) po_none) pa_nil))) (blkOk_by (own := [("low", 1), ("high", 2)]) (N := ["items", "low", "high"]) (sc := defScope sAsc) (by decide +kernel)) (fun _ _ _ _ _ => pg_tup rfl (pgs_cons (pg_name (i := 1) scAsc.nd rfl (Or.inl rfl)) (pgs_cons (pg_name (i := 2) scAsc.nd rfl (Or.inl rfl)) pgs_nil))) (fun _ _ _ _ _ => pts_nil) (fun _ _ _ _ _ => (pe_cmpR op_lt (pv 1) (pv 2) (nomark _)))) pa_nil)))), ?_⟩
    refine ⟨_, rfl, _, rfl, 1, rfl, a, _, rfl, hS, fun c nc => ?_⟩
    rw [cut_tail]
    refine ⟨a, c, _, _, rfl, (Grows.new nc).seq hS, SqL.of upd_same, fun D hD => lc_zipM (K := K) (fun i => V.bl (decide (ns.getD i 0 < ns.getD (i + 1) 0))) hD ((Grows.new nc).seq hS) (SqL.of upd_same) (by rw [List.length_map]; omega) (fun i x y T H' R hx hy sm hT kR => ?_) fun H' sm eD => ?_⟩
    · refine ⟨T, _, rfl, SqT.of upd_same, rfl, _, _, rfl, _, _, rfl, rfl, ?_⟩
      obtain rfl := at_map (d := 0) hx
      obtain rfl := at_tail (d := 0) hy
      exact ⟨rfl, _, rfl, _, rfl, _, _, rfl, rfl, kR _ .refl⟩
    · have e : min (ns.map V.int).length (ns.map V.int).tail.length = ns.length - 1 := by
        rw [List.length_tail, List.length_map]
        omega
      rw [e] at eD
      refine ⟨D, (List.range (ns.length - 1)).map fun i => decide (ns.getD i 0 < ns.getD (i + 1) 0), rfl, SqL.of (by rw [eD, List.map_map]; rfl), ?_⟩
      rw [all_rng]
      exact k H' ((Grows.new nc).trans sm)
theorem ok_ascR {f : Addr} {fd : FuncData} (F : Fun K "is_ascending" "is_ascending" sAsc f fd) (T : TxtP mg) : FnOk P w K mg base CX0 1 f fd ["items"] (spAscR K) := by
  refine F.ok scAsc (fun vs H Q E h => ?_) (fun cdv A outer s H vs Q E hr h => ?_)
  · obtain ⟨a, bs, rfl, _⟩ := h
    rfl
  · obtain ⟨a, bs, rfl, hS, hb, hn, k⟩ := h
    refine ⟨_, (pss_one (ps_ret (pe_callB (cr_all rfl) (by rfl) T.all (by decide +kernel) (pa_cons (pe_lc (own := [("low", 1), ("high", 2)]) (g := gTup K 2 (gCons (gName 1) (gCons (gName 2) gNil))) (tt := tYes) rfl scAsc.nd (pi_zip (by rfl) T.zip (pa_cons (pv 0) (pa_cons (pe_slice sl_list (pv 0) (po_some pe_int) po_none) pa_nil))) (blkOk_by (own := [("low", 1), ("high", 2)]) (N := ["items", "low", "high"]) (sc := defScope sAsc) (by decide +kernel)) (fun _ _ _ _ _ => pg_tup rfl (pgs_cons (pg_name (i := 1) scAsc.nd rfl (Or.inl rfl)) (pgs_cons (pg_name (i := 2) scAsc.nd rfl (Or.inl rfl)) pgs_nil))) (fun _ _ _ _ _ => pts_nil) (fun _ _ _ _ _ => (pe_cmpR (r := rLtR K) (op_ltR (by exact hr.units)) (pv 1) (pv 2) (nomark _)))) pa_nil)))), ?_⟩
    refine ⟨_, rfl, _, rfl, 1, rfl, a, _, rfl, hS, fun c nc => ?_⟩
    rw [cut_tail]
    have hbD : ∀ i : Nat, i < bs.length → SqL K H (bs.getD i (0, [])).1 ((bs.getD i (0, [])).2.map V.int) := fun i hi => by
      rw [List.getD_eq_getElem?_getD, List.getElem?_eq_getElem hi]
      exact hb _ (List.getElem_mem hi)
    refine ⟨a, c, _, _, rfl, (Grows.new nc).seq hS, SqL.of upd_same, fun D hD => lc_zipM (K := K) (fun i => V.bl (decide ((bs.getD i (0, [])).2 < (bs.getD (i + 1) (0, [])).2))) hD ((Grows.new nc).seq hS) (SqL.of upd_same) (by rw [List.length_map]; omega) (fun i x y T H' R hx hy sm hT kR => ?_) fun H' sm eD => ?_⟩
    · have i1 := (List.getElem?_eq_some_iff.mp hx).1
      have i2 := (List.getElem?_eq_some_iff.mp hy).1
      rw [List.length_map] at i1
      rw [List.length_tail, List.length_map] at i2
      refine ⟨T, _, rfl, SqT.of upd_same, rfl, _, _, rfl, _, _, rfl, rfl, ?_⟩
      obtain rfl := at_map (d := (0, [])) hx
      obtain rfl := at_tail (d := (0, [])) hy
      have st : Grows H (upd H' T (.tup [V.ref (bs.getD i (0, [])).1, V.ref (bs.getD (i + 1) (0, [])).1])) := ((Grows.new nc).trans sm).trans (Grows.new hT)
      exact ⟨rfl, _, rfl, _, rfl, _, _, _, _, rfl, rfl, st.seq (hbD i i1), st.seq (hbD (i + 1) (by omega)), kR _ .refl⟩
    · have e : min (bs.map fun b => V.ref b.1).length (bs.map fun b => V.ref b.1).tail.length = bs.length - 1 := by
        rw [List.length_tail, List.length_map]
        omega
      rw [e] at eD
      refine ⟨D, (List.range (bs.length - 1)).map fun i => decide ((bs.getD i (0, [])).2 < (bs.getD (i + 1) (0, [])).2), rfl, SqL.of (by rw [eD, List.map_map]; rfl), ?_⟩
      rw [all_rng]
      have q := k H' ((Grows.new nc).trans sm)
      unfold ascR at q
      rw [List.length_map] at q
      have fe : ∀ i, (bs.map (·.2)).getD i [] = (bs.getD i (0, [])).2 := fun i => by
        rw [List.getD_eq_getElem?_getD, List.getD_eq_getElem?_getD, List.getElem?_map]
        cases bs[i]? <;> rfl
      simp only [fe] at q
      exact q
end
end K50

namespace K50
open PySem PySem.Spec PyProof.Rows L2 SortR LcM
theorem ty_list {K : PySem.W.Frag} {H : Hp} {a : Addr} {xs : List V} (h : SqL K H a xs) : TyX K H (.ref a) (.type "list") := by
  rcases h with (h | ⟨o, h⟩) | ⟨o, its, n, h, hc, _⟩
  · exact .base (.lst h)
  · exact .base (.frz h)
  · exact .kList h hc
def inR (n : Int) (ns : List Int) : Bool := (List.range ns.length).all fun i => decide (0 ≤ ns.getD i 0) && decide (ns.getD i 0 < n)
def plist (n : Int) (ns : List Int) : Bool := inR n ns && ascI ns
def group (n : Int) (ns : List Int) : Bool := plist n ns && decide (2 ≤ (ns.length : Int))
def maskI (ns : List Int) : Int := ((List.range ns.length).map fun i => 1 * 2 ^ (ns.getD i 0).toNat).sum
def crossI (i j : Int) : Bool := !inV (.int (Builtin.bitAnd i j)) [.int 0, .int i, .int j]
def anyX (rs : List (List Int)) : Bool := (List.range (Comb.prs rs.length).length).any fun t => crossI (maskI (rs.getD ((Comb.prs rs.length).getD t (0, 0)).1 [])) (maskI (rs.getD ((Comb.prs rs.length).getD t (0, 0)).2 []))
def isP (rs : List (List Int)) : Bool := decide ((rs.length : Int) < 20) && ((List.range rs.length).all fun i => group (rs.length + 1) (rs.getD i [])) && ascR rs && !anyX rs
def spPL (K : PySem.W.Frag) (m : Int → List Int → Bool) : Sp := fun vs H Q _ => ∃ (a : Addr) (n : Int) (ns : List Int), vs = [.ref a, .int n] ∧ SqL K H a (ns.map V.int) ∧ ns.length ≤ 1000 ∧ ∀ H', Grows H H' → Q (.bl (m n ns)) H'
def spMask (K : PySem.W.Frag) : Sp := fun vs H Q _ => ∃ (a : Addr) (ns : List Int), vs = [.ref a] ∧ SqL K H a (ns.map V.int) ∧ ns.length ≤ 1000 ∧ (∀ x ∈ ns, 0 ≤ x ∧ x ≤ 1000) ∧ ∀ H', Grows H H' → Q (.int (maskI ns)) H'
def spCross : Sp := fun vs H Q _ => ∃ (i j : Int), vs = [.int i, .int j] ∧ ∀ H', Grows H H' → Q (.bl (crossI i j)) H'
section
variable {P : Program} {w : World} {K : PySem.W.Frag} {mg : Str → Option Value} {base : Heap}
theorem scPList : FnScope ["thing", "persons", "item"] ["thing", "persons"] (defScope sPList) := ⟨rfl, rfl, rfl, by decide +kernel, rfl, by decide +kernel, by decide +kernel⟩
theorem scGroup : FnScope ["thing", "persons"] ["thing", "persons"] (defScope sGroup) := ⟨rfl, rfl, rfl, by decide +kernel, rfl, by decide +kernel, by decide +kernel⟩
theorem scMask : FnScope ["group", "person"] ["group"] (defScope sMask) := ⟨rfl, rfl, rfl, by decide +kernel, rfl, by decide +kernel, by decide +kernel⟩
theorem scCross : FnScope ["one", "other"] ["one", "other"] (defScope sCross) := ⟨rfl, rfl, rfl, by decide +kernel, rfl, by decide +kernel, by decide +kernel⟩
theorem ok_plist (Z : ProgF K mg) (T : TxtP mg) : FnOk P w K mg base CX0 3 Z.fPL Z.dPL ["thing", "persons"] (spPL K plist) := by
  have GPer : FnOk P w K mg base CX0 2 Z.fPer Z.dPer ["thing", "persons"] (spPerson K) := ok_person Z T
  have GAsc : FnOk P w K mg base CX0 1 Z.fAsc Z.dAsc ["items"] (spAscI K) := ok_ascI Z.FAsc T
  refine Z.FPL.ok scPList (fun vs H Q E h => ?_) (fun cdv A outer s H vs Q E hr h => ?_)
  · obtain ⟨a, n, ns, rfl, _⟩ := h
    rfl
  · obtain ⟨a, n, ns, rfl, hS, hn, k⟩ := h
    refine ⟨_, (pss_cons (ps_if (pt_not (pt_val (pe_callB call_isi (by rfl) T.isi (by decide +kernel) (pa_cons (pv 0) (pa_cons (pe_bltn (v := .ty "list") (u := .type "list") (by rfl) T.list (by decide +kernel) rfl) pa_nil))))) (pss_one (ps_ret pe_bl)) pss_nil)
      (pss_one (ps_ret (pe_and (pe_callB (cr_all rfl) (by rfl) T.all (by decide +kernel) (pa_cons (pe_lc (own := [("item", 2)]) (g := gName 2) (tt := tYes) rfl scPList.nd (pi_list (pv 0)) (blkOk_by (own := [("item", 2)]) (N := ["thing", "persons", "item"]) (sc := defScope sPList) (by decide +kernel)) (fun _ _ _ _ _ => pg_name (i := 2) scPList.nd rfl (Or.inl rfl)) (fun _ _ _ _ _ => pts_nil) (fun _ _ _ _ _ => (pe_call GPer (hr.mono (by decide)) rfl Z.gPer Z.FPer.kp Z.bPer .nil pass0 (pa_cons (pv 2) (pa_cons (pv 1) pa_nil))))) pa_nil)) (pe_one (pe_call GAsc (hr.mono (by decide)) rfl Z.gAsc Z.FAsc.kp Z.bAsc .nil pass0 (pa_cons (pv 0) pa_nil))))))), ?_⟩
    refine ⟨_, rfl, _, _, _, _, true, rfl, .ty "list", ty_list hS, kit_ty (by decide +kernel), true, rfl, ?_⟩
    refine iteF ⟨_, rfl, a, rfl, ⟨_, hS⟩, fun D hD => lc_listM (K := K) (fun i => V.bl (decide (0 ≤ ns.getD i 0) && decide (ns.getD i 0 < n))) hD hS (by rw [List.length_map]; omega) (fun i x H' R hx sm kR => ?_) fun H' sm eD => ?_⟩
    · obtain rfl := at_map (d := 0) hx
      refine ⟨rfl, _, rfl, _, rfl, _, "int", n, rfl, .base (.int _), by decide, fun _ => ⟨_, rfl, kR _ .refl⟩, fun z => absurd rfl z⟩
    · rw [List.length_map] at eD
      refine ⟨D, (List.range ns.length).map fun i => decide (0 ≤ ns.getD i 0) && decide (ns.getD i 0 < n), rfl, SqL.of (by rw [eD, List.map_map]; rfl), _, rfl, ?_⟩
      rw [all_rng]
      show if inR n ns = true then _ else _
      by_cases hi : inR n ns = true
      · rw [if_pos hi]
        refine ⟨_, rfl, a, ns, rfl, sm.seq hS, hn, fun H2 s2 => ?_⟩
        have q := k H2 (sm.trans s2)
        unfold plist at q
        rw [hi, Bool.true_and] at q
        exact q
      · rw [if_neg hi]
        have q := k H' sm
        unfold plist at q
        rw [Bool.eq_false_iff.mpr hi, Bool.false_and] at q
        exact q
theorem ok_group (Z : ProgF K mg) (T : TxtP mg) : FnOk P w K mg base CX0 4 Z.fGr Z.dGr ["thing", "persons"] (spPL K group) := by
  have GPL : FnOk P w K mg base CX0 3 Z.fPL Z.dPL ["thing", "persons"] (spPL K plist) := ok_plist Z T
  refine Z.FGr.ok scGroup (fun vs H Q E h => ?_) (fun cdv A outer s H vs Q E hr h => ?_)
  · obtain ⟨a, n, ns, rfl, _⟩ := h
    rfl
  · obtain ⟨a, n, ns, rfl, hS, hn, k⟩ := h
    refine ⟨_, (pss_one (ps_ret (pe_and (pe_call GPL (hr.mono (by decide)) rfl Z.gPL Z.FPL.kp Z.bPL .nil pass0 (pa_cons (pv 0) (pa_cons (pv 1) pa_nil))) (pe_one (pe_cmpR op_ge (pe_callB call_len_seq (by rfl) T.len (by decide +kernel) (pa_cons (pv 0) pa_nil)) pe_int (nomark _)))))), ?_⟩
    refine ⟨_, rfl, _, rfl, a, n, ns, rfl, hS, hn, fun H2 s2 => ⟨_, rfl, ?_⟩⟩
    have q := k H2 s2
    unfold group at q
    by_cases hi : plist n ns = true
    · rw [if_pos hi]
      rw [hi, Bool.true_and] at q
      refine ⟨_, rfl, a, _, rfl, .inl (s2.seq hS), _, _, rfl, rfl, ?_⟩
      rw [List.length_map]
      exact q
    · rw [if_neg hi]
      rw [Bool.eq_false_iff.mpr hi, Bool.false_and] at q
      exact q
theorem ok_mask (Z : ProgF K mg) (T : TxtP mg) : FnOk P w K mg base CX0 1 Z.fMask Z.dMask ["group"] (spMask K) := by
  refine Z.FMask.ok scMask (fun vs H Q E h => ?_) (fun cdv A outer s H vs Q E hr h => ?_)
  · obtain ⟨a, ns, rfl, _⟩ := h
    rfl
  · obtain ⟨a, ns, rfl, hS, hn, hr0, k⟩ := h
    refine ⟨_, (pss_one (ps_ret (pe_callB (cr_sum rfl) (by rfl) T.sum (by decide +kernel) (pa_cons (pe_lc (own := [("person", 1)]) (g := gName 1) (tt := tYes) rfl scMask.nd (pi_list (pv 0)) (blkOk_by (own := [("person", 1)]) (N := ["group", "person"]) (sc := defScope sMask) (by decide +kernel)) (fun _ _ _ _ _ => pg_name (i := 1) scMask.nd rfl (Or.inl rfl)) (fun _ _ _ _ _ => pts_nil) (fun _ _ _ _ _ => (pe_op op_shl pe_int (pv 1)))) pa_nil)))), ?_⟩
    refine ⟨_, rfl, a, rfl, ⟨_, hS⟩, fun D hD => lc_listM (K := K) (fun i => V.int (1 * 2 ^ (ns.getD i 0).toNat)) hD hS (by rw [List.length_map]; omega) (fun i x H' R hx sm kR => ?_) fun H' sm eD => ?_⟩
    · have il := (List.getElem?_eq_some_iff.mp hx).1
      rw [List.length_map] at il
      obtain rfl := at_map (d := 0) hx
      have mem : ns.getD i 0 ∈ ns := by
        rw [List.getD_eq_getElem?_getD, List.getElem?_eq_getElem il]
        exact List.getElem_mem il
      obtain ⟨m0, m1⟩ := hr0 _ mem
      exact ⟨rfl, _, rfl, _, _, rfl, rfl, ⟨m0, by omega, by decide⟩, kR _ .refl⟩
    · rw [List.length_map] at eD
      refine ⟨D, (List.range ns.length).map fun i => 1 * 2 ^ (ns.getD i 0).toNat, rfl, SqL.of (by rw [eD, List.map_map]; rfl), ?_⟩
      exact k H' sm
theorem ok_cross (Z : ProgF K mg) : FnOk P w K mg base CX0 1 Z.fCross Z.dCross ["one", "other"] spCross := by
  refine Z.FCross.ok scCross (fun vs H Q E h => ?_) (fun cdv A outer s H vs Q E hr h => ?_)
  · obtain ⟨i, j, rfl, _⟩ := h
    rfl
  · obtain ⟨i, j, rfl, k⟩ := h
    refine ⟨_, (pss_one (ps_ret (pe_cmpR op_notIn_seq (pe_op op_and (pv 0) (pv 1)) (pe_tup (pa_cons pe_int (pa_cons (pv 0) (pa_cons (pv 1) pa_nil)))) (by rfl)))), ?_⟩
    refine ⟨_, rfl, _, rfl, _, _, rfl, rfl, _, rfl, _, rfl, (by show 3 ≤ sizeLine; decide), fun t ht => ⟨t, _, rfl, .inr (SqT.of upd_same), rfl, rfl, ?_⟩⟩
    exact k _ (Grows.new ht)
end
end K50

namespace K50
open PySem PySem.Spec PyProof.Rows L2 SortR LcM
/-- a list of lists of ints, as it stands -/
structure Rw (K : PySem.W.Frag) (H : Hp) (a : Addr) (bs : List (Addr × List Int)) : Prop where
  top : SqL K H a (bs.map fun b => V.ref b.1)
  each : ∀ b ∈ bs, SqL K H b.1 (b.2.map V.int)
theorem Rw.keep {K : PySem.W.Frag} {H H' : Hp} {a : Addr} {bs : List (Addr × List Int)} (r : Rw K H a bs) (s : Grows H H') : Rw K H' a bs := ⟨s.seq r.top, fun b m => s.seq (r.each b m)⟩
theorem Rw.at {K : PySem.W.Frag} {H : Hp} {a : Addr} {bs : List (Addr × List Int)} (r : Rw K H a bs) {i : Nat} (hi : i < bs.length) : SqL K H (bs.getD i (0, [])).1 ((bs.getD i (0, [])).2.map V.int) := by
  rw [List.getD_eq_getElem?_getD, List.getElem?_eq_getElem hi]
  exact r.each _ (List.getElem_mem hi)
theorem snd_at (bs : List (Addr × List Int)) (i : Nat) : (bs.map (·.2)).getD i [] = (bs.getD i (0, [])).2 := by
  rw [List.getD_eq_getElem?_getD, List.getD_eq_getElem?_getD, List.getElem?_map]
  cases bs[i]? <;> rfl
theorem mem_at {bs : List (Addr × List Int)} {i : Nat} (hi : i < bs.length) : (bs.getD i (0, [])).2 ∈ bs.map (·.2) := by
  rw [List.getD_eq_getElem?_getD, List.getElem?_eq_getElem hi]
  exact List.mem_map.mpr ⟨_, List.getElem_mem hi, rfl⟩
theorem none_back {H H' : Hp} {a : Addr} (s : Grows H H') (h : H' a = none) : H a = none := by
  rcases Option.eq_none_or_eq_some (H a) with z | ⟨o, z⟩
  · exact z
  · rw [s _ _ z] at h
    cases h
theorem nw_back {H0 H1 H : Hp} {cs : List (Addr × List Int)} (n : Nw H1 H cs) (s : Grows H0 H1) : Nw H0 H cs := ⟨n.lists, fun c m => none_back s (n.new c m), n.nodup⟩
theorem snd_of {cs : List (Addr × List Int)} {R : Nat → List Int} {n i : Nat} (e : cs.map (·.2) = (List.range n).map R) (hi : i < n) : (cs.getD i (0, [])).2 = R i := by
  rw [← snd_at, e, List.getD_eq_getElem?_getD, List.getElem?_map, List.getElem?_range hi]
  rfl
theorem any_rng (n : Nat) (p : Nat → Bool) : ((List.range n).map p).any id = (List.range n).any p := by
  rw [List.any_map]
  rfl
/-- of the size that may come -/
def Sz (rs : List (List Int)) : Prop := rs.length ≤ 1000 ∧ ∀ r ∈ rs, r.length ≤ 1000
def spAny (K : PySem.W.Frag) : Sp := fun vs H Q _ => ∃ (a : Addr) (bs : List (Addr × List Int)), vs = [.ref a] ∧ Rw K H a bs ∧ Sz (bs.map (·.2)) ∧ (∀ r ∈ bs.map (·.2), ∀ x ∈ r, 0 ≤ x ∧ x ≤ 1000) ∧ ∀ H', Grows H H' → Q (.bl (anyX (bs.map (·.2)))) H'
def spIs (K : PySem.W.Frag) : Sp := fun vs H Q _ => ∃ (a : Addr) (bs : List (Addr × List Int)), vs = [.ref a] ∧ Rw K H a bs ∧ Sz (bs.map (·.2)) ∧ ∀ H', Grows H H' → Q (.bl (isP (bs.map (·.2)))) H'
section
variable {P : Program} {w : World} {K : PySem.W.Frag} {mg : Str → Option Value} {base : Heap}
theorem scAny : FnScope ["groups", "masks", "group", "one", "other"] ["groups"] (defScope sAny) := ⟨rfl, rfl, rfl, by decide +kernel, rfl, by decide +kernel, by decide +kernel⟩
theorem scParting : FnScope ["thing", "persons", "group"] ["thing"] (defScope sParting) := ⟨rfl, rfl, rfl, by decide +kernel, rfl, by decide +kernel, by decide +kernel⟩
theorem ok_any (Z : ProgF K mg) (T : TxtP mg) : FnOk P w K mg base CX0 2 Z.fAny Z.dAny ["groups"] (spAny K) := by
  have GMask : FnOk P w K mg base CX0 1 Z.fMask Z.dMask ["group"] (spMask K) := ok_mask Z T
  have GCross : FnOk P w K mg base CX0 1 Z.fCross Z.dCross ["one", "other"] spCross := ok_cross Z
  refine Z.FAny.ok scAny (fun vs H Q E h => ?_) (fun cdv A outer s H vs Q E hr h => ?_)
  · obtain ⟨a, bs, rfl, _⟩ := h
    rfl
  · obtain ⟨a, bs, rfl, hB, ⟨hz1, hz2⟩, hx, k⟩ := h
    refine ⟨_, (pss_cons (ps_setLc (i := 1) (own := [("group", 2)]) (g := gName 2) (tt := tYes) rfl scAny.nd rfl rfl (sw_true rfl rfl rfl (by decide +kernel)) (pi_list (pv 0)) (blkOk_by (own := [("group", 2)]) (N := ["groups", "masks", "group", "one", "other"]) (sc := defScope sAny) (by decide +kernel)) (fun _ _ _ _ _ => pg_name (i := 2) scAny.nd rfl (Or.inl rfl)) (fun _ _ _ _ _ => pts_nil) (fun _ _ _ _ _ => (pe_call GMask (hr.mono (by decide)) rfl Z.gMask Z.FMask.kp Z.bMask .nil pass0 (pa_cons (pv 2) pa_nil))))
      (pss_one (ps_ret (pe_callB (cr_any rfl) (by rfl) T.any (by decide +kernel) (pa_cons (pe_lc (own := [("one", 3), ("other", 4)]) (g := gTup K 2 (gCons (gName 3) (gCons (gName 4) gNil))) (tt := tYes) rfl scAny.nd (Comb.pi_comb (by rfl) Z.gComb (pa_cons (pv 1) (pa_cons pe_int pa_nil))) (blkOk_by (own := [("one", 3), ("other", 4)]) (N := ["groups", "masks", "group", "one", "other"]) (sc := defScope sAny) (by decide +kernel)) (fun _ _ _ _ _ => pg_tup rfl (pgs_cons (pg_name (i := 3) scAny.nd rfl (Or.inl rfl)) (pgs_cons (pg_name (i := 4) scAny.nd rfl (Or.inl rfl)) pgs_nil))) (fun _ _ _ _ _ => pts_nil) (fun _ _ _ _ _ => (pe_call GCross (hr.mono (by decide)) rfl Z.gCross Z.FCross.kp Z.bCross .nil pass0 (pa_cons (pv 3) (pa_cons (pv 4) pa_nil))))) pa_nil))))), ?_⟩
    rw [List.length_map] at hz1
    refine ⟨_, rfl, a, rfl, ⟨_, hB.top⟩, fun D hD => lc_listM (K := K) (fun i => V.int (maskI (bs.getD i (0, [])).2)) hD hB.top (by rw [List.length_map]; omega) (fun i x H' R hx' sm kR => ?_) fun H' sm eD => ?_⟩
    · have il := (List.getElem?_eq_some_iff.mp hx').1
      rw [List.length_map] at il
      obtain rfl := at_map (d := (0, [])) hx'
      exact ⟨rfl, _, rfl, _, _, rfl, sm.seq (hB.at il), hz2 _ (mem_at il), hx _ (mem_at il), fun H2 s2 => kR _ s2⟩
    · rw [List.length_map] at eD
      refine ⟨_, rfl, D, _, rfl, SqL.of eD, fun D2 hD2 => lc_combM (xs := (List.range bs.length).map fun i => V.int (maskI (bs.getD i (0, [])).2)) (fun t => V.bl (crossI (maskI (bs.getD ((Comb.prs bs.length).getD t (0, 0)).1 (0, [])).2) (maskI (bs.getD ((Comb.prs bs.length).getD t (0, 0)).2 (0, [])).2))) hD2 (by rw [List.length_map, List.length_range]; exact hz1) (fun t i j x y T H' R ht ex ey sm2 hT kR => ?_) fun H2 sm2 eD2 => ?_⟩
      · rw [List.length_map, List.length_range] at ht
        rw [List.getElem?_map] at ex ey
        have gx : x = .int (maskI (bs.getD i (0, [])).2) := by
          obtain ⟨z, hz, e⟩ := Option.map_eq_some_iff.mp ex
          have e2 := (List.getElem?_eq_some_iff.mp hz)
          obtain ⟨l2, e3⟩ := e2
          rw [List.getElem_range] at e3
          rw [← e, ← e3]
        have gy : y = .int (maskI (bs.getD j (0, [])).2) := by
          obtain ⟨z, hz, e⟩ := Option.map_eq_some_iff.mp ey
          have e2 := (List.getElem?_eq_some_iff.mp hz)
          obtain ⟨l2, e3⟩ := e2
          rw [List.getElem_range] at e3
          rw [← e, ← e3]
        subst gx gy
        have et : (Comb.prs bs.length).getD t (0, 0) = (i, j) := by
          rw [List.getD_eq_getElem?_getD, ht]
          rfl
        rw [et] at kR
        exact ⟨T, _, rfl, SqT.of upd_same, rfl, _, _, rfl, _, _, rfl, rfl, rfl, _, rfl, _, rfl, _, _, rfl, fun H3 s3 => kR _ s3⟩
      · rw [List.length_map, List.length_range] at eD2
        refine ⟨D2, (List.range (Comb.prs bs.length).length).map fun t => crossI (maskI (bs.getD ((Comb.prs bs.length).getD t (0, 0)).1 (0, [])).2) (maskI (bs.getD ((Comb.prs bs.length).getD t (0, 0)).2 (0, [])).2), rfl, SqL.of (by rw [eD2, List.map_map]; rfl), ?_⟩
        rw [any_rng]
        have q := k H2 (sm.trans sm2)
        unfold anyX at q
        simp only [List.length_map, snd_at] at q
        exact q
theorem rows_in {n : Int} {ns : List Int} (h : group n ns = true) (hn : n ≤ 1000) : ∀ x ∈ ns, 0 ≤ x ∧ x ≤ 1000 := by
  unfold group plist at h
  simp only [Bool.and_eq_true] at h
  obtain ⟨⟨h1, _⟩, _⟩ := h
  intro x hx
  obtain ⟨i, hi, e⟩ := List.getElem_of_mem hx
  have q := List.all_eq_true.mp h1 i (List.mem_range.mpr hi)
  simp only [Bool.and_eq_true, decide_eq_true_eq] at q
  rw [List.getD_eq_getElem?_getD, List.getElem?_eq_getElem hi] at q
  have q' : 0 ≤ ns[i] ∧ ns[i] < n := q
  rw [e] at q'
  omega
theorem ok_is (Z : ProgF K mg) (T : TxtP mg) : FnOk P w K mg base CX0 5 Z.fIs Z.dIs ["thing"] (spIs K) := by
  have GGr : FnOk P w K mg base CX0 4 Z.fGr Z.dGr ["thing", "persons"] (spPL K group) := ok_group Z T
  have GAsc : FnOk P w K mg base CX0 1 Z.fAsc Z.dAsc ["items"] (spAscR K) := ok_ascR Z.FAsc T
  have GAny : FnOk P w K mg base CX0 2 Z.fAny Z.dAny ["groups"] (spAny K) := ok_any Z T
  refine Z.FIs.ok scParting (fun vs H Q E h => ?_) (fun cdv A outer s H vs Q E hr h => ?_)
  · obtain ⟨a, bs, rfl, _⟩ := h
    rfl
  · obtain ⟨a, bs, rfl, hB, hz, k⟩ := h
    refine ⟨_, (pss_cons (ps_if (PW.pt (pw_or (pt_not (pt_val (pe_callB call_isi (by rfl) T.isi (by decide +kernel) (pa_cons (pv 0) (pa_cons (pe_bltn (v := .ty "list") (u := .type "list") (by rfl) T.list (by decide +kernel) rfl) pa_nil))))) (pw_or1 (pt_cmpR op_ge (pe_callB call_len_seq (by rfl) T.len (by decide +kernel) (pa_cons (pv 0) pa_nil)) (pe_glob (v := .int 20) rfl Z.gMost ⟨_, rfl⟩) (nomark _))))) (pss_one (ps_ret pe_bl)) pss_nil)
      (pss_cons (ps_set (i := 1) scParting.nd rfl (.inr rfl) (pe_op op_add (pe_callB call_len_seq (by rfl) T.len (by decide +kernel) (pa_cons (pv 0) pa_nil)) pe_int))
      (pss_cons (ps_if (pt_not (pt_val (pe_callB (cr_all rfl) (by rfl) T.all (by decide +kernel) (pa_cons (pe_lc (own := [("group", 2)]) (g := gName 2) (tt := tYes) rfl scParting.nd (pi_list (pv 0)) (blkOk_by (own := [("group", 2)]) (N := ["thing", "persons", "group"]) (sc := defScope sParting) (by decide +kernel)) (fun _ _ _ _ _ => pg_name (i := 2) scParting.nd rfl (Or.inl rfl)) (fun _ _ _ _ _ => pts_nil) (fun _ _ _ _ _ => (pe_call GGr (hr.mono (by decide)) rfl Z.gGr Z.FGr.kp Z.bGr .nil pass0 (pa_cons (pv 2) (pa_cons (pv 1) pa_nil))))) pa_nil)))) (pss_one (ps_ret pe_bl)) pss_nil)
      (pss_one (ps_ret (pe_and (pe_call GAsc (hr.mono (by decide)) rfl Z.gAsc Z.FAsc.kp Z.bAsc .nil pass0 (pa_cons (pv 0) pa_nil)) (pe_one (pe_not (pe_call GAny (hr.mono (by decide)) rfl Z.gAny Z.FAny.kp Z.bAny .nil pass0 (pa_cons (pv 0) pa_nil)))))))))), ?_⟩
    have hz' := hz
    obtain ⟨hz1, hz2⟩ := hz
    rw [List.length_map] at hz1
    refine ⟨_, rfl, _, _, _, _, true, rfl, .ty "list", ty_list hB.top, kit_ty (by decide +kernel), true, rfl, iteF ⟨_, rfl, a, _, rfl, .inl hB.top, _, _, rfl, rfl, _, rfl, ?_⟩⟩
    rw [List.length_map]
    refine ite2 (fun e => ?_) (fun e => ?_)
    · have ge := of_decide_eq_true e
      have q := k H .refl
      unfold isP at q
      rw [List.length_map, decide_eq_false (by omega), Bool.false_and, Bool.false_and, Bool.false_and] at q
      exact q
    · have lt : (bs.length : Int) < 20 := by
        rcases Int.lt_or_le (bs.length : Int) 20 with z | z
        · exact z
        · exact absurd (decide_eq_true z) e
      refine ⟨_, rfl, a, _, rfl, .inl hB.top, _, _, rfl, rfl, ?_⟩
      rw [List.length_map]
      refine ⟨_, rfl, a, rfl, ⟨_, hB.top⟩, fun D hD => lc_listM (K := K) (fun i => V.bl (group (bs.length + 1) (bs.getD i (0, [])).2)) hD hB.top (by rw [List.length_map]; omega) (fun i x H' R hx' sm kR => ?_) fun H' sm eD => ?_⟩
      · have il := (List.getElem?_eq_some_iff.mp hx').1
        rw [List.length_map] at il
        obtain rfl := at_map (d := (0, [])) hx'
        exact ⟨rfl, _, rfl, _, rfl, _, _, _, rfl, sm.seq (hB.at il), hz2 _ (mem_at il), fun H2 s2 => kR _ s2⟩
      · rw [List.length_map] at eD
        refine ⟨D, (List.range bs.length).map fun i => group (bs.length + 1) (bs.getD i (0, [])).2, rfl, SqL.of (by rw [eD, List.map_map]; rfl), ?_⟩
        rw [all_rng]
        refine ⟨_, rfl, ?_⟩
        have val : ∀ H2, Grows H H2 → Q (.bl (((List.range bs.length).all fun i => group (bs.length + 1) (bs.getD i (0, [])).2) && ascR (bs.map (·.2)) && !anyX (bs.map (·.2)))) H2 := fun H2 s2 => by
          have q := k H2 s2
          unfold isP at q
          simp only [List.length_map, snd_at] at q
          rw [decide_eq_true lt, Bool.true_and] at q
          exact q
        by_cases hg : ((List.range bs.length).all fun i => group (bs.length + 1) (bs.getD i (0, [])).2) = true
        · rw [hg] at val ⊢
          refine iteF ⟨_, rfl, a, bs, rfl, (hB.keep sm).top, (hB.keep sm).each, hz1, fun H2 s2 => ⟨_, rfl, ?_⟩⟩
          by_cases ha : ascR (bs.map (·.2)) = true
          · rw [if_pos ha]
            have hx : ∀ r ∈ bs.map (·.2), ∀ x ∈ r, 0 ≤ x ∧ x ≤ 1000 := fun r hr x hx => by
              obtain ⟨i, hi, e⟩ := List.getElem_of_mem hr
              rw [List.length_map] at hi
              have g := List.all_eq_true.mp hg i (List.mem_range.mpr hi)
              have e2 : (bs.getD i (0, [])).2 = r := by
                rw [← snd_at, List.getD_eq_getElem?_getD, List.getElem?_eq_getElem (by rw [List.length_map]; exact hi), e]
                rfl
              rw [e2] at g
              exact rows_in g (by omega) x hx
            refine ⟨_, rfl, a, bs, rfl, (hB.keep sm).keep s2, hz', hx, fun H3 s3 => ⟨_, rfl, ?_⟩⟩
            have q := val H3 ((sm.trans s2).trans s3)
            rw [ha, Bool.true_and, Bool.true_and] at q
            exact q
          · rw [if_neg ha]
            have q := val H2 (sm.trans s2)
            rw [Bool.eq_false_iff.mpr ha, Bool.true_and, Bool.false_and] at q
            exact q
        · have q := val H' sm
          rw [Bool.eq_false_iff.mpr hg] at q ⊢
          rw [Bool.false_and, Bool.false_and] at q
          exact iteT q
end
end K50

namespace K50
open PySem PySem.Spec PyProof.Rows L2 SortR LcM
theorem plist_of {n : Int} {ks : List Int} (up : ks.Pairwise (· < ·)) (rng : ∀ x ∈ ks, 0 ≤ x ∧ x < n) : plist n ks = true := by
  unfold plist inR ascI
  rw [Bool.and_eq_true]
  refine ⟨List.all_eq_true.mpr fun i hi => ?_, List.all_eq_true.mpr fun i hi => ?_⟩
  · have il := List.mem_range.mp hi
    have e : ks.getD i 0 = ks[i] := by rw [List.getD_eq_getElem?_getD, List.getElem?_eq_getElem il]; rfl
    have := rng _ (List.getElem_mem il)
    rw [e, decide_eq_true this.1, decide_eq_true this.2]
    rfl
  · have il := List.mem_range.mp hi
    have l1 : i < ks.length := by omega
    have l2 : i + 1 < ks.length := by omega
    have e1 : ks.getD i 0 = ks[i] := by rw [List.getD_eq_getElem?_getD, List.getElem?_eq_getElem l1]; rfl
    have e2 : ks.getD (i + 1) 0 = ks[i + 1] := by rw [List.getD_eq_getElem?_getD, List.getElem?_eq_getElem l2]; rfl
    rw [e1, e2]
    exact decide_eq_true (List.pairwise_iff_getElem.mp up i (i + 1) l1 l2 (Nat.lt_succ_self i))
theorem gr_none {p a : Addr} {H H' : Hp} (g : Gr p H H') (h : H' a = none) (n : a ≠ p) : H a = none := by
  rcases Option.eq_none_or_eq_some (H a) with z | ⟨o, z⟩
  · exact z
  · rw [g a o n z] at h
    cases h
theorem rg_ints (n : Int) : rgV 0 n = ((List.range n.toNat).map fun i => (0 + (i : Nat) : Int)).map V.int := by
  unfold rgV
  rw [List.map_map, Int.sub_zero]
  rfl
theorem rg_up (n : Nat) : ((List.range n).map fun i => (0 + (i : Nat) : Int)).Pairwise (· < ·) := by
  rw [List.pairwise_map]
  exact List.pairwise_lt_range.imp fun {a b} h => by omega
theorem rg_in (n : Nat) : ∀ x ∈ (List.range n).map fun i => (0 + (i : Nat) : Int), 0 ≤ x ∧ x < n := fun x hx => by
  obtain ⟨i, hi, e⟩ := List.mem_map.mp hx
  have := List.mem_range.mp hi
  omega
theorem inV_ints (i : Int) (ns : List Int) : inV (.int i) (ns.map V.int) = decide (i ∈ ns) := by
  unfold inV
  induction ns with
  | nil => rfl
  | cons x ns ih =>
    rw [List.map_cons, List.any_cons, ih]
    show ((x == i) || decide (i ∈ ns)) = decide (i ∈ x :: ns)
    by_cases e : x = i
    · rw [e, beq_self_eq_true, Bool.true_or, decide_eq_true List.mem_cons_self]
    · rw [beq_eq_false_iff_ne.mpr e, Bool.false_or]
      by_cases m : i ∈ ns
      · rw [decide_eq_true m, decide_eq_true (List.mem_cons_of_mem _ m)]
      · rw [decide_eq_false m, decide_eq_false fun z => (List.mem_cons.mp z).elim (fun q => e q.symm) m]
theorem flat_ints (ns : List Int) : (ns.map V.int).all flatV = true := by
  rw [List.all_map]
  exact List.all_eq_true.mpr fun _ _ => rfl
end K50

namespace K50
open PySem PySem.Spec PyProof.Rows L2 SortR LcM
theorem rng_map {α β : Type} (ns : List α) (d : α) (f : α → β) : (List.range ns.length).map (fun i => f (ns.getD i d)) = ns.map f := by
  refine List.ext_getElem (by rw [List.length_map, List.length_map, List.length_range]) fun j j1 j2 => ?_
  rw [List.length_map] at j2
  rw [List.getElem_map, List.getElem_map, List.getElem_range, List.getD_eq_getElem?_getD, List.getElem?_eq_getElem j2]
  rfl
theorem maskI_mk {ns : List Int} : maskI ns = ((mk (ns.map Int.toNat) : Nat) : Int) := by
  unfold maskI
  rw [rng_map ns 0 fun x => (1 : Int) * 2 ^ x.toNat]
  induction ns with
  | nil => rfl
  | cons x ns ih =>
    rw [List.map_cons, List.sum_cons, ih, List.map_cons, mk_cons, Int.one_mul, Int.natCast_add, Int.natCast_pow]
    rfl
/-- ascending lists of persons that lie apart, or one within the other -/
def Nice (xs ys : List Int) : Prop := (∀ z ∈ xs, z ∉ ys) ∨ (∀ z ∈ xs, z ∈ ys) ∨ ∀ z ∈ ys, z ∈ xs
theorem up_nat {xs : List Int} (h : xs.Pairwise (· < ·)) (p : ∀ x ∈ xs, 0 ≤ x) : (xs.map Int.toNat).Pairwise (· < ·) := by
  rw [List.pairwise_map]
  exact h.imp_of_mem fun {a b} ha hb lt => by
    have := p a ha
    have := p b hb
    omega
theorem mem_nat {xs : List Int} (p : ∀ x ∈ xs, 0 ≤ x) {i : Nat} : i ∈ xs.map Int.toNat ↔ (i : Int) ∈ xs := by
  rw [List.mem_map]
  constructor
  · rintro ⟨x, hx, rfl⟩
    rw [Int.toNat_of_nonneg (p x hx)]
    exact hx
  · intro h
    exact ⟨_, h, rfl⟩
theorem crossI_no {xs ys : List Int} (hx : xs.Pairwise (· < ·)) (hy : ys.Pairwise (· < ·)) (px : ∀ x ∈ xs, 0 ≤ x) (py : ∀ x ∈ ys, 0 ≤ x) (h : Nice xs ys) : crossI (maskI xs) (maskI ys) = false := by
  have h' : (∀ z ∈ xs.map Int.toNat, z ∉ ys.map Int.toNat) ∨ (∀ z ∈ xs.map Int.toNat, z ∈ ys.map Int.toNat) ∨ ∀ z ∈ ys.map Int.toNat, z ∈ xs.map Int.toNat := by
    rcases h with h | h | h
    · exact .inl fun z hz hz2 => h _ ((mem_nat px).mp hz) ((mem_nat py).mp hz2)
    · exact .inr (.inl fun z hz => (mem_nat py).mpr (h _ ((mem_nat px).mp hz)))
    · exact .inr (.inr fun z hz => (mem_nat px).mpr (h _ ((mem_nat py).mp hz)))
  have m := mk_and (up_nat hx px) (up_nat hy py) h'
  rw [maskI_mk, maskI_mk]
  unfold crossI
  rw [PyProof.Rows.bitAnd_pp (Int.natCast_nonneg _) (Int.natCast_nonneg _), Int.toNat_natCast, Int.toNat_natCast]
  generalize mk (xs.map Int.toNat) = a at m
  generalize mk (ys.map Int.toNat) = b at m
  have e : inV (.int ((a &&& b : Nat) : Int)) [.int 0, .int (a : Int), .int (b : Int)] = true := by
    unfold inV
    rcases m with m | m | m
    · rw [m]
      rfl
    · rw [m]
      simp [eqV]
    · rw [m]
      simp [eqV]
  rw [e]
  rfl
end K50

namespace K50
open PySem PySem.Spec PyProof.Rows L2 SortR LcM
/-- items of newcomers: each within its bounds -/
def Bnd (xs : List Int) : Prop := ∀ (j : Nat) (x : Int), xs[j]? = some x → -(j : Int) ≤ x ∧ x ≤ (j : Int)
theorem Bnd.add {xs : List Int} {x : Int} (h : Bnd xs) (h0 : -(xs.length : Int) ≤ x) (h1 : x ≤ (xs.length : Int)) : Bnd (xs ++ [x]) := fun j y e => by
  rcases Nat.lt_or_ge j xs.length with z | z
  · rw [List.getElem?_append_left z] at e
    exact h j y e
  · rw [List.getElem?_append_right z] at e
    have : j - xs.length = 0 := by
      rcases Nat.eq_zero_or_pos (j - xs.length) with q | q
      · exact q
      · rw [List.getElem?_eq_none (by show 1 ≤ j - xs.length; omega)] at e
        cases e
    rw [this] at e
    have e' : x = y := Option.some.inj e
    omega
/-! ### families that grow newcomer by newcomer -/
theorem len_sub : ∀ {xs ys : List Int}, xs.Nodup → (∀ z ∈ xs, z ∈ ys) → xs.length ≤ ys.length
  | [], _, _, _ => Nat.zero_le _
  | x :: xs, ys, h, s => by
    obtain ⟨nx, n⟩ := List.nodup_cons.mp h
    have m : x ∈ ys := s x List.mem_cons_self
    have q := len_sub n (ys := ys.erase x) fun z hz => (List.mem_erase_of_ne fun e => nx (by rw [← e]; exact hz)).mpr (s z (List.mem_cons_of_mem _ hz))
    rw [List.length_erase_of_mem m] at q
    have := List.length_pos_of_mem m
    rw [List.length_cons]
    omega
theorem sub_back {xs ys : List Int} (h : xs.Nodup) (s : ∀ z ∈ xs, z ∈ ys) (l : ys.length ≤ xs.length) : ∀ z ∈ ys, z ∈ xs := fun z hz => by
  apply Classical.byContradiction
  intro no
  have q := len_sub (List.nodup_cons.mpr ⟨no, h⟩) fun y hy => (List.mem_cons.mp hy).elim (fun e => by rw [e]; exact hz) (s y)
  rw [List.length_cons] at q
  omega
theorem up_nodup {xs : List Int} (h : xs.Pairwise (· < ·)) : xs.Nodup := h.imp fun {a b} lt e => by omega
theorem Nice.symm {xs ys : List Int} (h : Nice xs ys) : Nice ys xs := by
  rcases h with h | h | h
  · exact .inl fun z hz hx => h z hx hz
  · exact .inr (.inr h)
  · exact .inr (.inl h)
theorem Nice.same {xs : List Int} : Nice xs xs := .inr (.inl fun _ h => h)
/-- what the newcomer is beside or around -/
def baseB (rs : List (List Int)) (item : Int) : List Int := if 0 ≤ item then [item] else rs.getD (0 - item - 1).toNat []
/-- whether a group is around it -/
def inB (b w : List Int) : Bool := decide (b.length < w.length) && decide (b.headD 0 ∈ w)
def growB (f : Int) (b w : List Int) : List Int := if inB b w = true then w ++ [f] else w
def stepB (rs : List (List Int)) (item : Int) : List (List Int) := rs.map (growB ((rs.length : Int) + 1) (baseB rs item)) ++ [baseB rs item ++ [(rs.length : Int) + 1]]
def famB (is : List Int) : Nat → List (List Int)
  | 0 => []
  | n + 1 => stepB (famB is n) (is.getD n 0)
theorem stepB_len (rs : List (List Int)) (item : Int) : (stepB rs item).length = rs.length + 1 := by
  unfold stepB
  rw [List.length_append, List.length_map]
  rfl
theorem famB_len (is : List Int) : ∀ n, (famB is n).length = n
  | 0 => rfl
  | n + 1 => by
    show (stepB (famB is n) _).length = n + 1
    rw [stepB_len, famB_len is n]
structure Fam (rs : List (List Int)) : Prop where
  up : ∀ r ∈ rs, r.Pairwise (· < ·)
  two : ∀ r ∈ rs, 2 ≤ r.length
  rng : ∀ r ∈ rs, ∀ x ∈ r, 0 ≤ x ∧ x ≤ (rs.length : Int)
  nice : rs.Pairwise fun a b => Nice a b ∧ a ≠ b
theorem pw_mem {α : Type} {R : α → α → Prop} (sy : ∀ a b, R a b → R b a) {xs : List α} (h : xs.Pairwise R) {a b : α} (ha : a ∈ xs) (hb : b ∈ xs) : a = b ∨ R a b := by
  induction h with
  | nil => cases ha
  | @cons x xs hx _ ih =>
    rcases List.mem_cons.mp ha with e1 | e1
    · rcases List.mem_cons.mp hb with e2 | e2
      · exact .inl (e1.trans e2.symm)
      · rw [e1]
        exact .inr (hx b e2)
    · rcases List.mem_cons.mp hb with e2 | e2
      · rw [e2]
        exact .inr (sy _ _ (hx a e1))
      · exact ih e1 e2
theorem Fam.two_nice {rs : List (List Int)} (F : Fam rs) {a b : List Int} (ha : a ∈ rs) (hb : b ∈ rs) : Nice a b := by
  rcases pw_mem (R := fun a b => Nice a b ∧ a ≠ b) (fun a b h => ⟨h.1.symm, h.2.symm⟩) F.nice ha hb with e | e
  · rw [e]
    exact .same
  · exact e.1
structure Bas (rs : List (List Int)) (b : List Int) : Prop where
  up : b.Pairwise (· < ·)
  ne : ∃ h t, b = h :: t
  rng : ∀ x ∈ b, 0 ≤ x ∧ x ≤ (rs.length : Int)
  nice : ∀ w ∈ rs, Nice b w
theorem Fam.bas {rs : List (List Int)} (F : Fam rs) {item : Int} (h0 : -(rs.length : Int) ≤ item) (h1 : item ≤ rs.length) : Bas rs (baseB rs item) := by
  unfold baseB
  by_cases p : 0 ≤ item
  · rw [if_pos p]
    refine ⟨List.pairwise_singleton _ _, ⟨_, _, rfl⟩, fun x hx => by rw [List.mem_singleton.mp hx]; exact ⟨p, h1⟩, fun w _ => ?_⟩
    by_cases m : item ∈ w
    · exact .inr (.inl fun z hz => by rw [List.mem_singleton.mp hz]; exact m)
    · exact .inl fun z hz => by rw [List.mem_singleton.mp hz]; exact m
  · rw [if_neg p]
    have lt : (0 - item - 1).toNat < rs.length := by omega
    have e : rs.getD (0 - item - 1).toNat [] = rs[(0 - item - 1).toNat] := by rw [List.getD_eq_getElem?_getD, List.getElem?_eq_getElem lt]; rfl
    have m : rs.getD (0 - item - 1).toNat [] ∈ rs := by rw [e]; exact List.getElem_mem lt
    refine ⟨F.up _ m, ?_, F.rng _ m, fun w hw => F.two_nice m hw⟩
    have t := F.two _ m
    cases z : rs.getD (0 - item - 1).toNat [] with
    | nil => rw [z] at t; exact absurd t (by decide)
    | cons x y => exact ⟨x, y, rfl⟩
theorem Bas.head {rs : List (List Int)} {b : List Int} (B : Bas rs b) : b.headD 0 ∈ b := by
  obtain ⟨h, t, e⟩ := B.ne
  rw [e]
  exact List.mem_cons_self
theorem Bas.sub {rs : List (List Int)} {b w : List Int} (B : Bas rs b) (F : Fam rs) (hw : w ∈ rs) (i : inB b w = true) : (∀ z ∈ b, z ∈ w) ∧ b.length < w.length := by
  unfold inB at i
  simp only [Bool.and_eq_true, decide_eq_true_eq] at i
  refine ⟨?_, i.1⟩
  rcases B.nice w hw with h | h | h
  · exact absurd i.2 (h _ B.head)
  · exact h
  · have := len_sub (up_nodup (F.up w hw)) h
    omega
theorem Bas.out {rs : List (List Int)} {b w : List Int} (B : Bas rs b) (hw : w ∈ rs) (i : inB b w = false) : (∀ z ∈ b, z ∉ w) ∨ ∀ z ∈ w, z ∈ b := by
  rcases B.nice w hw with h | h | h
  · exact .inl h
  · refine .inr (sub_back (up_nodup B.up) h ?_)
    apply Classical.byContradiction
    intro l
    unfold inB at i
    rw [decide_eq_true (show b.length < w.length by omega), decide_eq_true (h _ B.head)] at i
    cases i
  · exact .inr h
theorem nice_both {a b : List Int} {f h : Int} (ha : h ∈ a) (hb : h ∈ b) (n : Nice a b) : Nice (a ++ [f]) (b ++ [f]) := by
  rcases n with n | n | n
  · exact absurd hb (n h ha)
  · exact .inr (.inl fun z hz => (List.mem_append.mp hz).elim (fun q => List.mem_append.mpr (.inl (n z q))) fun q => List.mem_append.mpr (.inr q))
  · exact .inr (.inr fun z hz => (List.mem_append.mp hz).elim (fun q => List.mem_append.mpr (.inl (n z q))) fun q => List.mem_append.mpr (.inr q))
theorem nice_one {rs : List (List Int)} {b w1 w2 : List Int} {f : Int} (B : Bas rs b) (F : Fam rs) (h1 : w1 ∈ rs) (h2 : w2 ∈ rs) (i1 : inB b w1 = true) (i2 : inB b w2 = false) (nf : f ∉ w2) : Nice (w1 ++ [f]) w2 := by
  obtain ⟨s, l⟩ := B.sub F h1 i1
  rcases F.two_nice h1 h2 with n | n | n
  · refine .inl fun z hz h => ?_
    rcases List.mem_append.mp hz with q | q
    · exact n z q h
    · rw [List.mem_singleton.mp q] at h
      exact nf h
  · have := len_sub (up_nodup (F.up w1 h1)) n
    unfold inB at i2
    rw [decide_eq_true (show b.length < w2.length by omega), decide_eq_true (n _ (s _ B.head))] at i2
    cases i2
  · exact .inr (.inr fun z hz => List.mem_append.mpr (.inl (n z hz)))
theorem Fam.step {rs : List (List Int)} (F : Fam rs) {item : Int} (h0 : -(rs.length : Int) ≤ item) (h1 : item ≤ rs.length) : Fam (stepB rs item) := by
  have B := F.bas h0 h1
  obtain ⟨f, ef⟩ : ∃ f : Int, f = (rs.length : Int) + 1 := ⟨_, rfl⟩
  have nf : ∀ w ∈ rs, f ∉ w := fun w hw z => by
    have := (F.rng w hw f z).2
    omega
  have nb : f ∉ baseB rs item := fun z => by
    have := (B.rng f z).2
    omega
  have up1 : ∀ {w : List Int}, w.Pairwise (· < ·) → (∀ x ∈ w, x ≤ (rs.length : Int)) → (w ++ [f]).Pairwise (· < ·) := fun {w} u r => List.pairwise_append.mpr ⟨u, List.pairwise_singleton _ _, fun a ha b hb => by
    rw [List.mem_singleton.mp hb]
    have := r a ha
    omega⟩
  have mem : ∀ r ∈ stepB rs item, (∃ w ∈ rs, r = growB f (baseB rs item) w) ∨ r = baseB rs item ++ [f] := fun r hr => by
    unfold stepB at hr
    rw [← ef] at hr
    rcases List.mem_append.mp hr with q | q
    · obtain ⟨w, hw, e⟩ := List.mem_map.mp q
      exact .inl ⟨w, hw, e.symm⟩
    · exact .inr (List.mem_singleton.mp q)
  have big : ((stepB rs item).length : Int) = f := by
    rw [stepB_len, ef]
    rfl
  refine ⟨fun r hr => ?_, fun r hr => ?_, fun r hr x hx => ?_, ?_⟩
  · rcases mem r hr with ⟨w, hw, rfl⟩ | rfl
    · unfold growB
      split
      · exact up1 (F.up w hw) fun x hx => (F.rng w hw x hx).2
      · exact F.up w hw
    · exact up1 B.up fun x hx => (B.rng x hx).2
  · rcases mem r hr with ⟨w, hw, rfl⟩ | rfl
    · have := F.two w hw
      unfold growB
      split
      · rw [List.length_append]
        omega
      · exact this
    · obtain ⟨h, t, e⟩ := B.ne
      rw [e, List.length_append, List.length_cons]
      show 2 ≤ t.length + 1 + 1
      omega
  · rw [big]
    have fin : ∀ {w : List Int}, (∀ x ∈ w, 0 ≤ x ∧ x ≤ (rs.length : Int)) → x ∈ w ++ [f] → 0 ≤ x ∧ x ≤ f := fun {w} r h => by
      rcases List.mem_append.mp h with q | q
      · have := r x q
        omega
      · rw [List.mem_singleton.mp q]
        omega
    rcases mem r hr with ⟨w, hw, rfl⟩ | rfl
    · unfold growB at hx
      split at hx
      · exact fin (F.rng w hw) hx
      · exact fin (F.rng w hw) (List.mem_append.mpr (.inl hx))
    · exact fin B.rng hx
  · unfold stepB
    rw [← ef]
    refine List.pairwise_append.mpr ⟨?_, List.pairwise_singleton _ _, fun a ha b hb => ?_⟩
    · rw [List.pairwise_map]
      refine F.nice.imp_of_mem fun {w1 w2} m1 m2 ⟨n, ne⟩ => ?_
      unfold growB
      cases i1 : inB (baseB rs item) w1 <;> cases i2 : inB (baseB rs item) w2
      · exact ⟨n, ne⟩
      · refine ⟨(nice_one B F m2 m1 i2 i1 (nf w1 m1)).symm, fun e => nf w1 m1 ?_⟩
        rw [if_neg Bool.false_ne_true, if_pos rfl] at e
        rw [e]
        exact List.mem_append.mpr (.inr List.mem_cons_self)
      · refine ⟨nice_one B F m1 m2 i1 i2 (nf w2 m2), fun e => nf w2 m2 ?_⟩
        rw [if_neg Bool.false_ne_true, if_pos rfl] at e
        rw [← e]
        exact List.mem_append.mpr (.inr List.mem_cons_self)
      · refine ⟨nice_both ((B.sub F m1 i1).1 _ B.head) ((B.sub F m2 i2).1 _ B.head) n, fun e => ne ?_⟩
        rw [if_pos rfl, if_pos rfl] at e
        exact List.append_cancel_right e
    · rw [List.mem_singleton.mp hb]
      obtain ⟨w, hw, e⟩ := List.mem_map.mp ha
      rw [← e]
      unfold growB
      cases i : inB (baseB rs item) w
      · rw [if_neg Bool.false_ne_true]
        refine ⟨?_, fun q => nf w hw ?_⟩
        · rcases B.out hw i with n | n
          · refine .inl fun z hz h => ?_
            rcases List.mem_append.mp h with q | q
            · exact n z q hz
            · rw [List.mem_singleton.mp q] at hz
              exact nf w hw hz
          · exact .inr (.inl fun z hz => List.mem_append.mpr (.inl (n z hz)))
        · rw [q]
          exact List.mem_append.mpr (.inr List.mem_cons_self)
      · rw [if_pos rfl]
        obtain ⟨s, l⟩ := B.sub F hw i
        refine ⟨.inr (.inr fun z hz => (List.mem_append.mp hz).elim (fun q => List.mem_append.mpr (.inl (s z q))) fun q => List.mem_append.mpr (.inr q)), fun q => ?_⟩
        have := congrArg List.length (List.append_cancel_right q)
        omega
theorem famB_ok {is : List Int} (h : Bnd is) : ∀ n, n ≤ is.length → Fam (famB is n)
  | 0, _ => ⟨(fun _ h => nomatch h), (fun _ h => nomatch h), (fun _ h => nomatch h), List.Pairwise.nil⟩
  | n + 1, hn => by
    have e : is[n]? = some is[n] := List.getElem?_eq_getElem hn
    have b := h n _ e
    have eg : is.getD n 0 = is[n] := by rw [List.getD_eq_getElem?_getD, e]; rfl
    have L := famB_len is n
    exact (famB_ok h n (Nat.le_of_succ_le hn)).step (by rw [L, eg]; exact b.1) (by rw [L, eg]; exact b.2)
/-! ### such a family, sorted, is a parting -/
theorem sorted_rows (rs : List (List Int)) : (rs.mergeSort fun p q => decide (p ≤ q)).Pairwise (· ≤ ·) := by
  have h := List.pairwise_mergeSort (le := fun p q : List Int => decide (p ≤ q)) (fun a b c h1 h2 => decide_eq_true (List.le_trans (of_decide_eq_true h1) (of_decide_eq_true h2)))
    (fun a b => by
      simp only [Bool.or_eq_true, decide_eq_true_eq]
      exact List.le_total a b) rs
  exact h.imp fun {a b} z => of_decide_eq_true z
theorem strict_rows {rs : List (List Int)} (h : rs.Pairwise (· ≤ ·)) (n : rs.Nodup) : rs.Pairwise (· < ·) :=
  (h.and n).imp fun {a b} z => (List.le_iff_lt_or_eq.mp z.1).resolve_right z.2
theorem ascR_of {rs : List (List Int)} (up : rs.Pairwise (· < ·)) : ascR rs = true := by
  unfold ascR
  refine List.all_eq_true.mpr fun i hi => ?_
  have il := List.mem_range.mp hi
  have l1 : i < rs.length := by omega
  have l2 : i + 1 < rs.length := by omega
  have e1 : rs.getD i [] = rs[i] := by rw [List.getD_eq_getElem?_getD, List.getElem?_eq_getElem l1]; rfl
  have e2 : rs.getD (i + 1) [] = rs[i + 1] := by rw [List.getD_eq_getElem?_getD, List.getElem?_eq_getElem l2]; rfl
  rw [e1, e2]
  exact decide_eq_true (List.pairwise_iff_getElem.mp up i (i + 1) l1 l2 (Nat.lt_succ_self i))
def sortB (rs : List (List Int)) : List (List Int) := rs.mergeSort fun p q => decide (p ≤ q)
theorem isP_fam {rs : List (List Int)} (F : Fam rs) (h : rs.length < 20) : isP (sortB rs) = true := by
  have perm : (sortB rs).Perm rs := List.mergeSort_perm _ _
  have len : (sortB rs).length = rs.length := perm.length_eq
  have mem : ∀ r ∈ sortB rs, r ∈ rs := fun r hr => perm.mem_iff.mp hr
  have nd : (sortB rs).Nodup := perm.nodup_iff.mpr (F.nice.imp fun {a b} z => z.2)
  unfold isP
  simp only [Bool.and_eq_true, decide_eq_true_eq, Bool.not_eq_true']
  refine ⟨⟨⟨by omega, List.all_eq_true.mpr fun i hi => ?_⟩, ascR_of (strict_rows (sorted_rows rs) nd)⟩, ?_⟩
  · have il := List.mem_range.mp hi
    have e : (sortB rs).getD i [] = (sortB rs)[i] := by rw [List.getD_eq_getElem?_getD, List.getElem?_eq_getElem il]; rfl
    have m := mem _ (List.getElem_mem il)
    rw [e]
    unfold group
    rw [plist_of (F.up _ m) fun x hx => ?_, Bool.true_and]
    · exact decide_eq_true (by have := F.two _ m; omega)
    · have := F.rng _ m x hx
      omega
  · unfold anyX
    refine List.any_eq_false.mpr fun k hk => ?_
    have kl := List.mem_range.mp hk
    obtain ⟨i, j, e⟩ : ∃ i j, (Comb.prs (sortB rs).length)[k] = (i, j) := ⟨_, _, rfl⟩
    have ek : (Comb.prs (sortB rs).length)[k]? = some (i, j) := by rw [List.getElem?_eq_getElem kl, e]
    obtain ⟨l1, l2, _⟩ := Comb.prs_step ek
    have ed : (Comb.prs (sortB rs).length).getD k (0, 0) = (i, j) := by rw [List.getD_eq_getElem?_getD, ek]; rfl
    have il : i < (sortB rs).length := by omega
    have e1 : (sortB rs).getD i [] = (sortB rs)[i] := by rw [List.getD_eq_getElem?_getD, List.getElem?_eq_getElem il]; rfl
    have e2 : (sortB rs).getD j [] = (sortB rs)[j] := by rw [List.getD_eq_getElem?_getD, List.getElem?_eq_getElem l2]; rfl
    rw [ed]
    show ¬ crossI (maskI ((sortB rs).getD i [])) (maskI ((sortB rs).getD j [])) = true
    rw [e1, e2]
    have m1 := mem _ (List.getElem_mem il)
    have m2 := mem _ (List.getElem_mem l2)
    rw [crossI_no (F.up _ m1) (F.up _ m2) (fun x hx => (F.rng _ m1 x hx).1) (fun x hx => (F.rng _ m2 x hx).1) (F.two_nice m1 m2)]
    exact Bool.false_ne_true
end K50

namespace K50
open PySem PySem.Spec PyProof.Rows L2 SortR LcM
/-! ### both parts of each group of a family that grows newcomer by newcomer -/
def Half (rs : List (List Int)) (x : List Int) : Prop := x ∈ rs ∨ ∃ p : Int, x = [p] ∧ 0 ≤ p ∧ p ≤ (rs.length : Int)
structure Cut2 (rs : List (List Int)) (g a b : List Int) : Prop where
  ha : Half rs a
  hb : Half rs b
  mem : ∀ z, z ∈ g ↔ z ∈ a ∨ z ∈ b
  dis : ∀ z ∈ a, z ∉ b
def Bin (rs : List (List Int)) : Prop := ∀ g ∈ rs, ∃ a b, Cut2 rs g a b
theorem Cut2.swap {rs : List (List Int)} {g a b : List Int} (c : Cut2 rs g a b) : Cut2 rs g b a := ⟨c.hb, c.ha, fun z => (c.mem z).trans or_comm, fun z p q => c.dis z q p⟩
theorem up_same : ∀ {xs ys : List Int}, xs.Pairwise (· < ·) → ys.Pairwise (· < ·) → (∀ z, z ∈ xs ↔ z ∈ ys) → xs = ys
  | [], [], _, _, _ => rfl
  | [], y :: ys, _, _, h => nomatch (h y).mpr List.mem_cons_self
  | x :: xs, [], _, _, h => nomatch (h x).mp List.mem_cons_self
  | x :: xs, y :: ys, a, b, h => by
    obtain ⟨a1, a2⟩ := List.pairwise_cons.mp a
    obtain ⟨b1, b2⟩ := List.pairwise_cons.mp b
    have e : x = y := by
      rcases List.mem_cons.mp ((h x).mp List.mem_cons_self) with e | m
      · exact e
      · rcases List.mem_cons.mp ((h y).mpr List.mem_cons_self) with e | m2
        · exact e.symm
        · have := a1 _ m2
          have := b1 _ m
          omega
    subst e
    rw [up_same a2 b2 fun z => ⟨fun m => ?_, fun m => ?_⟩]
    · rcases List.mem_cons.mp ((h z).mp (List.mem_cons_of_mem _ m)) with e | q
      · subst e
        have := a1 _ m
        omega
      · exact q
    · rcases List.mem_cons.mp ((h z).mpr (List.mem_cons_of_mem _ m)) with e | q
      · subst e
        have := b1 _ m
        omega
      · exact q
theorem Half.up {rs : List (List Int)} (u : ∀ r ∈ rs, r.Pairwise (· < ·)) {x : List Int} (h : Half rs x) : x.Pairwise (· < ·) := by
  rcases h with h | ⟨p, rfl, _⟩
  · exact u _ h
  · exact List.pairwise_singleton _ _
theorem Half.ne {rs : List (List Int)} (two : ∀ r ∈ rs, 2 ≤ r.length) {x : List Int} (h : Half rs x) : ∃ z, z ∈ x := by
  rcases h with h | ⟨p, rfl, _⟩
  · have := two _ h
    cases x with
    | nil => exact absurd this (by decide)
    | cons z _ => exact ⟨z, List.mem_cons_self⟩
  · exact ⟨p, List.mem_cons_self⟩
/-- what lies nicely by all groups lies nicely by one person too -/
theorem Half.nice {rs : List (List Int)} {b x : List Int} (n : ∀ w ∈ rs, Nice b w) (h : Half rs x) : Nice b x := by
  rcases h with h | ⟨p, rfl, _⟩
  · exact n _ h
  · by_cases m : p ∈ b
    · exact .inr (.inr fun z hz => by rw [List.mem_singleton.mp hz]; exact m)
    · exact .inl fun z hz q => m (by rw [← List.mem_singleton.mp q]; exact hz)
theorem Bin.step {rs : List (List Int)} (N : Bin rs) (F : Fam rs) {item : Int} (h0 : -(rs.length : Int) ≤ item) (h1 : item ≤ rs.length) : Bin (stepB rs item) := by
  have B := F.bas h0 h1
  obtain ⟨f, ef⟩ : ∃ f : Int, f = (rs.length : Int) + 1 := ⟨_, rfl⟩
  obtain ⟨b, eb⟩ : ∃ b : List Int, b = baseB rs item := ⟨_, rfl⟩
  have es : stepB rs item = rs.map (growB f b) ++ [b ++ [f]] := by
    unfold stepB
    rw [← ef, ← eb]
  have big : ((stepB rs item).length : Int) = f := by
    rw [stepB_len, ef]
    rfl
  have B0 : Bas rs b := by rw [eb]; exact B
  have old : ∀ {x : List Int}, Half rs x → inB b x = false → Half (stepB rs item) x := fun {x} h i => by
    rcases h with h | ⟨p, rfl, p0, p1⟩
    · refine .inl ?_
      rw [es]
      refine List.mem_append.mpr (.inl (List.mem_map.mpr ⟨x, h, ?_⟩))
      unfold growB
      rw [i, if_neg Bool.false_ne_true]
    · exact .inr ⟨p, rfl, p0, by rw [big, ef]; omega⟩
  have notin : ∀ {x : List Int}, Half rs x → f ∉ x := fun {x} h z => by
    rcases h with h | ⟨p, rfl, p0, p1⟩
    · have := (F.rng x h f z).2
      omega
    · rw [List.mem_singleton] at z
      omega
  have hf : Half (stepB rs item) [f] := .inr ⟨f, rfl, by omega, by rw [big]; exact Int.le_refl _⟩
  have new : b ++ [f] ∈ stepB rs item := by
    rw [es]
    exact List.mem_append.mpr (.inr List.mem_cons_self)
  have bb : inB b b = false := by
    unfold inB
    rw [decide_eq_false (Nat.lt_irrefl _), Bool.false_and]
  have hb : Half (stepB rs item) b := by
    refine old ?_ bb
    rw [eb]
    unfold baseB
    by_cases p : 0 ≤ item
    · rw [if_pos p]
      exact .inr ⟨item, rfl, p, h1⟩
    · rw [if_neg p]
      have lt : (0 - item - 1).toNat < rs.length := by omega
      refine .inl ?_
      rw [List.getD_eq_getElem?_getD, List.getElem?_eq_getElem lt]
      exact List.getElem_mem lt
  intro r hr
  rw [es] at hr
  rcases List.mem_append.mp hr with q | q
  · obtain ⟨w, hw, e⟩ := List.mem_map.mp q
    obtain ⟨x, y, c⟩ := N w hw
    have uw := F.up w hw
    have len : ∀ {x : List Int}, Half rs x → (∀ z ∈ x, z ∈ w) → x.length ≤ w.length := fun h s => len_sub (up_nodup (h.up F.up)) s
    unfold growB at e
    cases i : inB b w with
    | false =>
      rw [i, if_neg Bool.false_ne_true] at e
      subst e
      have out : ∀ {x : List Int}, Half rs x → (∀ z ∈ x, z ∈ w) → inB b x = false := fun {x} h s => by
        cases j : inB b x with
        | false => rfl
        | true =>
          unfold inB at i j
          simp only [Bool.and_eq_true, decide_eq_true_eq] at j
          rw [decide_eq_true (show b.length < w.length by have := len h s; omega), decide_eq_true (s _ j.2)] at i
          cases i
      exact ⟨x, y, old c.ha (out c.ha fun z hz => (c.mem z).mpr (.inl hz)), old c.hb (out c.hb fun z hz => (c.mem z).mpr (.inr hz)), c.mem, c.dis⟩
    | true =>
      rw [i, if_pos rfl] at e
      subst e
      obtain ⟨sub, lt⟩ := B0.sub F hw i
      have hm := sub _ B0.head
      -- the part x is that with the head of b
      have main : ∀ x y, Cut2 rs w x y → b.headD 0 ∈ x → ∃ a b', Cut2 (stepB rs item) (w ++ [f]) a b' := fun x y c hx => by
        have ny : inB b y = false := by
          unfold inB
          rw [decide_eq_false (c.dis _ hx), Bool.and_false]
        have hy := old c.hb ny
        have memf : ∀ {a : List Int}, (∀ z, z ∈ a ↔ z ∈ x) → ∀ z, z ∈ w ++ [f] ↔ z ∈ a ++ [f] ∨ z ∈ y := fun {a} ea z => by
          rw [List.mem_append, List.mem_append, c.mem, ea]
          exact ⟨fun h => h.elim (fun h => h.elim (fun q => .inl (.inl q)) .inr) fun q => .inl (.inr q), fun h => h.elim (fun h => h.elim (fun q => .inl (.inl q)) .inr) fun q => .inl (.inr q)⟩
        have disf : ∀ {a : List Int}, (∀ z, z ∈ a ↔ z ∈ x) → ∀ z ∈ a ++ [f], z ∉ y := fun {a} ea z hz hzy => by
          rcases List.mem_append.mp hz with q | q
          · exact c.dis z ((ea z).mp q) hzy
          · rw [List.mem_singleton.mp q] at hzy
            exact notin c.hb hzy
        cases ix : inB b x with
        | true =>
          refine ⟨x ++ [f], y, .inl ?_, hy, memf fun z => Iff.rfl, disf fun z => Iff.rfl⟩
          rcases c.ha with h | ⟨p, rfl, _⟩
          · rw [es]
            refine List.mem_append.mpr (.inl (List.mem_map.mpr ⟨x, h, ?_⟩))
            unfold growB
            rw [ix, if_pos rfl]
          · unfold inB at ix
            simp only [Bool.and_eq_true, decide_eq_true_eq] at ix
            obtain ⟨h, t, e⟩ := B0.ne
            have := ix.1
            rw [e, List.length_cons, List.length_singleton] at this
            omega
        | false =>
          have lx : x.length ≤ b.length := by
            apply Classical.byContradiction
            intro l
            unfold inB at ix
            rw [decide_eq_true (show b.length < x.length by omega), decide_eq_true hx] at ix
            cases ix
          have e : ∀ z, z ∈ b ↔ z ∈ x := by
            rcases c.ha.nice B0.nice with n | n | n
            · exact absurd hx (n _ B0.head)
            · exact fun z => ⟨n z, sub_back (up_nodup B0.up) n lx z⟩
            · refine fun z => ⟨fun hz => ?_, n z⟩
              rcases (c.mem z).mp (sub z hz) with q | q
              · exact q
              · rcases c.hb.nice B0.nice with m | m | m
                · exact absurd q (m _ hz)
                · exact absurd (m _ B0.head) (c.dis _ hx)
                · have : w.length ≤ b.length := len_sub (up_nodup uw) fun z hz => ((c.mem z).mp hz).elim (n z) (m z)
                  omega
          exact ⟨b ++ [f], y, .inl new, hy, memf e, disf e⟩
      rcases (c.mem _).mp hm with q | q
      · exact main x y c q
      · exact main y x c.swap q
  · rw [List.mem_singleton.mp q]
    exact ⟨b, [f], hb, hf, fun z => List.mem_append, fun z hz q => by
      rw [List.mem_singleton.mp q] at hz
      have := (B0.rng f hz).2
      omega⟩
theorem famB_bin {is : List Int} (h : Bnd is) : ∀ n, n ≤ is.length → Bin (famB is n)
  | 0, _ => fun _ h => nomatch h
  | n + 1, hn => by
    have e : is[n]? = some is[n] := List.getElem?_eq_getElem hn
    have b := h n _ e
    have eg : is.getD n 0 = is[n] := by rw [List.getD_eq_getElem?_getD, e]; rfl
    have L := famB_len is n
    exact (famB_bin h n (Nat.le_of_succ_le hn)).step (famB_ok h n (Nat.le_of_succ_le hn)) (by rw [L, eg]; exact b.1) (by rw [L, eg]; exact b.2)
/-! ### what both_parts makes of them -/
/-- the part with the least person: the greatest one that begins alike -/
def firstN (rs : List (List Int)) (g : List Int) : Nat → List Int
  | 0 => [g.getD 0 0]
  | n + 1 => let f := firstN rs g n; let r := rs.getD n []
    if r.getD 0 0 = g.getD 0 0 ∧ f.length < r.length ∧ r.length < g.length then r else f
def firR (rs : List (List Int)) (g : List Int) : List Int := firstN rs g rs.length
def secR (rs : List (List Int)) (g : List Int) : List Int := g.filter fun x => decide (x ∉ firR rs g)
theorem firR_eq {rs : List (List Int)} {g A : List Int} (two : ∀ r ∈ rs, 2 ≤ r.length) (hA : A = [g.getD 0 0] ∨ (A ∈ rs ∧ A.getD 0 0 = g.getD 0 0 ∧ A.length < g.length))
    (k : ∀ r ∈ rs, r.getD 0 0 = g.getD 0 0 → r.length < g.length → r.length ≤ A.length ∧ (r.length = A.length → r = A)) : firR rs g = A := by
  have inv : ∀ n, n ≤ rs.length → (firstN rs g n = [g.getD 0 0] ∨ (firstN rs g n ∈ rs ∧ (firstN rs g n).getD 0 0 = g.getD 0 0 ∧ (firstN rs g n).length < g.length)) ∧
      ∀ i, i < n → (rs.getD i []).getD 0 0 = g.getD 0 0 → (rs.getD i []).length < g.length → (rs.getD i []).length ≤ (firstN rs g n).length := by
    intro n
    induction n with
    | zero => exact fun _ => ⟨.inl rfl, fun i hi => absurd hi (Nat.not_lt_zero i)⟩
    | succ n ih =>
      intro hn
      obtain ⟨a, b⟩ := ih (by omega)
      have mem : rs.getD n [] ∈ rs := by
        rw [List.getD_eq_getElem?_getD, List.getElem?_eq_getElem (by omega : n < rs.length)]
        exact List.getElem_mem _
      have e : firstN rs g (n + 1) = if (rs.getD n []).getD 0 0 = g.getD 0 0 ∧ (firstN rs g n).length < (rs.getD n []).length ∧ (rs.getD n []).length < g.length then rs.getD n [] else firstN rs g n := rfl
      rw [e]
      split
      · rename_i c
        refine ⟨.inr ⟨mem, c.1, c.2.2⟩, fun i hi h1 h2 => ?_⟩
        by_cases q : i = n
        · rw [q]
          exact Nat.le_refl _
        · have := b i (by omega) h1 h2
          omega
      · rename_i c
        refine ⟨a, fun i hi h1 h2 => ?_⟩
        by_cases q : i = n
        · subst q
          rcases Nat.lt_or_ge (firstN rs g i).length (rs.getD i []).length with l | l
          · exact absurd ⟨h1, l, h2⟩ c
          · exact l
        · exact b i (by omega) h1 h2
  obtain ⟨a, b⟩ := inv rs.length (Nat.le_refl _)
  unfold firR
  rcases hA with hA | ⟨m, h1, h2⟩
  · rcases a with a | ⟨a1, a2, a3⟩
    · rw [a, hA]
    · have := (k _ a1 a2 a3).1
      have := two _ a1
      rw [hA] at *
      simp only [List.length_cons, List.length_nil] at *
      omega
  · obtain ⟨i, hi, ei⟩ := List.getElem_of_mem m
    have ei2 : rs.getD i [] = A := by
      rw [List.getD_eq_getElem?_getD, List.getElem?_eq_getElem hi]
      exact ei
    have q := b i hi (by rw [ei2]; exact h1) (by rw [ei2]; exact h2)
    rw [ei2] at q
    rcases a with a | ⟨a1, a2, a3⟩
    · rw [a] at q
      have := two A m
      simp only [List.length_cons, List.length_nil] at q
      omega
    · have z := k _ a1 a2 a3
      exact z.2 (by omega)
/-- all that the program needs of a parting's parts -/
def halfB (rs : List (List Int)) (x : List Int) : Bool := decide (x ∈ rs) || (decide (x.length = 1) && decide (0 ≤ x.getD 0 0) && decide (x.getD 0 0 ≤ (rs.length : Int)))
def partsB (rs : List (List Int)) (g : List Int) : Bool := halfB rs (firR rs g) && halfB rs (secR rs g) && decide ((firR rs g).length < g.length) && decide ((secR rs g).length < g.length)
def hvB (rs : List (List Int)) : Bool := rs.all (partsB rs)
theorem Half.b {rs : List (List Int)} {x : List Int} (h : Half rs x) : halfB rs x = true := by
  unfold halfB
  rcases h with h | ⟨p, rfl, p0, p1⟩
  · rw [decide_eq_true h, Bool.true_or]
  · rw [show decide (([p] : List Int).length = 1) = true from rfl, decide_eq_true (show 0 ≤ ([p] : List Int).getD 0 0 from p0), decide_eq_true (show ([p] : List Int).getD 0 0 ≤ (rs.length : Int) from p1)]
    exact Bool.or_true _
theorem Half.of {rs : List (List Int)} {x : List Int} (h : halfB rs x = true) : Half rs x := by
  unfold halfB at h
  simp only [Bool.or_eq_true, Bool.and_eq_true, decide_eq_true_eq] at h
  rcases h with h | ⟨⟨l, p0⟩, p1⟩
  · exact .inl h
  · match x, l with
    | [p], _ => exact .inr ⟨p, rfl, p0, p1⟩
theorem hd_mem {xs : List Int} {z : Int} (h : z ∈ xs) : xs.getD 0 0 ∈ xs := by
  cases xs with
  | nil => cases h
  | cons x xs => exact List.mem_cons_self
theorem hd_le {xs : List Int} (u : xs.Pairwise (· < ·)) {z : Int} (h : z ∈ xs) : xs.getD 0 0 ≤ z := by
  cases xs with
  | nil => cases h
  | cons x xs =>
    rcases List.mem_cons.mp h with e | e
    · rw [e]
      exact Int.le_refl _
    · exact Int.le_of_lt ((List.pairwise_cons.mp u).1 z e)
theorem bin_parts {rs : List (List Int)} (up : ∀ r ∈ rs, r.Pairwise (· < ·)) (two : ∀ r ∈ rs, 2 ≤ r.length) (nice : ∀ a ∈ rs, ∀ b ∈ rs, Nice a b) {g a b : List Int} (hg : g ∈ rs) (c : Cut2 rs g a b) (low : g.getD 0 0 ∈ a) : firR rs g = a ∧ secR rs g = b := by
  have ua := c.ha.up up
  have ub := c.hb.up up
  have ug := up g hg
  have ag : ∀ z ∈ a, z ∈ g := fun z hz => (c.mem z).mpr (.inl hz)
  have ha0 : a.getD 0 0 = g.getD 0 0 := by
    have h1 := hd_le ua low
    have h2 := hd_le ug (ag _ (hd_mem low))
    omega
  obtain ⟨zb, hzb⟩ := c.hb.ne two
  have lt : a.length < g.length := by
    have : (zb :: a).length ≤ g.length := len_sub (List.nodup_cons.mpr ⟨fun q => c.dis _ q hzb, up_nodup ua⟩) fun w hw => by
      rcases List.mem_cons.mp hw with e | e
      · rw [e]
        exact (c.mem _).mpr (.inr hzb)
      · exact ag _ e
    rw [List.length_cons] at this
    omega
  have e1 : firR rs g = a := by
    refine firR_eq two ?_ fun r hr h1 h2 => ?_
    · rcases c.ha with h | ⟨p, rfl, _⟩
      · exact .inr ⟨h, ha0, lt⟩
      · refine .inl ?_
        rw [← ha0]
        rfl
    · have ur := up r hr
      have rne : r.getD 0 0 ∈ r := by
        have := two r hr
        cases r with
        | nil => exact absurd this (by decide)
        | cons x _ => exact List.mem_cons_self
      have gr : g.getD 0 0 ∈ r := by
        rw [← h1]
        exact rne
      have small : ¬ ∀ z ∈ g, z ∈ r := fun z => by
        have := len_sub (up_nodup ug) z
        omega
      have rg : ∀ z ∈ r, z ∈ g := by
        rcases nice r hr g hg with q | q | q
        · exact absurd (ag _ low) (q _ gr)
        · exact q
        · exact absurd q small
      have ra : ∀ z ∈ r, z ∈ a := by
        rcases c.hb.nice (nice r hr) with q | q | q
        · exact fun z hz => ((c.mem z).mp (rg z hz)).resolve_right (q z hz)
        · exact absurd (q _ gr) (c.dis _ low)
        · rcases c.ha.nice (nice r hr) with p | p | p
          · exact absurd low (p _ gr)
          · exact p
          · exact absurd (fun z hz => ((c.mem z).mp hz).elim (p z) (q z)) small
      exact ⟨len_sub (up_nodup ur) ra, fun e => up_same ur ua fun z => ⟨ra z, sub_back (up_nodup ur) ra (by omega) z⟩⟩
  refine ⟨e1, ?_⟩
  unfold secR
  rw [e1]
  refine up_same (ug.filter _) ub fun z => ?_
  rw [List.mem_filter, decide_eq_true_eq, c.mem]
  exact ⟨fun h => h.1.resolve_left h.2, fun h => ⟨.inr h, fun q => c.dis z q h⟩⟩
theorem hv_of {rs : List (List Int)} (up : ∀ r ∈ rs, r.Pairwise (· < ·)) (two : ∀ r ∈ rs, 2 ≤ r.length) (nice : ∀ a ∈ rs, ∀ b ∈ rs, Nice a b) (N : Bin rs) : hvB rs = true := by
  refine List.all_eq_true.mpr fun g hg => ?_
  obtain ⟨a, b, c⟩ := N g hg
  have main : ∀ a b, Cut2 rs g a b → g.getD 0 0 ∈ a → partsB rs g = true := fun a b c low => by
    obtain ⟨e1, e2⟩ := bin_parts up two nice hg c low
    have ag : ∀ z ∈ a, z ∈ g := fun z hz => (c.mem z).mpr (.inl hz)
    have bg : ∀ z ∈ b, z ∈ g := fun z hz => (c.mem z).mpr (.inr hz)
    have lt : ∀ x y : List Int, Half rs x → Half rs y → (∀ z ∈ x, z ∈ g) → (∀ z ∈ y, z ∈ g) → (∀ z ∈ x, z ∉ y) → x.length < g.length := fun x y hx hy xg yg dis => by
      obtain ⟨zb, hzb⟩ := hy.ne two
      have : (zb :: x).length ≤ g.length := len_sub (List.nodup_cons.mpr ⟨fun q => dis _ q hzb, up_nodup (hx.up up)⟩) fun w hw => by
        rcases List.mem_cons.mp hw with e | e
        · rw [e]
          exact yg _ hzb
        · exact xg _ e
      rw [List.length_cons] at this
      omega
    unfold partsB
    rw [e1, e2, c.ha.b, c.hb.b, decide_eq_true (lt a b c.ha c.hb ag bg c.dis), decide_eq_true (lt b a c.hb c.ha bg ag fun z p q => c.dis z q p)]
    rfl
  have gne : g.getD 0 0 ∈ g := by
    have := two g hg
    cases g with
    | nil => exact absurd this (by decide)
    | cons x _ => exact List.mem_cons_self
  rcases (c.mem _).mp gne with q | q
  · exact main a b c q
  · exact main b a c.swap q
theorem hv_fam {rs : List (List Int)} (F : Fam rs) (N : Bin rs) : hvB (sortB rs) = true := by
  have perm : (sortB rs).Perm rs := List.mergeSort_perm _ _
  have len : (sortB rs).length = rs.length := perm.length_eq
  have mem : ∀ r, r ∈ sortB rs ↔ r ∈ rs := fun r => perm.mem_iff
  have half : ∀ {x}, Half rs x → Half (sortB rs) x := fun {x} h => by
    rcases h with h | ⟨p, e, p0, p1⟩
    · exact .inl ((mem _).mpr h)
    · exact .inr ⟨p, e, p0, by rw [len]; exact p1⟩
  refine hv_of (fun r hr => F.up r ((mem r).mp hr)) (fun r hr => F.two r ((mem r).mp hr)) (fun a ha b hb => F.two_nice ((mem a).mp ha) ((mem b).mp hb)) fun g hg => ?_
  obtain ⟨a, b, c⟩ := N g ((mem g).mp hg)
  exact ⟨a, b, half c.ha, half c.hb, c.mem, c.dis⟩
end K50

namespace K50
open PySem PySem.Spec PyProof.Rows L2 SortR LcM
/-! ### partings as families that fall apart, the number of persons told -/
def Hf (m : Nat) (Rs : List (List Int)) (x : List Int) : Prop := x ∈ Rs ∨ ∃ p : Int, x = [p] ∧ 0 ≤ p ∧ p ≤ (m : Int)
structure Lam (m : Nat) (Rs : List (List Int)) : Prop where
  up : ∀ r ∈ Rs, r.Pairwise (· < ·)
  two : ∀ r ∈ Rs, 2 ≤ r.length
  rng : ∀ r ∈ Rs, ∀ x ∈ r, 0 ≤ x ∧ x ≤ (m : Int)
  nice : ∀ a ∈ Rs, ∀ b ∈ Rs, Nice a b
  bin : ∀ g ∈ Rs, ∃ a b, Hf m Rs a ∧ Hf m Rs b ∧ (∀ z, z ∈ g ↔ z ∈ a ∨ z ∈ b) ∧ ∀ z, z ∈ a → z ∉ b
  com : 1 ≤ m → ∃ g ∈ Rs, ∀ z, z ∈ g ↔ 0 ≤ z ∧ z ≤ (m : Int)
theorem Hf.up {m : Nat} {Rs : List (List Int)} (L : Lam m Rs) {x : List Int} (h : Hf m Rs x) : x.Pairwise (· < ·) := by
  rcases h with h | ⟨p, rfl, _⟩
  · exact L.up x h
  · exact List.pairwise_singleton _ _
theorem Hf.ne {m : Nat} {Rs : List (List Int)} (L : Lam m Rs) {x : List Int} (h : Hf m Rs x) : ∃ h t, x = h :: t := by
  rcases h with h | ⟨p, rfl, _⟩
  · have := L.two x h
    cases x with
    | nil => exact absurd this (by decide)
    | cons a t => exact ⟨a, t, rfl⟩
  · exact ⟨p, [], rfl⟩
theorem Hf.rng {m : Nat} {Rs : List (List Int)} (L : Lam m Rs) {x : List Int} (h : Hf m Rs x) : ∀ z ∈ x, 0 ≤ z ∧ z ≤ (m : Int) := by
  rcases h with h | ⟨p, rfl, p0, p1⟩
  · exact L.rng x h
  · intro z hz
    rw [List.mem_singleton.mp hz]
    exact ⟨p0, p1⟩
theorem Hf.nice {m : Nat} {Rs : List (List Int)} (L : Lam m Rs) {x r : List Int} (h : Hf m Rs x) (hr : r ∈ Rs) : Nice x r := by
  rcases h with h | ⟨p, rfl, _⟩
  · exact L.nice x h r hr
  · by_cases z : p ∈ r
    · exact .inr (.inl fun y hy => by rw [List.mem_singleton.mp hy]; exact z)
    · exact .inl fun y hy => by rw [List.mem_singleton.mp hy]; exact z
/-! ### a person leaves, the others are called anew -/
def exK (k z : Int) : Int := if z < k then z else z + 1
def rnK (k x : Int) : Int := if x < k then x else x - 1
def ckR (k : Int) (r : List Int) : List Int := (r.filter fun x => decide (x ≠ k)).map (rnK k)
theorem ck_mem {k z : Int} {r : List Int} : z ∈ ckR k r ↔ exK k z ∈ r := by
  unfold ckR
  rw [List.mem_map]
  constructor
  · rintro ⟨x, hx, e⟩
    obtain ⟨hx, n⟩ := List.mem_filter.mp hx
    have n := of_decide_eq_true n
    have : exK k z = x := by
      rw [← e]
      unfold exK rnK
      by_cases c : x < k
      · rw [if_pos c, if_pos c]
      · rw [if_neg c, if_neg (show ¬ x - 1 < k by omega)]
        omega
    rw [this]
    exact hx
  · intro h
    refine ⟨exK k z, List.mem_filter.mpr ⟨h, decide_eq_true ?_⟩, ?_⟩
    · unfold exK
      split <;> omega
    · unfold exK rnK
      by_cases c : z < k
      · rw [if_pos c, if_pos c]
      · rw [if_neg c, if_neg (show ¬ z + 1 < k by omega)]
        omega
theorem ck_up {k : Int} {r : List Int} (u : r.Pairwise (· < ·)) : (ckR k r).Pairwise (· < ·) := by
  unfold ckR
  rw [List.pairwise_map]
  refine (u.filter _).imp_of_mem fun {a b} ha hb h => ?_
  have na := of_decide_eq_true (List.mem_filter.mp ha).2
  have nb := of_decide_eq_true (List.mem_filter.mp hb).2
  unfold rnK
  split <;> split <;> omega
theorem ck_nice {k : Int} {r s : List Int} (n : Nice r s) : Nice (ckR k r) (ckR k s) := by
  rcases n with n | n | n
  · exact .inl fun z hz h => n _ (ck_mem.mp hz) (ck_mem.mp h)
  · exact .inr (.inl fun z hz => ck_mem.mpr (n _ (ck_mem.mp hz)))
  · exact .inr (.inr fun z hz => ck_mem.mpr (n _ (ck_mem.mp hz)))
theorem len_two {x : List Int} {p q : Int} (hp : p ∈ x) (hq : q ∈ x) (n : p ≠ q) : 2 ≤ x.length := by
  have z := len_sub (xs := [p, q]) (ys := x) (by simp [n]) fun y hy => by
    simp only [List.mem_cons, List.not_mem_nil, or_false] at hy
    rcases hy with rfl | rfl
    · exact hp
    · exact hq
  exact z
theorem one_of {x : List Int} {h : Int} {t : List Int} (e : x = h :: t) (l : x.length < 2) : x = [h] := by
  rw [e, List.length_cons] at l
  have : t = [] := List.length_eq_zero_iff.mp (by omega)
  rw [e, this]
section
variable {m : Nat} {Rs Rs' : List (List Int)} {k : Int}
theorem Hf.cut (L : Lam m Rs) (h0 : 0 ≤ k) (h1 : k ≤ (m : Int)) (m1 : 1 ≤ m) (mem : ∀ r', r' ∈ Rs' ↔ 2 ≤ r'.length ∧ ∃ r ∈ Rs, r' = ckR k r) {x : List Int} (h : Hf m Rs x) {p : Int} (hp : p ∈ ckR k x) : Hf (m - 1) Rs' (ckR k x) := by
  rcases Nat.lt_or_ge (ckR k x).length 2 with l | l
  · have e : ∃ a t, ckR k x = a :: t := by
      cases z : ckR k x with
      | nil => rw [z] at hp; cases hp
      | cons a t => exact ⟨a, t, rfl⟩
    obtain ⟨a, t, e⟩ := e
    have o := one_of e l
    rw [o] at hp ⊢
    have ha : a ∈ ckR k x := by rw [o]; exact List.mem_cons_self
    have r := h.rng L _ (ck_mem.mp ha)
    refine .inr ⟨a, rfl, ?_⟩
    unfold exK at r
    split at r <;> omega
  · rcases h with h | ⟨q, rfl, _⟩
    · exact .inl ((mem _).mpr ⟨l, x, h, rfl⟩)
    · unfold ckR at l
      rw [List.length_map] at l
      have := List.length_filter_le (fun x => decide (x ≠ k)) [q]
      simp only [List.length_cons, List.length_nil] at this
      omega
theorem Lam.cut (L : Lam m Rs) (h0 : 0 ≤ k) (h1 : k ≤ (m : Int)) (m1 : 1 ≤ m) (mem : ∀ r', r' ∈ Rs' ↔ 2 ≤ r'.length ∧ ∃ r ∈ Rs, r' = ckR k r) : Lam (m - 1) Rs' := by
  have binK : ∀ n : Nat, ∀ g ∈ Rs, g.length ≤ n → 2 ≤ (ckR k g).length → ∃ a b, Hf (m - 1) Rs' a ∧ Hf (m - 1) Rs' b ∧ (∀ z, z ∈ ckR k g ↔ z ∈ a ∨ z ∈ b) ∧ ∀ z, z ∈ a → z ∉ b := by
    intro n
    induction n with
    | zero =>
      intro g hg l _
      have := L.two g hg
      omega
    | succ n ih =>
      intro g hg l l2
      obtain ⟨a, b, ha, hb, ab, dis⟩ := L.bin g hg
      have part : ∀ {x y : List Int}, Hf m Rs x → Hf m Rs y → (∀ z, z ∈ g ↔ z ∈ x ∨ z ∈ y) → (∀ z, z ∈ x → z ∉ y) → (∀ z, z ∉ ckR k y) → ∃ a b, Hf (m - 1) Rs' a ∧ Hf (m - 1) Rs' b ∧ (∀ z, z ∈ ckR k g ↔ z ∈ a ∨ z ∈ b) ∧ ∀ z, z ∈ a → z ∉ b := fun {x y} hx hy xy dis no => by
        have same : ckR k g = ckR k x := up_same (ck_up (L.up g hg)) (ck_up (hx.up L)) fun z => by
          rw [ck_mem, ck_mem, xy]
          exact ⟨fun h => h.resolve_right fun q => no z (ck_mem.mpr q), .inl⟩
        rw [same] at l2 ⊢
        rcases hx with hx | ⟨q, rfl, _⟩
        · obtain ⟨u, t, eu⟩ := hy.ne L
          have uy : u ∈ y := by rw [eu]; exact List.mem_cons_self
          have lt : x.length < g.length := by
            have q := len_sub (xs := u :: x) (ys := g) (List.nodup_cons.mpr ⟨fun z => dis u z uy, up_nodup (L.up x hx)⟩) fun z hz => by
              rcases List.mem_cons.mp hz with e | e
              · rw [e]
                exact (xy u).mpr (.inr uy)
              · exact (xy z).mpr (.inl e)
            rw [List.length_cons] at q
            omega
          exact ih x hx (by omega) l2
        · unfold ckR at l2
          rw [List.length_map] at l2
          have := List.length_filter_le (fun x => decide (x ≠ k)) [q]
          simp only [List.length_cons, List.length_nil] at this
          omega
      by_cases ea : ∃ z, z ∈ ckR k a
      · by_cases eb : ∃ z, z ∈ ckR k b
        · obtain ⟨p, hp⟩ := ea
          obtain ⟨q, hq⟩ := eb
          refine ⟨ckR k a, ckR k b, ha.cut L h0 h1 m1 mem hp, hb.cut L h0 h1 m1 mem hq, fun z => ?_, fun z h1 h2 => dis _ (ck_mem.mp h1) (ck_mem.mp h2)⟩
          rw [ck_mem, ck_mem, ck_mem, ab]
        · exact part ha hb ab dis fun z hz => eb ⟨z, hz⟩
      · exact part hb ha (fun z => (ab z).trans or_comm) (fun z h1 h2 => dis z h2 h1) fun z hz => ea ⟨z, hz⟩
  refine ⟨fun r hr => ?_, fun r hr => ((mem r).mp hr).1, fun r hr x hx => ?_, fun a ha b hb => ?_, fun g hg => ?_, fun m2 => ?_⟩
  · obtain ⟨_, s, hs, rfl⟩ := (mem r).mp hr
    exact ck_up (L.up s hs)
  · obtain ⟨_, s, hs, rfl⟩ := (mem r).mp hr
    have r := L.rng s hs _ (ck_mem.mp hx)
    unfold exK at r
    split at r <;> omega
  · obtain ⟨_, s, hs, rfl⟩ := (mem a).mp ha
    obtain ⟨_, t, ht, rfl⟩ := (mem b).mp hb
    exact ck_nice (L.nice s hs t ht)
  · obtain ⟨l, s, hs, rfl⟩ := (mem g).mp hg
    exact binK s.length s hs (Nat.le_refl _) l
  · obtain ⟨g, hg, all⟩ := L.com m1
    have hz : ∀ z : Int, z ∈ ckR k g ↔ 0 ≤ z ∧ z ≤ ((m - 1 : Nat) : Int) := fun z => by
      rw [ck_mem, all]
      unfold exK
      split <;> omega
    refine ⟨ckR k g, (mem _).mpr ⟨len_two (p := 0) (q := 1) ((hz 0).mpr (by omega)) ((hz 1).mpr (by omega)) (by decide), g, hg, rfl⟩, hz⟩
end
end K50

namespace K50
open PySem PySem.Spec PyProof.Rows L2 SortR LcM
/-! ### what comes newcomer by newcomer is such a family -/
theorem com_all {is : List Int} (b : Bnd is) : ∀ n, 1 ≤ n → n ≤ is.length → ∃ g ∈ famB is n, ∀ z, z ∈ g ↔ 0 ≤ z ∧ z ≤ (n : Int)
  | 0, h, _ => absurd h (by decide)
  | n + 1, _, hn => by
    have e : is[n]? = some is[n] := List.getElem?_eq_getElem hn
    have bd := b n _ e
    have eg : is.getD n 0 = is[n] := by rw [List.getD_eq_getElem?_getD, e]; rfl
    have L := famB_len is n
    have F := famB_ok b n (Nat.le_of_succ_le hn)
    obtain ⟨item, ei⟩ : ∃ item, item = is.getD n 0 := ⟨_, rfl⟩
    have B : Bas (famB is n) (baseB (famB is n) item) := F.bas (by rw [L, ei, eg]; exact bd.1) (by rw [L, ei, eg]; exact bd.2)
    show ∃ g ∈ stepB (famB is n) (is.getD n 0), _
    rw [← ei]
    unfold stepB
    obtain ⟨q, eq⟩ : ∃ q, q = baseB (famB is n) item := ⟨_, rfl⟩
    rw [← eq] at B ⊢
    rw [L]
    have whole : (∀ z, 0 ≤ z ∧ z ≤ (n : Int) → z ∈ q) → ∀ z, z ∈ q ++ [(n : Int) + 1] ↔ 0 ≤ z ∧ z ≤ ((n + 1 : Nat) : Int) := fun h z => by
      rw [List.mem_append, List.mem_singleton]
      constructor
      · rintro (m | m)
        · have r := B.rng z m
          rw [L] at r
          omega
        · omega
      · intro r
        rcases Int.lt_or_le z ((n : Int) + 1) with l | l
        · exact .inl (h z ⟨r.1, by omega⟩)
        · exact .inr (by omega)
    rcases Nat.eq_zero_or_pos n with z | pos
    · refine ⟨q ++ [(n : Int) + 1], List.mem_append.mpr (.inr List.mem_cons_self), whole fun y hy => ?_⟩
      obtain ⟨h, t, eh⟩ := B.ne
      have m : h ∈ q := by rw [eh]; exact List.mem_cons_self
      have r := B.rng h m
      rw [L] at r
      have : y = h := by omega
      rw [this]
      exact m
    · obtain ⟨G, hG, all⟩ := com_all b n pos (Nat.le_of_succ_le hn)
      have sub : ∀ z ∈ q, z ∈ G := fun z hz => by
        have r := B.rng z hz
        rw [L] at r
        exact (all z).mpr r
      rcases Nat.lt_or_ge q.length G.length with l | l
      · refine ⟨G ++ [(n : Int) + 1], List.mem_append.mpr (.inl (List.mem_map.mpr ⟨G, hG, ?_⟩)), fun z => ?_⟩
        · unfold growB inB
          rw [decide_eq_true l, decide_eq_true (sub _ B.head)]
          rfl
        · rw [List.mem_append, List.mem_singleton, all]
          omega
      · exact ⟨q ++ [(n : Int) + 1], List.mem_append.mpr (.inr List.mem_cons_self), whole fun z hz => sub_back (up_nodup B.up) sub l z ((all z).mpr hz)⟩
theorem lam_fam {is : List Int} (b : Bnd is) {n : Nat} (hn : n ≤ is.length) : Lam n (famB is n) := by
  have F := famB_ok b n hn
  have L := famB_len is n
  refine ⟨F.up, F.two, fun r hr x hx => ?_, fun x hx y hy => F.two_nice hx hy, fun g hg => ?_, fun h1 => com_all b n h1 hn⟩
  · have := F.rng r hr x hx
    rw [L] at this
    exact this
  · obtain ⟨x, y, c⟩ := famB_bin b n hn g hg
    have h : ∀ {z : List Int}, Half (famB is n) z → Hf n (famB is n) z := fun {z} h => by
      unfold Half at h
      rw [L] at h
      exact h
    exact ⟨x, y, h c.ha, h c.hb, c.mem, fun z hz => c.dis z hz⟩
theorem hd_is {x : List Int} {h : Int} {t : List Int} (e : x = h :: t) : x.headD 0 = h := by rw [e]; rfl
/-- the last person is beside something -/
theorem Lam.last {m : Nat} {Rs R0 : List (List Int)} (L : Lam m Rs) (m1 : 1 ≤ m) (mem : ∀ r', r' ∈ R0 ↔ 2 ≤ r'.length ∧ ∃ r ∈ Rs, r' = ckR (m : Int) r) :
    ∃ s, Hf (m - 1) R0 s ∧ ∀ r, r ∈ Rs ↔ r = s ++ [(m : Int)] ∨ ∃ w ∈ R0, r = growB (m : Int) s w := by
  -- the least group with the last person
  have least : ∀ n : Nat, ∀ g ∈ Rs, (m : Int) ∈ g → g.length ≤ n → ∃ g0 ∈ Rs, (m : Int) ∈ g0 ∧ ∀ r ∈ Rs, (m : Int) ∈ r → g0.length ≤ r.length := by
    intro n
    induction n with
    | zero =>
      intro g hg _ l
      have := L.two g hg
      omega
    | succ n ih =>
      intro g hg hm l
      by_cases c : ∃ r ∈ Rs, (m : Int) ∈ r ∧ r.length < g.length
      · obtain ⟨r, hr, rm, rl⟩ := c
        exact ih r hr rm (by omega)
      · refine ⟨g, hg, hm, fun r hr rm => ?_⟩
        rcases Nat.lt_or_ge r.length g.length with z | z
        · exact absurd ⟨r, hr, rm, z⟩ c
        · exact z
  obtain ⟨G, hG, all⟩ := L.com m1
  obtain ⟨g0, hg0, mg, low⟩ := least G.length G hG ((all _).mpr (by omega)) (Nat.le_refl _)
  have ug := L.up g0 hg0
  obtain ⟨s, hs, sg, ns⟩ : ∃ s, Hf m Rs s ∧ (∀ z, z ∈ g0 ↔ z ∈ s ∨ z = (m : Int)) ∧ (m : Int) ∉ s := by
    obtain ⟨a, b, ha, hb, ab, dis⟩ := L.bin g0 hg0
    have pick : ∀ {a b : List Int}, Hf m Rs a → Hf m Rs b → (∀ z, z ∈ g0 ↔ z ∈ a ∨ z ∈ b) → (∀ z, z ∈ a → z ∉ b) → (m : Int) ∈ a → ∃ s, Hf m Rs s ∧ (∀ z, z ∈ g0 ↔ z ∈ s ∨ z = (m : Int)) ∧ (m : Int) ∉ s := fun {a b} ha hb ab dis ma => by
      rcases ha with ha | ⟨p, rfl, _⟩
      · exfalso
        obtain ⟨u, t, eu⟩ := hb.ne L
        have ub : u ∈ b := by rw [eu]; exact List.mem_cons_self
        have q := len_sub (xs := u :: a) (ys := g0) (List.nodup_cons.mpr ⟨fun z => dis u z ub, up_nodup (L.up a ha)⟩) fun z hz => by
          rcases List.mem_cons.mp hz with e | e
          · rw [e]
            exact (ab u).mpr (.inr ub)
          · exact (ab z).mpr (.inl e)
        rw [List.length_cons] at q
        have := low a ha ma
        omega
      · have pm := List.mem_singleton.mp ma
        refine ⟨b, hb, fun z => ?_, dis _ ma⟩
        rw [ab, List.mem_singleton, ← pm]
        exact or_comm
    rcases (ab _).mp mg with z | z
    · exact pick ha hb ab dis z
    · exact pick hb ha (fun z => (ab z).trans or_comm) (fun z h1 h2 => dis z h2 h1) z
  have us := hs.up L
  obtain ⟨hd, tl, esd⟩ := hs.ne L
  have hds : hd ∈ s := by rw [esd]; exact List.mem_cons_self
  have below : ∀ {r : List Int}, r ∈ Rs → ∀ z ∈ r, z ≠ (m : Int) → z < (m : Int) := fun {r} hr z hz n => by
    have := (L.rng r hr z hz).2
    omega
  have lastS : (s ++ [(m : Int)]).Pairwise (· < ·) := List.pairwise_append.mpr ⟨us, List.pairwise_singleton _ _, fun x hx y hy => by
    rw [List.mem_singleton.mp hy]
    have := (hs.rng L x hx).2
    have : x ≠ (m : Int) := fun z => ns (by rw [← z]; exact hx)
    omega⟩
  have g0s : g0 = s ++ [(m : Int)] := up_same ug lastS fun z => by
    rw [sg, List.mem_append, List.mem_singleton]
  have g0l : g0.length = s.length + 1 := by rw [g0s, List.length_append]; rfl
  have ck : ∀ {r : List Int}, (∀ z ∈ r, z ≤ (m : Int)) → ∀ z, z ∈ ckR (m : Int) r ↔ z ∈ r ∧ z ≠ (m : Int) := fun {r} hr z => by
    rw [ck_mem]
    unfold exK
    by_cases c : z < (m : Int)
    · rw [if_pos c]
      exact ⟨fun h => ⟨h, by omega⟩, fun h => h.1⟩
    · rw [if_neg c]
      constructor
      · intro h
        have := hr _ h
        omega
      · intro h
        have := hr z h.1
        omega
  have lim : ∀ {r : List Int}, r ∈ Rs → ∀ z ∈ r, z ≤ (m : Int) := fun {r} hr z hz => (L.rng r hr z hz).2
  have stay : ∀ {r : List Int}, r ∈ Rs → (m : Int) ∉ r → ckR (m : Int) r = r := fun {r} hr n => up_same (ck_up (L.up r hr)) (L.up r hr) fun z => by
    rw [ck (lim hr)]
    exact ⟨fun h => h.1, fun h => ⟨h, fun e => n (by rw [← e]; exact h)⟩⟩
  have fwd : ∀ {r : List Int}, r ∈ Rs → r = g0 ∨ (ckR (m : Int) r ∈ R0 ∧ r = growB (m : Int) s (ckR (m : Int) r)) := fun {r} hr => by
    by_cases mr : (m : Int) ∈ r
    · rcases L.nice r hr g0 hg0 with n | n | n
      · exact absurd mg (n _ mr)
      · refine .inl (up_same (L.up r hr) ug fun z => ⟨n z, sub_back (up_nodup (L.up r hr)) n (low r hr mr) z⟩)
      · rcases Nat.lt_or_ge g0.length r.length with l | l
        · have w := ck (lim hr)
          have el : r.length = (ckR (m : Int) r).length + 1 := by
            have e : r = ckR (m : Int) r ++ [(m : Int)] := by
              refine up_same (L.up r hr) (List.pairwise_append.mpr ⟨ck_up (L.up r hr), List.pairwise_singleton _ _, fun x hx y hy => ?_⟩) fun z => ?_
              · rw [List.mem_singleton.mp hy]
                have q := (w x).mp hx
                exact below hr x q.1 q.2
              · rw [List.mem_append, w, List.mem_singleton]
                constructor
                · intro h
                  by_cases c : z = (m : Int)
                  · exact .inr c
                  · exact .inl ⟨h, c⟩
                · rintro (h | h)
                  · exact h.1
                  · rw [h]
                    exact mr
            have := congrArg List.length e
            rw [List.length_append] at this
            exact this
          have g2 := L.two g0 hg0
          refine .inr ⟨(mem _).mpr ⟨by omega, r, hr, rfl⟩, ?_⟩
          unfold growB inB
          have hin : s.headD 0 ∈ ckR (m : Int) r := by
            rw [hd_is esd]
            exact (w hd).mpr ⟨n _ ((sg hd).mpr (.inl hds)), fun e => ns (by rw [← e]; exact hds)⟩
          rw [decide_eq_true (show s.length < (ckR (m : Int) r).length by omega), decide_eq_true hin]
          show r = ckR (m : Int) r ++ [(m : Int)]
          refine up_same (L.up r hr) (List.pairwise_append.mpr ⟨ck_up (L.up r hr), List.pairwise_singleton _ _, fun x hx y hy => ?_⟩) fun z => ?_
          · rw [List.mem_singleton.mp hy]
            have q := (w x).mp hx
            exact below hr x q.1 q.2
          · rw [List.mem_append, w, List.mem_singleton]
            constructor
            · intro h
              by_cases c : z = (m : Int)
              · exact .inr c
              · exact .inl ⟨h, c⟩
            · rintro (h | h)
              · exact h.1
              · rw [h]
                exact mr
        · exact .inl (up_same (L.up r hr) ug fun z => ⟨sub_back (up_nodup ug) n l z, n z⟩)
    · have e := stay hr mr
      rw [e]
      refine .inr ⟨(mem _).mpr ⟨L.two r hr, r, hr, e.symm⟩, ?_⟩
      have no : inB s r = false := by
        unfold inB
        by_cases c1 : s.length < r.length
        · by_cases c2 : s.headD 0 ∈ r
          · exfalso
            rw [hd_is esd] at c2
            rcases L.nice r hr g0 hg0 with n | n | n
            · exact n _ c2 ((sg hd).mpr (.inl hds))
            · have q := len_sub (up_nodup (L.up r hr)) (ys := s) fun z hz => ((sg z).mp (n z hz)).resolve_right fun e => mr (by rw [← e]; exact hz)
              omega
            · exact mr (n _ mg)
          · rw [decide_eq_false c2, Bool.and_false]
        · rw [decide_eq_false c1, Bool.false_and]
      unfold growB
      rw [no]
      rfl
  have sIn : 2 ≤ s.length → s ∈ Rs := fun l => by
    rcases hs with h | ⟨p, rfl, _⟩
    · exact h
    · exact absurd l (by show ¬ 2 ≤ 1; decide)
  refine ⟨s, ?_, fun r => ⟨fun hr => ?_, fun h => ?_⟩⟩
  · rcases hs with h | ⟨p, rfl, p0, p1⟩
    · exact .inl ((mem _).mpr ⟨L.two s h, s, h, (stay h ns).symm⟩)
    · refine .inr ⟨p, rfl, p0, ?_⟩
      have : p ≠ (m : Int) := fun z => ns (by rw [z]; exact List.mem_cons_self)
      omega
  · rcases fwd hr with h | ⟨h1, h2⟩
    · exact .inl (h.trans g0s)
    · exact .inr ⟨_, h1, h2⟩
  · rcases h with h | ⟨w, hw, h⟩
    · rw [h, ← g0s]
      exact hg0
    · obtain ⟨wl, r0, hr0, ew⟩ := (mem w).mp hw
      rcases fwd hr0 with e | ⟨_, e⟩
      · have ws : w = s := by
          rw [ew, e]
          refine up_same (ck_up ug) us fun z => ?_
          rw [ck (lim hg0), sg]
          constructor
          · rintro ⟨h1 | h1, h2⟩
            · exact h1
            · exact absurd h1 h2
          · exact fun h1 => ⟨.inl h1, fun z => ns (by rw [← z]; exact h1)⟩
        rw [h, ws]
        have no : inB s s = false := by
          unfold inB
          rw [decide_eq_false (Nat.lt_irrefl _), Bool.false_and]
        unfold growB
        rw [no]
        exact sIn (by rw [← ws]; exact wl)
      · rw [h, ew, ← e]
        exact hr0
/-- only the first items count -/
theorem famB_take {is js : List Int} : ∀ n, (∀ j, j < n → is.getD j 0 = js.getD j 0) → famB is n = famB js n
  | 0, _ => rfl
  | n + 1, h => by
    show stepB (famB is n) (is.getD n 0) = stepB (famB js n) (js.getD n 0)
    rw [famB_take n fun j hj => h j (Nat.lt_succ_of_lt hj), h n (Nat.lt_succ_self n)]
/-- such a family comes newcomer by newcomer -/
theorem Lam.is : ∀ {m : Nat} {Rs : List (List Int)}, Lam m Rs → ∃ is : List Int, is.length = m ∧ Bnd is ∧ ∀ r, r ∈ Rs ↔ r ∈ famB is m
  | 0, Rs, L => by
    refine ⟨[], rfl, (fun j x e => by rw [List.getElem?_nil] at e; cases e), fun r => ⟨fun hr => ?_, fun h => nomatch h⟩⟩
    have l := L.two r hr
    have q := len_sub (up_nodup (L.up r hr)) (ys := [0]) fun z hz => by
      have := L.rng r hr z hz
      rw [List.mem_singleton]
      omega
    exact absurd (Nat.le_trans l q) (by decide)
  | m + 1, Rs, L => by
    obtain ⟨R0, e0⟩ : ∃ R0, R0 = (Rs.map (ckR ((m + 1 : Nat) : Int))).filter fun r => decide (2 ≤ r.length) := ⟨_, rfl⟩
    have mem : ∀ r', r' ∈ R0 ↔ 2 ≤ r'.length ∧ ∃ r ∈ Rs, r' = ckR ((m + 1 : Nat) : Int) r := fun r' => by
      rw [e0, List.mem_filter, decide_eq_true_eq, List.mem_map]
      constructor
      · rintro ⟨⟨r, hr, e⟩, l⟩
        exact ⟨l, r, hr, e.symm⟩
      · rintro ⟨l, r, hr, e⟩
        exact ⟨⟨r, hr, e.symm⟩, l⟩
    have L0 : Lam m R0 := L.cut (k := ((m + 1 : Nat) : Int)) (by omega) (Int.le_refl _) (by omega) mem
    obtain ⟨is, il, ib, im⟩ := L0.is
    obtain ⟨s, hs, rows⟩ := L.last (by omega) mem
    have fl := famB_len is m
    obtain ⟨item, i0, i1, eb⟩ : ∃ item : Int, -(m : Int) ≤ item ∧ item ≤ (m : Int) ∧ baseB (famB is m) item = s := by
      rcases hs with h | ⟨p, rfl, p0, p1⟩
      · obtain ⟨j, hj, ej⟩ := List.getElem_of_mem ((im s).mp h)
        rw [fl] at hj
        refine ⟨-(j : Int) - 1, by omega, by omega, ?_⟩
        unfold baseB
        rw [if_neg (by omega), show (0 - (-(j : Int) - 1) - 1).toNat = j by omega, List.getD_eq_getElem?_getD, List.getElem?_eq_getElem (by rw [fl]; exact hj)]
        exact ej
      · refine ⟨p, by omega, by omega, ?_⟩
        unfold baseB
        rw [if_pos p0]
    have same : famB (is ++ [item]) m = famB is m := famB_take m fun j hj => by
      rw [List.getD_eq_getElem?_getD, List.getD_eq_getElem?_getD, List.getElem?_append_left (by omega)]
    have at_m : (is ++ [item]).getD m 0 = item := by
      rw [List.getD_eq_getElem?_getD, List.getElem?_append_right (by omega), il, Nat.sub_self]
      rfl
    refine ⟨is ++ [item], by rw [List.length_append, il]; rfl, ib.add (by rw [il]; exact i0) (by rw [il]; exact i1), fun r => ?_⟩
    show _ ↔ r ∈ stepB (famB (is ++ [item]) m) ((is ++ [item]).getD m 0)
    rw [same, at_m]
    unfold stepB
    rw [eb, fl, List.mem_append, List.mem_map, List.mem_singleton, rows, show ((m + 1 : Nat) : Int) = (m : Int) + 1 from rfl]
    constructor
    · rintro (h | ⟨w, hw, h⟩)
      · exact .inr h
      · exact .inl ⟨w, (im w).mp hw, h.symm⟩
    · rintro (⟨w, hw, h⟩ | h)
      · exact .inr ⟨w, (im w).mpr hw, h.symm⟩
      · exact .inl h
end K50

namespace K50
open PySem PySem.Spec PyProof.Rows L2 SortR LcM TL
/-! ### a parting as a tree, and its text -/
inductive Tr where
  | leaf (p : Int)
  | node (a b : Tr)
def numS (p : Int) : Str := Str.ofString (toString p)
def Tr.txt : Tr → Str
  | .leaf p => numS p
  | .node a b => Str.ofString "(" ++ a.txt ++ Str.ofString " " ++ b.txt ++ Str.ofString ")"
def Tr.words : Tr → List Str
  | .leaf p => [numS p]
  | .node a b => Str.ofString "(" :: (a.words ++ b.words ++ [Str.ofString ")"])
def Tr.lv : Tr → List Int
  | .leaf p => [p]
  | .node a b => a.lv ++ b.lv
/-- the groups, each behind its parts -/
def Tr.gs : Tr → List (List Int)
  | .leaf _ => []
  | .node a b => a.gs ++ b.gs ++ [a.lv ++ b.lv]
def Tr.ok : Tr → Prop
  | .leaf p => 0 ≤ p ∧ p ≤ 19
  | .node a b => a.ok ∧ b.ok
theorem Tr.words_ne : ∀ t : Tr, t.words ≠ []
  | .leaf _ => by simp [Tr.words]
  | .node _ _ => by simp [Tr.words]
def e1 (l : List Nat) : List Nat := l.flatMap fun c => if c = 40 then [40, 32] else [c]
def e2 (l : List Nat) : List Nat := l.flatMap fun c => if c = 41 then [32, 41] else [c]
theorem repl1 (y : Nat) (z : List Nat) : ∀ l : List Nat, StrLaws.replL [y] z l = l.flatMap fun c => if c = y then z else [c]
  | [] => by
    rw [StrLaws.replL_nil]
    rfl
  | c :: r => by
    have ih := repl1 y z r
    rw [List.flatMap_cons, ← ih]
    by_cases h : c = y
    · subst h
      rw [StrLaws.replL_hit (by simp) (by simp), if_pos rfl]
      rfl
    · rw [StrLaws.replL_miss (by simpa using h), if_neg h]
      rfl
theorem num_tl {p : Int} (h : 0 ≤ p) : tl (numS p) = numL p.toNat := by
  obtain ⟨n, rfl⟩ := Int.eq_ofNat_of_zero_le h
  exact tl_num n
theorem e_num (n : Nat) : e2 (e1 (numL n)) = numL n := by
  have f : ∀ (l : List Nat), (∀ c ∈ l, c ≠ 40) → e1 l = l := fun l h => by
    unfold e1
    induction l with
    | nil => rfl
    | cons c r ih =>
      rw [List.flatMap_cons, if_neg (h c List.mem_cons_self), ih fun d hd => h d (List.mem_cons_of_mem _ hd)]
      rfl
  have g : ∀ (l : List Nat), (∀ c ∈ l, c ≠ 41) → e2 l = l := fun l h => by
    unfold e2
    induction l with
    | nil => rfl
    | cons c r ih =>
      rw [List.flatMap_cons, if_neg (h c List.mem_cons_self), ih fun d hd => h d (List.mem_cons_of_mem _ hd)]
      rfl
  rw [f _ fun c hc e => by rw [e] at hc; exact numL_free (by decide) hc, g _ fun c hc e => by rw [e] at hc; exact numL_free (by decide) hc]
theorem e1_app (x y : List Nat) : e1 (x ++ y) = e1 x ++ e1 y := List.flatMap_append ..
theorem e2_app (x y : List Nat) : e2 (x ++ y) = e2 x ++ e2 y := List.flatMap_append ..
theorem join_app (S : List Nat) : ∀ {xs ys : List (List Nat)}, xs ≠ [] → ys ≠ [] → joinL S (xs ++ ys) = joinL S xs ++ (S ++ joinL S ys)
  | [], _, h, _ => absurd rfl h
  | [x], [], _, h => absurd rfl h
  | [x], y :: ys, _, _ => rfl
  | x :: z :: r, ys, _, h => by
    show x ++ (S ++ joinL S (z :: r ++ ys)) = x ++ (S ++ joinL S (z :: r)) ++ (S ++ joinL S ys)
    rw [join_app S (xs := z :: r) (by simp) h]
    simp [List.append_assoc]
theorem txt_words : ∀ t : Tr, t.ok → e2 (e1 (tl t.txt)) = joinL [32] (t.words.map tl)
  | .leaf p, h => by
    show e2 (e1 (tl (numS p))) = tl (numS p)
    rw [num_tl h.1]
    exact e_num _
  | .node a b, h => by
    have iha := txt_words a h.1
    have ihb := txt_words b h.2
    have wa := a.words_ne
    have wb := b.words_ne
    have o : tl (Str.ofString "(") = [40] := by decide
    have s : tl (Str.ofString " ") = [32] := by decide
    have c : tl (Str.ofString ")") = [41] := by decide
    show e2 (e1 (tl (Str.ofString "(" ++ a.txt ++ Str.ofString " " ++ b.txt ++ Str.ofString ")"))) = joinL [32] ((Str.ofString "(" :: (a.words ++ b.words ++ [Str.ofString ")"])).map tl)
    rw [tl_append, tl_append, tl_append, tl_append, o, s, c, e1_app, e1_app, e1_app, e1_app, e2_app, e2_app, e2_app, e2_app, iha, ihb]
    rw [show Str.ofString "(" :: (a.words ++ b.words ++ [Str.ofString ")"]) = [Str.ofString "("] ++ (a.words ++ b.words ++ [Str.ofString ")"]) from rfl, List.map_append, List.map_append, List.map_append, List.map_singleton, List.map_singleton, o, c]
    have wa' : a.words.map tl ≠ [] := fun z => wa (List.map_eq_nil_iff.mp z)
    have wb' : b.words.map tl ≠ [] := fun z => wb (List.map_eq_nil_iff.mp z)
    rw [join_app _ (by simp) (by simp [wa']), join_app _ (by simp [wa']) (by simp), join_app _ wa' wb']
    simp [e1, e2, joinL, List.append_assoc]
/-- the words of a text, its brackets set apart -/
theorem split_txt {t : Tr} (h : t.ok) : Txt.split (Txt.replace (Txt.replace t.txt (Str.ofString "(") (Str.ofString "( ")) (Str.ofString ")") (Str.ofString " )")) (Str.ofString " ") = t.words := by
  have e : Txt.replace (Txt.replace t.txt (Str.ofString "(") (Str.ofString "( ")) (Str.ofString ")") (Str.ofString " )") = Txt.join (Str.ofString " ") t.words := by
    refine ext_tl ?_
    rw [join_eq, tl_join]
    show (Txt.replace _ _ _).cps.toList = _
    rw [StrLaws.replace_list (by decide), StrLaws.replace_list (by decide)]
    show StrLaws.replL [41] [32, 41] (StrLaws.replL [40] [40, 32] (tl t.txt)) = joinL [32] _
    rw [repl1, repl1]
    exact txt_words t h
  rw [e]
  refine split_join (s := 32) (S := []) (by decide) (by decide +kernel) t.words_ne fun p hp => ?_
  have f : ∀ u : Tr, u.ok → ∀ p ∈ u.words, 32 ∉ tl p := fun u => by
    induction u with
    | leaf q =>
      intro hu p hp
      rw [List.mem_singleton.mp hp, num_tl hu.1]
      exact numL_free (by decide)
    | node a b iha ihb =>
      intro hu p hp
      rcases List.mem_cons.mp hp with z | z
      · rw [z]
        decide
      · rcases List.mem_append.mp z with z | z
        · rcases List.mem_append.mp z with z | z
          · exact iha hu.1 p z
          · exact ihb hu.2 p z
        · rw [List.mem_singleton.mp z]
          decide
  exact f t h p hp
end K50

namespace K50
open PySem PySem.Spec PyProof.Rows L2 SortR LcM TL
/-! ### the tree of a parting -/
def sortI (xs : List Int) : List Int := xs.mergeSort intLe
structure Par (rs : List (List Int)) : Prop where
  up : ∀ r ∈ rs, r.Pairwise (· < ·)
  two : ∀ r ∈ rs, 2 ≤ r.length
  rng : ∀ r ∈ rs, ∀ x ∈ r, 0 ≤ x ∧ x ≤ (rs.length : Int)
  nice : ∀ a ∈ rs, ∀ b ∈ rs, Nice a b
  bin : Bin rs
theorem Par.halves {rs : List (List Int)} (R : Par rs) {g : List Int} (hg : g ∈ rs) : Cut2 rs g (firR rs g) (secR rs g) := by
  obtain ⟨a, b, c⟩ := R.bin g hg
  have g0 : g.getD 0 0 ∈ g := by
    have := R.two g hg
    cases g with
    | nil => exact absurd this (by decide)
    | cons x _ => exact List.mem_cons_self
  rcases (c.mem _).mp g0 with h | h
  · obtain ⟨e1, e2⟩ := bin_parts R.up R.two R.nice hg c h
    rw [e1, e2]
    exact c
  · obtain ⟨e1, e2⟩ := bin_parts R.up R.two R.nice hg c.swap h
    rw [e1, e2]
    exact c.swap
def trG (rs : List (List Int)) : Nat → List Int → Tr
  | 0, g => .leaf (g.getD 0 0)
  | n + 1, g => if g.length = 1 then .leaf (g.getD 0 0) else .node (trG rs n (firR rs g)) (trG rs n (secR rs g))
theorem sortI_eq {xs g : List Int} (nx : xs.Nodup) (ug : g.Pairwise (· < ·)) (h : ∀ z, z ∈ xs ↔ z ∈ g) : sortI xs = g := by
  have perm : (sortI xs).Perm xs := List.mergeSort_perm _ _
  have le : (sortI xs).Pairwise fun p q => intLe p q = true := List.pairwise_mergeSort (fun a b c h1 h2 => by
    unfold intLe at *
    have := of_decide_eq_true h1
    have := of_decide_eq_true h2
    exact decide_eq_true (by omega)) (fun a b => by
    unfold intLe
    rw [Bool.or_eq_true, decide_eq_true_eq, decide_eq_true_eq]
    omega) xs
  have nd : (sortI xs).Nodup := perm.nodup_iff.mpr nx
  have lt : (sortI xs).Pairwise (· < ·) := (le.and nd).imp fun {a b} z => by
    have := of_decide_eq_true z.1
    have := z.2
    omega
  exact up_same lt ug fun z => perm.mem_iff.trans (h z)
structure TrOk (rs : List (List Int)) (g : List Int) (t : Tr) : Prop where
  mem : ∀ z, z ∈ t.lv ↔ z ∈ g
  nd : t.lv.Nodup
  gs : ∀ r, r ∈ t.gs.map sortI ↔ r ∈ rs ∧ ∀ z ∈ r, z ∈ g
  gnd : (t.gs.map sortI).Nodup
  ok : t.ok
theorem Half.pos {rs : List (List Int)} (R : Par rs) {x : List Int} (h : Half rs x) : ∃ z, z ∈ x := h.ne R.two
theorem tr_ok {rs : List (List Int)} (R : Par rs) (few : rs.length ≤ 19) : ∀ (n : Nat) (g : List Int), Half rs g → g.length ≤ n → TrOk rs g (trG rs n g)
  | 0, g, h, l => by
    obtain ⟨z, hz⟩ := h.pos R
    have := List.length_pos_of_mem hz
    omega
  | n + 1, g, h, l => by
    unfold trG
    by_cases c1 : g.length = 1
    · rw [if_pos c1]
      rcases h with h | ⟨p, rfl, p0, p1⟩
      · have := R.two g h
        omega
      · exact ⟨fun z => Iff.rfl, List.nodup_cons.mpr ⟨(fun q => nomatch q), List.nodup_nil⟩, fun r => ⟨(fun q => nomatch q), fun ⟨hr, sub⟩ => by
          have h1 := R.two r hr
          have h2 := len_sub (up_nodup (R.up r hr)) (ys := [p]) sub
          have : [p].length = 1 := rfl
          omega⟩, List.nodup_nil, ⟨p0, by show p ≤ 19; omega⟩⟩
    · rw [if_neg c1]
      have hg : g ∈ rs := by
        rcases h with h | ⟨p, rfl, _⟩
        · exact h
        · exact absurd rfl c1
      have ug := R.up g hg
      have c := R.halves hg
      generalize firR rs g = a at c
      generalize secR rs g = b at c
      obtain ⟨za, hza⟩ := c.ha.pos R
      obtain ⟨zb, hzb⟩ := c.hb.pos R
      have la : a.length ≤ n := by
        have := len_sub (xs := zb :: a) (ys := g) (List.nodup_cons.mpr ⟨fun q => c.dis _ q hzb, up_nodup (c.ha.up R.up)⟩) fun w hw => by
          rcases List.mem_cons.mp hw with e | e
          · rw [e]
            exact (c.mem _).mpr (.inr hzb)
          · exact (c.mem _).mpr (.inl e)
        rw [List.length_cons] at this
        omega
      have lb : b.length ≤ n := by
        have := len_sub (xs := za :: b) (ys := g) (List.nodup_cons.mpr ⟨fun q => c.dis _ hza q, up_nodup (c.hb.up R.up)⟩) fun w hw => by
          rcases List.mem_cons.mp hw with e | e
          · rw [e]
            exact (c.mem _).mpr (.inl hza)
          · exact (c.mem _).mpr (.inr e)
        rw [List.length_cons] at this
        omega
      have A := tr_ok R few n a c.ha la
      have B := tr_ok R few n b c.hb lb
      generalize trG rs n a = ta at A
      generalize trG rs n b = tb at B
      have mem : ∀ z, z ∈ (Tr.node ta tb).lv ↔ z ∈ g := fun z => by
        show z ∈ ta.lv ++ tb.lv ↔ _
        rw [List.mem_append, A.mem, B.mem, c.mem]
      have nd : (Tr.node ta tb).lv.Nodup := by
        show (ta.lv ++ tb.lv).Nodup
        exact List.nodup_append.mpr ⟨A.nd, B.nd, fun x hx y hy e => c.dis x ((A.mem x).mp hx) (by rw [e]; exact (B.mem y).mp hy)⟩
      have gsE : (Tr.node ta tb).gs.map sortI = ta.gs.map sortI ++ tb.gs.map sortI ++ [g] := by
        show (ta.gs ++ tb.gs ++ [(Tr.node ta tb).lv]).map sortI = _
        rw [List.map_append, List.map_append, List.map_singleton, sortI_eq nd ug mem]
      refine ⟨mem, nd, fun r => ?_, ?_, A.ok, B.ok⟩
      · rw [gsE, List.mem_append, List.mem_append, A.gs, B.gs, List.mem_singleton]
        constructor
        · rintro ((⟨h1, h2⟩ | ⟨h1, h2⟩) | rfl)
          · exact ⟨h1, fun z hz => (c.mem z).mpr (.inl (h2 z hz))⟩
          · exact ⟨h1, fun z hz => (c.mem z).mpr (.inr (h2 z hz))⟩
          · exact ⟨hg, fun z hz => hz⟩
        · rintro ⟨h1, h2⟩
          obtain ⟨y, hy⟩ : ∃ y, y ∈ r := Half.pos R (.inl h1)
          rcases c.ha.nice (R.nice r h1) with q | q | q
          · exact .inl (.inr ⟨h1, fun z hz => ((c.mem z).mp (h2 z hz)).resolve_left (q z hz)⟩)
          · exact .inl (.inl ⟨h1, q⟩)
          · rcases c.hb.nice (R.nice r h1) with p | p | p
            · exact .inl (.inl ⟨h1, fun z hz => ((c.mem z).mp (h2 z hz)).resolve_right (p z hz)⟩)
            · exact absurd (p _ (q _ hza)) (c.dis _ hza)
            · exact .inr (up_same (R.up r h1) ug fun z => ⟨h2 z, fun hz => ((c.mem z).mp hz).elim (q z) (p z)⟩)
      · rw [gsE]
        refine List.nodup_append.mpr ⟨List.nodup_append.mpr ⟨A.gnd, B.gnd, fun x hx y hy e => ?_⟩, by simp, fun x hx y hy e => ?_⟩
        · obtain ⟨h1, h2⟩ := (A.gs x).mp hx
          obtain ⟨_, h3⟩ := (B.gs y).mp hy
          obtain ⟨z, hz⟩ : ∃ z, z ∈ x := Half.pos R (.inl h1)
          exact c.dis z (h2 z hz) (h3 z (by rw [← e]; exact hz))
        · rw [List.mem_singleton.mp hy] at e
          rw [e] at hx
          rcases List.mem_append.mp hx with h | h
          · exact c.dis zb (((A.gs g).mp h).2 zb ((c.mem zb).mpr (.inr hzb))) hzb
          · exact c.dis za hza (((B.gs g).mp h).2 za ((c.mem za).mpr (.inl hza)))
end K50

namespace K50
open PySem PySem.Spec PyProof.Rows L2 SortR LcM TL
/-! ### the words are read, bracket by bracket -/
theorem numS_inj {p q : Int} (hp : 0 ≤ p) (hq : 0 ≤ q) (e : numS p = numS q) : p = q := by
  have e := congrArg tl e
  rw [num_tl hp, num_tl hq] at e
  have := numL_inj e
  omega
theorem numS_ne {p : Int} (hp : 0 ≤ p) {s : String} {c : Nat} (h : tl (Str.ofString s) = [c]) (hc : c < 48 ∨ 57 < c) : numS p ≠ Str.ofString s := fun e => by
  have e := congrArg tl e
  rw [num_tl hp, h] at e
  have f : c ∉ numL p.toNat := numL_free hc
  rw [e] at f
  exact f List.mem_cons_self
def lb : Str := Str.ofString "("
def rb : Str := Str.ofString ")"
/-- the person with this word -/
def wp (w : Str) : Option Int := ((List.range 20).find? fun i : Nat => decide (numS (i : Int) = w)).map fun i : Nat => (i : Int)
theorem wp_num {p : Int} (h0 : 0 ≤ p) (h1 : p ≤ 19) : wp (numS p) = some p := by
  obtain ⟨n, rfl⟩ := Int.eq_ofNat_of_zero_le h0
  unfold wp
  cases e : (List.range 20).find? fun i : Nat => decide (numS (i : Int) = numS (n : Int)) with
  | none =>
    have := List.find?_eq_none.mp e n (List.mem_range.mpr (by omega))
    exact absurd (decide_eq_true rfl) this
  | some i =>
    have h := List.find?_some e
    have h := numS_inj (by omega) (by omega) (of_decide_eq_true h)
    rw [Option.map_some, h]
abbrev Stk := List Int × List Int × List (List Int)
def stp (s : Stk) (w : Str) : Stk :=
  if w = lb then (s.1, s.2.1 ++ [(s.1.length : Int)], s.2.2) else
  if w = rb ∧ s.2.1 ≠ [] then (s.1, s.2.1.dropLast, s.2.2 ++ [sortI (s.1.drop ((s.2.1.getLast?).getD 0).toNat)]) else
  match wp w with
  | some p => (s.1 ++ [p], s.2.1, s.2.2)
  | none => s
def lgl (s : Stk) (w : Str) : Prop := w = lb ∨ (w = rb ∧ s.2.1 ≠ []) ∨ ∃ p, wp w = some p
def Lgl : Stk → List Str → Prop
  | _, [] => True
  | s, w :: ws => lgl s w ∧ Lgl (stp s w) ws
theorem lgl_app : ∀ (xs ys : List Str) (s : Stk), Lgl s xs → Lgl (xs.foldl stp s) ys → Lgl s (xs ++ ys)
  | [], _, _, _, h => h
  | x :: xs, ys, s, h1, h2 => ⟨h1.1, lgl_app xs ys _ h1.2 h2⟩
theorem lgl_at : ∀ {ws : List Str} {s : Stk}, Lgl s ws → ∀ (i : Nat) (w : Str), ws[i]? = some w → lgl ((ws.take i).foldl stp s) w
  | [], _, _, i, w, h => by cases h
  | x :: xs, s, h, 0, w, e => by
    obtain rfl := Option.some.inj e
    exact h.1
  | x :: xs, s, h, i + 1, w, e => lgl_at (ws := xs) h.2 i w e
theorem rb_ne : rb ≠ lb := by decide
theorem run_tr : ∀ (t : Tr), t.ok → ∀ (ps op : List Int) (gs : List (List Int)), t.words.foldl stp (ps, op, gs) = (ps ++ t.lv, op, gs ++ t.gs.map sortI) ∧ Lgl (ps, op, gs) t.words
  | .leaf p, h, ps, op, gs => by
    have w := wp_num h.1 h.2
    have n1 : numS p ≠ lb := numS_ne h.1 (c := 40) (by decide) (by decide)
    have n2 : numS p ≠ rb := numS_ne h.1 (c := 41) (by decide) (by decide)
    refine ⟨?_, .inr (.inr ⟨p, w⟩), trivial⟩
    show stp (ps, op, gs) (numS p) = _
    unfold stp
    rw [if_neg n1, if_neg fun z => n2 z.1, w]
    show _ = (ps ++ [p], op, gs ++ [])
    rw [List.append_nil]
  | .node a b, h, ps, op, gs => by
    obtain ⟨ea, la⟩ := run_tr a h.1 ps (op ++ [(ps.length : Int)]) gs
    obtain ⟨eb, lb'⟩ := run_tr b h.2 (ps ++ a.lv) (op ++ [(ps.length : Int)]) (gs ++ a.gs.map sortI)
    have s0 : stp (ps, op, gs) lb = (ps, op ++ [(ps.length : Int)], gs) := by
      unfold stp
      rw [if_pos rfl]
    have s1 : stp (ps ++ a.lv ++ b.lv, op ++ [(ps.length : Int)], gs ++ a.gs.map sortI ++ b.gs.map sortI) rb = (ps ++ (a.lv ++ b.lv), op, gs ++ (a.gs ++ b.gs ++ [a.lv ++ b.lv]).map sortI) := by
      unfold stp
      rw [if_neg rb_ne, if_pos ⟨rfl, by simp⟩]
      simp [List.append_assoc]
    have wd : (Tr.node a b).words = lb :: (a.words ++ b.words ++ [rb]) := rfl
    rw [wd]
    refine ⟨?_, .inl rfl, ?_⟩
    · rw [List.foldl_cons, s0, List.foldl_append, List.foldl_append, ea, eb, List.foldl_cons, List.foldl_nil, s1]
      rfl
    · rw [s0]
      refine lgl_app _ _ _ (lgl_app _ _ _ la (by rw [ea]; exact lb')) ?_
      rw [List.foldl_append, ea, eb]
      exact ⟨.inr (.inl ⟨rfl, by simp⟩), trivial⟩
end K50

namespace K50
open PySem PySem.Spec PyProof.Rows L2 SortR LcM RepA TL
abbrev sBoth : Stmt := top 16
abbrev sPart : Stmt := top 18
abbrev sWr : Stmt := top 19
abbrev sGB : Stmt := top 20
abbrev sRd : Stmt := top 21
abbrev sNT : Stmt := top 22
abbrev sWC : Stmt := top 23
abbrev sRC : Stmt := top 24
/-- the defs of texts, where they stand -/
structure TextF (K : PySem.W.Frag) (mg : Str → Option Value) where
  (fBoth fPart fWr fGB fRd fNT fWC fRC : Addr)
  (dBoth dPart dWr dGB dRd dNT dWC dRC : FuncData)
  FBoth : Fun K "both_parts" "both_parts" sBoth fBoth dBoth
  FPart : Fun K "part_text" "part_text" sPart fPart dPart
  FWr : Fun K "write_parting" "write_parting" sWr fWr dWr
  FGB : Fun K "groups_between" "groups_between" sGB fGB dGB
  FRd : Fun K "read_parting" "read_parting" sRd fRd dRd
  FNT : Fun K "numbers_text" "numbers_text" sNT fNT dNT
  FWC : Fun K "write_coming" "write_coming" sWC fWC dWC
  FRC : Fun K "read_coming" "read_coming" sRC fRC dRC
  gBoth : mg "both_parts" = some (.ref fBoth)
  gPart : mg "part_text" = some (.ref fPart)
  gWr : mg "write_parting" = some (.ref fWr)
  gGB : mg "groups_between" = some (.ref fGB)
  gRd : mg "read_parting" = some (.ref fRd)
  gNT : mg "numbers_text" = some (.ref fNT)
  gWC : mg "write_coming" = some (.ref fWC)
  gRC : mg "read_coming" = some (.ref fRC)
  bBoth : Binds K dBoth ["parting", "group"] []
  bPart : Binds K dPart ["parting", "part"] []
  bWr : Binds K dWr ["parting"] []
  bGB : Binds K dGB ["words"] []
  bRd : Binds K dRd ["text"] []
  bNT : Binds K dNT ["numbers"] []
  bWC : Binds K dWC ["coming"] []
  bRC : Binds K dRC ["text"] []
/-- a new list of two new lists of ints -/
structure Two (H H' : Hp) (p q1 q2 : Addr) (x y : List Int) : Prop where
  top : H' p = some (.lst [.ref q1, .ref q2])
  e1 : H' q1 = some (.lst (x.map V.int))
  e2 : H' q2 = some (.lst (y.map V.int))
  np : H p = none
  n1 : H q1 = none
  n2 : H q2 = none
def spBoth (K : PySem.W.Frag) : Sp := fun vs H Q _ => ∃ (a b : Addr) (bs : List (Addr × List Int)) (g : List Int), vs = [.ref a, .ref b] ∧ Rw K H a bs ∧ SqL K H b (g.map V.int) ∧ g ≠ [] ∧ (∀ r ∈ bs.map (·.2), r ≠ []) ∧ g.length ≤ 1000 ∧ bs.length ≤ 1000 ∧
  ∀ (p q1 q2 : Addr) (H' : Hp), Grows H H' → Two H H' p q1 q2 (firR (bs.map (·.2)) g) (secR (bs.map (·.2)) g) → Q (.ref p) H'
theorem filt {α : Type} (d : α) (p : α → Bool) (cs : List α) : ((List.range cs.length).filter fun i => p (cs.getD i d)).map (fun i => cs.getD i d) = cs.filter p := by
  have e : (fun i => p (cs.getD i d)) = p ∘ (fun i => cs.getD i d) := rfl
  rw [e, ← List.filter_map]
  congr 1
  refine List.ext_getElem (by rw [List.length_map, List.length_range]) fun i h1 h2 => ?_
  rw [List.getElem_map, List.getElem_range, List.getD_eq_getElem?_getD, List.getElem?_eq_getElem h2]
  rfl
theorem at_head {r : List Int} (h : r ≠ []) : atI (r.map V.int) 0 = some (V.int (r.getD 0 0)) := by
  have pz : 0 < r.length := List.length_pos_iff.mpr h
  refine atI_nat (j := 0) ?_
  rw [List.getElem?_map, List.getD_eq_getElem?_getD, List.getElem?_eq_getElem pz]
  rfl
def upto (n : Nat) : List Int := (List.range n).map fun i => (0 + (i : Nat) : Int)
theorem upto_mem {n : Nat} {z : Int} : z ∈ upto n ↔ 0 ≤ z ∧ z < (n : Int) := by
  unfold upto
  rw [List.mem_map]
  constructor
  · rintro ⟨i, hi, rfl⟩
    have := List.mem_range.mp hi
    omega
  · rintro ⟨h0, h1⟩
    exact ⟨z.toNat, List.mem_range.mpr (by omega), by omega⟩
theorem upto_asc (n : Nat) : (upto n).Pairwise (· < ·) := by
  unfold upto
  rw [List.pairwise_map]
  exact List.pairwise_lt_range.imp fun h => by omega
theorem upto_ln (n : Nat) : (upto n).length = n := by
  unfold upto
  rw [List.length_map, List.length_range]
theorem rg_upto (n : Nat) : rgV 0 (n : Int) = (upto n).map V.int := by
  unfold rgV upto
  rw [List.map_map, show ((n : Int) - 0).toNat = n by omega]
  rfl
theorem app_len (x y : Str) : (x ++ y).length = x.length + y.length := by
  rw [len_tl, tl_append, List.length_append, ← len_tl, ← len_tl]
/-- the text of a group, or of a person -/
def spPart (K : PySem.W.Frag) (n : Nat) : Sp := fun vs H Q _ => ∃ (a b : Addr) (bs : List (Addr × List Int)) (g : List Int), vs = [.ref a, .ref b] ∧ Rw K H a bs ∧ Par (bs.map (·.2)) ∧ bs.length ≤ 19 ∧ SqL K H b (g.map V.int) ∧ Half (bs.map (·.2)) g ∧ g.length ≤ n ∧ n ≤ 20 ∧ ∀ H', Grows H H' → Q (.str (trG (bs.map (·.2)) n g).txt) H'
theorem Tr.txt_len : ∀ t : Tr, t.ok → t.txt.length + 3 ≤ 5 * t.lv.length
  | .leaf p, h => by
    have e : (numS p).length = (numL p.toNat).length := by rw [len_tl, num_tl h.1]
    have l := numL_len (n := p.toNat) (k := 2) (by decide) (by have := h.2; omega)
    show (numS p).length + 3 ≤ 5 * 1
    omega
  | .node a b, h => by
    have ha := a.txt_len h.1
    have hb := b.txt_len h.2
    have e : (Tr.node a b).txt.length = 1 + a.txt.length + 1 + b.txt.length + 1 := by
      rw [len_tl]
      show (tl (Str.ofString "(" ++ a.txt ++ Str.ofString " " ++ b.txt ++ Str.ofString ")")).length = _
      rw [tl_append, tl_append, tl_append, tl_append, List.length_append, List.length_append, List.length_append, List.length_append, ← len_tl, ← len_tl, ← len_tl, ← len_tl, ← len_tl]
      rfl
    have el : (Tr.node a b).lv.length = a.lv.length + b.lv.length := List.length_append ..
    rw [e, el]
    omega
theorem TrOk.short {rs : List (List Int)} {g : List Int} {t : Tr} (h : TrOk rs g t) : t.txt.length ≤ 5 * g.length := by
  have := t.txt_len h.ok
  have := len_sub h.nd (ys := g) fun z hz => (h.mem z).mp hz
  omega
theorem half_len {rs : List (List Int)} (R : Par rs) {n : Nat} (few : n ≤ 19) {g : List Int} (h : Half rs g) : 1 ≤ g.length := by
  obtain ⟨z, hz⟩ := h.pos R
  exact List.length_pos_of_mem hz
theorem Par.parts_lt {rs : List (List Int)} (R : Par rs) {g : List Int} (hg : g ∈ rs) : (firR rs g).length < g.length ∧ (secR rs g).length < g.length := by
  have c := R.halves hg
  obtain ⟨za, hza⟩ := c.ha.pos R
  obtain ⟨zb, hzb⟩ := c.hb.pos R
  constructor
  · have := len_sub (xs := zb :: firR rs g) (ys := g) (List.nodup_cons.mpr ⟨fun q => c.dis _ q hzb, up_nodup (c.ha.up R.up)⟩) fun w hw => by
      rcases List.mem_cons.mp hw with e | e
      · rw [e]
        exact (c.mem _).mpr (.inr hzb)
      · exact (c.mem _).mpr (.inl e)
    rwa [List.length_cons] at this
  · have := len_sub (xs := za :: secR rs g) (ys := g) (List.nodup_cons.mpr ⟨fun q => c.dis _ hza q, up_nodup (c.hb.up R.up)⟩) fun w hw => by
      rcases List.mem_cons.mp hw with e | e
      · rw [e]
        exact (c.mem _).mpr (.inl hza)
      · exact (c.mem _).mpr (.inr e)
    rwa [List.length_cons] at this
section
variable {P : Program} {w : World} {K : PySem.W.Frag} {mg : Str → Option Value} {base : Heap}
theorem scBoth : FnScope ["parting", "group", "first", "inner", "person"] ["parting", "group"] (defScope sBoth) := ⟨rfl, rfl, rfl, by decide +kernel, rfl, by decide +kernel, by decide +kernel⟩
theorem scPart : FnScope ["parting", "part", "one", "other"] ["parting", "part"] (defScope sPart) := ⟨rfl, rfl, rfl, by decide +kernel, rfl, by decide +kernel, by decide +kernel⟩
theorem scWr : FnScope ["parting"] ["parting"] (defScope sWr) := ⟨rfl, rfl, rfl, by decide +kernel, rfl, by decide +kernel, by decide +kernel⟩
theorem ok_both (T : TxtP mg) (U : TextF K mg) : FnOk P w K mg base CX0 1 U.fBoth U.dBoth ["parting", "group"] (spBoth K) := by
  refine U.FBoth.ok scBoth (fun vs H Q E h => ?_) (fun cdv A outer s H vs Q E hr h => ?_)
  · obtain ⟨a, b, bs, g, rfl, _⟩ := h
    rfl
  · obtain ⟨a, b, bs, g, rfl, hB, hb, hne, hrs, hgl, hbl, k⟩ := h
    refine ⟨_, (pss_cons (ps_set (i := 2) scBoth.nd rfl (.inr rfl) (pe_lst (pa_cons (pe_ix (r := rIxL K) ix_list (pv 1) pe_int (fun _ _ => rfl)) pa_nil)))
      (pss_cons (ps_for PassesOwn.never rfl (pi_list (pv 0)) (pg_name (i := 3) scBoth.nd rfl (.inl rfl))
      (pss_one (ps_if (PW.pt (pw_and (pt_cmpR op_eq (pe_ix (r := rIxL K) ix_list (pv 3) pe_int (fun _ _ => rfl)) (pe_ix (r := rIxL K) ix_list (pv 1) pe_int (fun _ _ => rfl)) (nomark _)) (pw_and1 (pt_chain op_lt op_lt (pe_callB call_len_seq (by rfl) T.len (by decide +kernel) (pa_cons (pv 2) pa_nil)) (pe_callB call_len_seq (by rfl) T.len (by decide +kernel) (pa_cons (pv 3) pa_nil)) (pe_callB call_len_seq (by rfl) T.len (by decide +kernel) (pa_cons (pv 1) pa_nil)))))) (pss_one (ps_set (i := 2) scBoth.nd rfl (.inr rfl) (pv 3))) pss_nil)))
      (pss_one (ps_ret (pe_lst (pa_cons (pe_callTy call_list_of (by rfl) T.list (by decide +kernel) (pa_cons (pv 2) pa_nil)) (pa_cons (pe_lc (own := [("person", 4)]) (g := gName 4)  rfl scBoth.nd (pi_list (pv 1)) (blkOk_by (own := [("person", 4)]) (N := ["parting", "group", "first", "inner", "person"]) (sc := defScope sBoth) (by decide +kernel)) (fun _ _ _ _ _ => pg_name (i := 4) scBoth.nd rfl (Or.inl rfl)) (fun _ _ _ _ _ => (pts_one (pt_cmpR (r := rIn K true) (by exact op_notIn_seq) (pv 4) (pv 2) (by rfl)))) (fun _ _ _ _ _ => (pv 4))) pa_nil))))))), ?_⟩
    refine ⟨_, rfl, b, _, 0, _, rfl, rfl, hb, at_head hne, (by show 1 ≤ sizeLine; decide), fun f0 hf0 => ?_⟩
    have g0 : Grows H (upd H f0 (.lst [V.int (g.getD 0 0)])) := Grows.new hf0
    refine ⟨_, rfl, a, rfl, ⟨_, (hB.keep g0).top⟩, for_list (K := K) (a := a) (xs := bs.map fun b => V.ref b.1) (fun i σ G => ∃ f o, σ = [some (.ref a), some (.ref b), some (.ref f), o, none] ∧ Grows H G ∧ SqL K G f ((firstN (bs.map (·.2)) g i).map V.int))
      ⟨f0, none, rfl, g0, SqL.of upd_same⟩ (fun i σ G _ ⟨_, _, _, g', _⟩ => (hB.keep g').top) (fun i x σ G hx ⟨f, o, e, g', ef⟩ => ?_) fun σ G ⟨f, o, e, g', ef⟩ => ?_⟩
    · subst e
      have il := (List.getElem?_eq_some_iff.mp hx).1
      rw [List.length_map] at il
      obtain rfl := at_map (d := (0, [])) hx
      have ei := (hB.keep g').at il
      have ne := hrs _ (mem_at il)
      have eb := g'.seq hb
      refine ⟨_, rfl, _, _, 0, _, rfl, rfl, ei, at_head ne, _, rfl, b, _, 0, _, rfl, rfl, eb, at_head hne, rfl, _, rfl, ?_⟩
      have same : ¬ ((bs.getD i (0, [])).2.getD 0 0 = g.getD 0 0 ∧ (firstN (bs.map (·.2)) g i).length < (bs.getD i (0, [])).2.length ∧ (bs.getD i (0, [])).2.length < g.length) → firstN (bs.map (·.2)) g (i + 1) = firstN (bs.map (·.2)) g i := fun z => by
        show (if _ then _ else _) = _
        rw [snd_at]
        exact if_neg z
      by_cases h1 : (bs.getD i (0, [])).2.getD 0 0 = g.getD 0 0
      · rw [decide_eq_true (congrArg V.int h1)]
        refine iteT ⟨_, rfl, f, _, rfl, .inl ef, _, rfl, _, _, rfl, .inl ei, _, _, rfl, rfl, _, rfl, ?_⟩
        rw [List.length_map, List.length_map]
        by_cases h2 : (firstN (bs.map (·.2)) g i).length < (bs.getD i (0, [])).2.length
        · rw [if_pos (decide_eq_true (show (((firstN (bs.map (·.2)) g i).length : Nat) : Int) < ((bs.getD i (0, [])).2.length : Nat) by omega))]
          refine ⟨_, rfl, b, _, rfl, .inl eb, _, _, rfl, rfl, _, rfl, ?_⟩
          rw [List.length_map]
          by_cases h3 : (bs.getD i (0, [])).2.length < g.length
          · rw [decide_eq_true (show (((bs.getD i (0, [])).2.length : Nat) : Int) < (g.length : Nat) by omega)]
            refine iteT ⟨_, rfl, _, _, rfl, g', ?_⟩
            have e : firstN (bs.map (·.2)) g (i + 1) = (bs.getD i (0, [])).2 := by
              show (if _ then _ else _) = _
              rw [snd_at]
              exact if_pos ⟨h1, h2, h3⟩
            rw [e]
            exact ei
          · rw [decide_eq_false (show ¬ (((bs.getD i (0, [])).2.length : Nat) : Int) < (g.length : Nat) by omega)]
            exact iteF ⟨f, _, rfl, g', by rw [same fun z => h3 z.2.2]; exact ef⟩
        · rw [if_neg (by rw [decide_eq_false (show ¬ (((firstN (bs.map (·.2)) g i).length : Nat) : Int) < ((bs.getD i (0, [])).2.length : Nat) by omega)]; exact Bool.false_ne_true)]
          refine ⟨_, rfl, iteF ⟨f, _, rfl, g', by rw [same fun z => h2 z.2.1]; exact ef⟩⟩
      · rw [decide_eq_false fun z => h1 (V.int.inj z)]
        exact iteF (iteF ⟨f, _, rfl, g', by rw [same fun z => h1 z.1]; exact ef⟩)
    · subst e
      rw [List.length_map, show firstN (bs.map (·.2)) g bs.length = firR (bs.map (·.2)) g by unfold firR; rw [List.length_map]] at ef
      have eb := g'.seq hb
      refine ⟨_, rfl, f, _, rfl, .inl ef, fun q1 hq1 => ?_⟩
      have g1 : Grows G (upd G q1 (.lst ((firR (bs.map (·.2)) g).map V.int))) := Grows.new hq1
      have eq1 : (upd G q1 (.lst ((firR (bs.map (·.2)) g).map V.int))) q1 = some (.lst ((firR (bs.map (·.2)) g).map V.int)) := upd_same
      refine ⟨_, rfl, b, rfl, ⟨_, g1.seq eb⟩, fun D hD => lc_listT (K := K) (fun i => decide (g.getD i 0 ∉ firR (bs.map (·.2)) g)) (fun i => V.int (g.getD i 0)) hD (g1.seq eb) (by rw [List.length_map]; omega) (fun i x G2 Ry Rn hx sm ky kn => ?_) fun G2 sm eD => ?_⟩
      · obtain rfl := at_map (d := 0) hx
        refine ⟨rfl, _, rfl, _, rfl, f, _, rfl, .inl ((g1.trans sm).seq ef), rfl, flat_ints _, _, rfl, ?_⟩
        show if (!inV (V.int (g.getD i 0)) ((firR (bs.map (·.2)) g).map V.int)) = true then _ else _
        rw [inV_ints]
        by_cases m : g.getD i 0 ∈ firR (bs.map (·.2)) g
        · rw [decide_eq_true m]
          exact iteF (kn (decide_eq_false fun z => z m) _ .refl)
        · rw [decide_eq_false m]
          exact iteT ⟨_, rfl, ky (decide_eq_true m) _ .refl⟩
      · rw [List.length_map] at eD
        have ek : kept (fun i => decide (g.getD i 0 ∉ firR (bs.map (·.2)) g)) (fun i => V.int (g.getD i 0)) g.length = (secR (bs.map (·.2)) g).map V.int := by
          unfold kept secR
          rw [← filt 0 (fun x => decide (x ∉ firR (bs.map (·.2)) g)) g, List.map_map]
          rfl
        rw [ek] at eD
        refine ⟨(by show 2 ≤ sizeLine; decide), fun p hp => ?_⟩
        have gp : Grows G2 (upd G2 p (.lst [V.ref q1, V.ref D])) := Grows.new hp
        have gall := ((g'.trans g1).trans sm).trans gp
        have e1p := sm _ _ eq1
        exact k p q1 D _ gall ⟨upd_same, gp _ _ e1p, gp _ _ eD, none_back ((g'.trans g1).trans sm) hp, none_back g' hq1, none_back (g'.trans g1) hD⟩
theorem part_body {sp0 : Sp} {k n : Nat} (T : TxtP mg) (TS : mg "str" = none) (U : TextF K mg) (GPart : FnOk P w K mg base CX0 k U.fPart U.dPart ["parting", "part"] sp0) (k1 : 1 ≤ k)
    (h0 : ∀ (a b : Addr) (bs : List (Addr × List Int)) (g : List Int) (H : Hp) (Q : VK), Rw K H a bs → Par (bs.map (·.2)) → bs.length ≤ 19 → SqL K H b (g.map V.int) → Half (bs.map (·.2)) g → g.length ≤ n → n ≤ 20 → (∀ H', Grows H H' → Q (.str (trG (bs.map (·.2)) n g).txt) H') → sp0 [.ref a, .ref b] H Q E0) :
    FnOk P w K mg base CX0 (k + 1) U.fPart U.dPart ["parting", "part"] (spPart K (n + 1)) := by
  have GBoth : FnOk P w K mg base CX0 1 U.fBoth U.dBoth ["parting", "group"] (spBoth K) := ok_both T U
  refine U.FPart.ok scPart (fun vs H Q E h => ?_) (fun cdv A outer s H vs Q E hr h => ?_)
  · obtain ⟨a, b, bs, g, rfl, _⟩ := h
    rfl
  · obtain ⟨a, b, bs, g, rfl, hB, R, few, hb, hh, gl, n20, kq⟩ := h
    refine ⟨_, (pss_cons (ps_if (pt_cmpR op_eq (pe_callB call_len_seq (by rfl) T.len (by decide +kernel) (pa_cons (pv 1) pa_nil)) pe_int (nomark _)) (pss_one (ps_ret (pe_callTy call_str_int (by rfl) TS (by decide +kernel) (pa_cons (pe_ix (r := rIxL K) ix_list (pv 1) pe_int (fun _ _ => rfl)) pa_nil)))) pss_nil)
      (pss_cons (ps_asg (pe_call GBoth (hr.mono (by omega)) rfl U.gBoth U.FBoth.kp U.bBoth .nil pass0 (pa_cons (pv 0) (pa_cons (pv 1) pa_nil))) (pg_lst (by rfl) (pgs_cons (pg_name (i := 2) scPart.nd rfl (.inl rfl)) (pgs_cons (pg_name (i := 3) scPart.nd rfl (.inl rfl)) pgs_nil))))
      (pss_one (ps_ret (pe_joined (.cons pe_str (.cons (pe_fmt (pe_call GPart (hr.mono (by omega)) rfl U.gPart U.FPart.kp U.bPart .nil pass0 (pa_cons (pv 0) (pa_cons (pv 2) pa_nil)))) (.cons pe_str (.cons (pe_fmt (pe_call GPart (hr.mono (by omega)) rfl U.gPart U.FPart.kp U.bPart .nil pass0 (pa_cons (pv 0) (pa_cons (pv 3) pa_nil)))) (.cons pe_str .nil)))))))))), ?_⟩
    have hal := half_len R few hh
    by_cases c1 : g.length = 1
    · have hp : ∃ p : Int, g = [p] ∧ 0 ≤ p ∧ p ≤ 19 := by
        rcases hh with h | ⟨p, e, p0, p1⟩
        · have := R.two g h
          omega
        · rw [List.length_map] at p1
          exact ⟨p, e, p0, by omega⟩
      obtain ⟨p, rfl, p0, p1⟩ := hp
      have lg : p.natAbs.log2 < 1920 := PySem.Flt.log2_lt_of (by decide) (Nat.lt_of_lt_of_le (show p.natAbs < 1024 by omega) (by decide))
      have kq := kq H .refl
      unfold trG at kq
      rw [if_pos (show [p].length = 1 from rfl)] at kq
      refine ⟨_, rfl, b, _, rfl, .inl hb, rfl, _, rfl, iteT ⟨_, rfl, b, _, _, _, rfl, rfl, hb, atI_nat (j := 0) rfl, p, rfl, lg, kq⟩⟩
    · have hg : g ∈ bs.map (·.2) := by
        rcases hh with h | ⟨p, e, _⟩
        · exact h
        · rw [e] at c1
          exact absurd rfl c1
      have kq := kq
      unfold trG at kq
      rw [if_neg c1] at kq
      have c := R.halves hg
      have la := (R.parts_lt hg).1
      have lb := (R.parts_lt hg).2
      refine ⟨_, rfl, b, _, rfl, .inl hb, rfl, _, rfl, ?_⟩
      rw [decide_eq_false (show ¬ V.int (((g.map V.int).length : Nat) : Int) = V.int 1 from fun z => by have := L2.V.int.inj z; rw [List.length_map] at this; omega)]
      refine iteF ⟨_, rfl, _, rfl, a, b, bs, g, rfl, hB, hb, fun e => by rw [e] at c1 hal; simp at hal, fun r hr e => by have := R.two r hr; rw [e] at this; exact absurd this (by decide), by omega, by omega, fun p q1 q2 H1 g1 two => ?_⟩
      refine ⟨p, _, rfl, SqL.of two.top, rfl, _, _, rfl, _, _, rfl, rfl, ?_⟩
      have few' : (bs.map (·.2)).length ≤ 19 := by rw [List.length_map]; exact few
      have A := tr_ok R few' n _ c.ha (by omega)
      have B := tr_ok R few' n _ c.hb (by omega)
      have sa := A.short
      have sb := B.short
      have e0 : Str.empty ++ Str.ofString "(" = Str.ofString "(" := by decide
      have h5 := h0 a q1 bs (firR (bs.map (·.2)) g)
      have h6 := h0 a q2 bs (secR (bs.map (·.2)) g)
      generalize trG (bs.map (·.2)) n (firR (bs.map (·.2)) g) = ta at sa h5 kq
      generalize trG (bs.map (·.2)) n (secR (bs.map (·.2)) g) = tb at sb h6 kq
      have kq : ∀ H', Grows H H' → Q (.str (Str.empty ++ Str.ofString "(" ++ ta.txt ++ Str.ofString " " ++ tb.txt ++ Str.ofString ")")) H' := by
        rw [e0]
        exact kq
      have z1 : (Str.ofString "(").length = 1 := by decide
      have z2 : (Str.ofString " ").length = 1 := by decide
      have z3 : (Str.ofString ")").length = 1 := by decide
      have z0 : Str.empty.length = 0 := by decide
      have big : 1000 ≤ sizeLine := by decide
      have l1 : (Str.empty ++ Str.ofString "(").length ≤ sizeLine := by rw [app_len]; omega
      have l2 : (Str.empty ++ Str.ofString "(" ++ ta.txt).length ≤ sizeLine := by rw [app_len, app_len]; omega
      have l3 : (Str.empty ++ Str.ofString "(" ++ ta.txt ++ Str.ofString " ").length ≤ sizeLine := by rw [app_len, app_len, app_len]; omega
      have l4 : (Str.empty ++ Str.ofString "(" ++ ta.txt ++ Str.ofString " " ++ tb.txt).length ≤ sizeLine := by rw [app_len, app_len, app_len, app_len]; omega
      have l5 : (Str.empty ++ Str.ofString "(" ++ ta.txt ++ Str.ofString " " ++ tb.txt ++ Str.ofString ")").length ≤ sizeLine := by rw [app_len, app_len, app_len, app_len, app_len]; omega
      refine ⟨_, rfl, l1, ?_⟩
      refine ⟨_, rfl, _, rfl, h5 H1 _ (hB.keep g1) R few (SqL.of two.e1) c.ha (by omega) (by omega) fun H2 g2 => .inl ⟨_, rfl, by omega, _, rfl, l2, _, rfl, l3, ?_⟩⟩
      refine ⟨_, rfl, _, rfl, h6 H2 _ (hB.keep (g1.trans g2)) R few (SqL.of (g2 _ _ two.e2)) c.hb (by omega) (by omega) fun H3 g3 => .inl ⟨_, rfl, by omega, _, rfl, l4, _, rfl, l5, kq H3 ((g1.trans g2).trans g3)⟩⟩
theorem ok_part (T : TxtP mg) (TS : mg "str" = none) (U : TextF K mg) : ∀ n, FnOk P w K mg base CX0 (n + 2) U.fPart U.dPart ["parting", "part"] (spPart K (n + 1))
  | 0 => part_body (n := 0) (k := 1) (sp0 := fun _ _ _ _ => False) T TS U ⟨fun _ _ _ _ h => h.elim, fun _ _ _ _ _ _ _ _ _ _ _ _ _ h => h.elim⟩ (by decide) fun a b bs g H Q _ R few _ h l _ _ => by
    have := half_len R few h
    omega
  | n + 1 => part_body (n := n + 1) T TS U (ok_part T TS U n) (by omega) fun a b bs g H Q h1 h2 h3 h4 h5 h6 h7 h8 => ⟨a, b, bs, g, rfl, h1, h2, h3, h4, h5, h6, h7, h8⟩
def spWr (K : PySem.W.Frag) : Sp := fun vs H Q _ => ∃ (a : Addr) (bs : List (Addr × List Int)), vs = [.ref a] ∧ Rw K H a bs ∧ Par (bs.map (·.2)) ∧ bs.length ≤ 19 ∧ Half (bs.map (·.2)) (upto (bs.length + 1)) ∧ ∀ H', Grows H H' → Q (.str (trG (bs.map (·.2)) 20 (upto (bs.length + 1))).txt) H'
theorem ok_wr (T : TxtP mg) (TS : mg "str" = none) (U : TextF K mg) : FnOk P w K mg base CX0 22 U.fWr U.dWr ["parting"] (spWr K) := by
  have GPart : FnOk P w K mg base CX0 21 U.fPart U.dPart ["parting", "part"] (spPart K 20) := ok_part T TS U 19
  refine U.FWr.ok scWr (fun vs H Q E h => ?_) (fun cdv A outer s H vs Q E hr h => ?_)
  · obtain ⟨a, bs, rfl, _⟩ := h
    rfl
  · obtain ⟨a, bs, rfl, hB, R, few, hh, k⟩ := h
    refine ⟨_, (pss_one (ps_ret (pe_call GPart (hr.mono (by omega)) rfl U.gPart U.FPart.kp U.bPart .nil pass0 (pa_cons (pv 0) (pa_cons (pe_listRg rfl (by rfl) T.list (prg_1 (by rfl) T.range (pe_op op_add (pe_callB call_len_seq (by rfl) T.len (by decide +kernel) (pa_cons (pv 0) pa_nil)) pe_int))) pa_nil))))), ?_⟩
    refine ⟨_, rfl, _, rfl, a, _, rfl, .inl hB.top, _, _, rfl, rfl, _, rfl, RgOk.of_le (by decide) (by rw [List.length_map]; omega) (by decide) (by omega), fun q hq => ?_⟩
    have g1 : Grows H (upd H q (.lst (rgV 0 (((bs.map fun b => V.ref b.1).length : Int) + 1)))) := Grows.new hq
    have eq : upd H q (.lst (rgV 0 (((bs.map fun b => V.ref b.1).length : Int) + 1))) q = some (.lst ((upto (bs.length + 1)).map V.int)) := by
      rw [upd_same, List.length_map, show (bs.length : Int) + 1 = ((bs.length + 1 : Nat) : Int) by omega, rg_upto]
    exact ⟨a, q, bs, upto (bs.length + 1), rfl, hB.keep g1, R, few, SqL.of eq, hh, by rw [upto_ln]; omega, by omega, fun H' g => k H' (g1.trans g)⟩
end
end K50

namespace K50
open PySem PySem.Spec PyProof.Rows L2 SortR LcM RepA TL
/-! ### texts of coming lists -/
theorem num_tlN {x : Int} (h : x < 0) : tl (numS x) = 45 :: numL (0 - x).toNat := by
  unfold numS
  rw [toString_neg h, tl_ofString, String.toList_append, List.map_append]
  obtain ⟨n, hn⟩ := Int.eq_ofNat_of_zero_le (show 0 ≤ 0 - x by omega)
  have e := tl_ofString (toString (0 - x))
  rw [hn, tl_num] at e
  rw [hn, ← e]
  rfl
theorem numS_injZ {x y : Int} (e : numS x = numS y) : x = y := by
  by_cases hx : 0 ≤ x
  · by_cases hy : 0 ≤ y
    · exact numS_inj hx hy e
    · have e := congrArg tl e
      rw [num_tl hx, num_tlN (by omega)] at e
      have f : 45 ∉ numL x.toNat := numL_free (by decide)
      rw [e] at f
      exact absurd List.mem_cons_self f
  · by_cases hy : 0 ≤ y
    · have e := congrArg tl e
      rw [num_tlN (by omega), num_tl hy] at e
      have f : 45 ∉ numL y.toNat := numL_free (by decide)
      rw [← e] at f
      exact absurd List.mem_cons_self f
    · have e := congrArg tl e
      rw [num_tlN (by omega), num_tlN (by omega)] at e
      have := numL_inj (List.cons.inj e).2
      omega
theorem numS_free (x : Int) : 32 ∉ tl (numS x) := by
  by_cases h : 0 ≤ x
  · rw [num_tl h]
    exact numL_free (by decide)
  · rw [num_tlN (by omega)]
    intro m
    rcases List.mem_cons.mp m with z | z
    · cases z
    · exact numL_free (s := 32) (by decide) z
def dash : Str := Str.ofString "-"
theorem numS_dash (x : Int) : numS x ≠ dash := fun e => by
  have e := congrArg tl e
  rw [show tl dash = [45] by decide] at e
  by_cases h : 0 ≤ x
  · rw [num_tl h] at e
    have f : 45 ∉ numL x.toNat := numL_free (by decide)
    rw [e] at f
    exact f List.mem_cons_self
  · rw [num_tlN (by omega)] at e
    exact numL_ne _ (List.cons.inj e).2
theorem numS_len {x : Int} (h0 : -99 ≤ x) (h1 : x ≤ 99) : (numS x).length ≤ 3 := by
  rw [len_tl]
  by_cases h : 0 ≤ x
  · rw [num_tl h]
    have := numL_len (n := x.toNat) (k := 2) (by decide) (by omega)
    omega
  · rw [num_tlN (by omega)]
    have := numL_len (n := (0 - x).toNat) (k := 2) (by decide) (by omega)
    rw [List.length_cons]
    omega
def blank : Str := Str.ofString " "
def comS (is : List Int) : Str := if is = [] then dash else Txt.join blank (is.map numS)
theorem split_com {is : List Int} (h : is ≠ []) : Txt.split (comS is) blank = is.map numS := by
  unfold comS
  rw [if_neg h]
  refine split_join (s := 32) (S := []) (by decide) (by decide +kernel) (fun z => h (List.map_eq_nil_iff.mp z)) fun p hp => ?_
  obtain ⟨x, _, rfl⟩ := List.mem_map.mp hp
  exact numS_free x
theorem split_dash : Txt.split dash blank = [dash] := by decide +kernel
theorem sum_len : ∀ {is : List Int}, (∀ x ∈ is, -99 ≤ x ∧ x ≤ 99) → ((is.map numS).map (·.length)).sum ≤ 3 * is.length
  | [], _ => by decide
  | x :: is, h => by
    have a := sum_len (is := is) fun y hy => h y (List.mem_cons_of_mem _ hy)
    have b := numS_len (h x List.mem_cons_self).1 (h x List.mem_cons_self).2
    rw [List.map_cons, List.map_cons, List.sum_cons, List.length_cons]
    omega
theorem rngM {α β : Type} (xs : List α) (d : α) (f : α → β) : (List.range xs.length).map (fun i => f (xs.getD i d)) = xs.map f := by
  refine List.ext_getElem (by rw [List.length_map, List.length_range, List.length_map]) fun i h1 h2 => ?_
  rw [List.length_map] at h2
  rw [List.getElem_map, List.getElem_map, List.getElem_range, List.getD_eq_getElem?_getD, List.getElem?_eq_getElem h2]
  rfl
def spNT (K : PySem.W.Frag) : Sp := fun vs H Q _ => ∃ (a : Addr) (is : List Int), vs = [.ref a] ∧ SqL K H a (is.map V.int) ∧ is.length ≤ 100 ∧ (∀ x ∈ is, -99 ≤ x ∧ x ≤ 99) ∧ ∀ H', Grows H H' → Q (.str (comS is)) H'
section
variable {P : Program} {w : World} {K : PySem.W.Frag} {mg : Str → Option Value} {base : Heap}
theorem scNT : FnScope ["numbers", "number"] ["numbers"] (defScope sNT) := ⟨rfl, rfl, rfl, by decide +kernel, rfl, by decide +kernel, by decide +kernel⟩
theorem scWC : FnScope ["coming"] ["coming"] (defScope sWC) := ⟨rfl, rfl, rfl, by decide +kernel, rfl, by decide +kernel, by decide +kernel⟩
theorem ok_nt (T : TxtP mg) (TS : mg "str" = none) (U : TextF K mg) : FnOk P w K mg base CX0 1 U.fNT U.dNT ["numbers"] (spNT K) := by
  refine U.FNT.ok scNT (fun vs H Q E h => ?_) (fun cdv A outer s H vs Q E hr h => ?_)
  · obtain ⟨a, is, rfl, _⟩ := h
    rfl
  · obtain ⟨a, is, rfl, hS, l, b, k⟩ := h
    refine ⟨_, (pss_one (ps_ret (pe_ifExp (pt_truth (pv 0) (fun _ => rfl)) (pe_join pe_str (pe_lc (own := [("number", 1)]) (g := gName 1) (tt := tYes) rfl scNT.nd (pi_list (pv 0)) (blkOk_by (own := [("number", 1)]) (N := ["numbers", "number"]) (sc := defScope sNT) (by decide +kernel)) (fun _ _ _ _ _ => pg_name (i := 1) scNT.nd rfl (Or.inl rfl)) (fun _ _ _ _ _ => pts_nil) (fun _ _ _ _ _ => (pe_callTy call_str_int (by rfl) TS (by decide +kernel) (pa_cons (pv 1) pa_nil))))) pe_str))), ?_⟩
    have lg : ∀ x ∈ is, x.natAbs.log2 < 1920 := fun x hx => PySem.Flt.log2_lt_of (by decide) (Nat.lt_of_lt_of_le (show x.natAbs < 1024 by have := b x hx; omega) (by decide))
    unfold comS at k
    refine ⟨_, rfl, _, .inl ⟨_, hS, rfl⟩, ?_⟩
    by_cases em : is = []
    · subst em
      rw [if_pos rfl] at k
      exact iteF (k H .refl)
    · rw [if_neg em] at k
      rw [show (!(is.map V.int).isEmpty) = true by cases is with | nil => exact absurd rfl em | cons _ _ => rfl]
      refine iteT ⟨⟨_, rfl⟩, _, rfl, a, rfl, ⟨_, hS⟩, fun D hD => lc_listM (K := K) (fun i => V.str (numS (is.getD i 0))) hD hS (by rw [List.length_map]; omega) (fun i x H' R hx sm kR => ?_) fun H1 g1 e1 => ?_⟩
      · have il := (List.getElem?_eq_some_iff.mp hx).1
        rw [List.length_map] at il
        obtain rfl := at_map (d := 0) hx
        have m : is.getD i 0 ∈ is := by
          rw [List.getD_eq_getElem?_getD, List.getElem?_eq_getElem il]
          exact List.getElem_mem il
        exact ⟨rfl, _, rfl, _, rfl, lg _ m, kR _ .refl⟩
      · have e1 : H1 D = some (.lst ((is.map numS).map V.str)) := by
          rw [e1, List.length_map, List.map_map]
          congr 2
          exact rngM is 0 fun x => V.str (numS x)
        refine ⟨_, D, is.map numS, rfl, rfl, .inl (SqL.of e1), ?_, k H1 g1⟩
        have := sum_len b
        rw [List.length_map, show (Str.ofString " ").length = 1 by decide]
        omega
def spWC (K : PySem.W.Frag) : Sp := spNT K
theorem ok_wc (T : TxtP mg) (TS : mg "str" = none) (U : TextF K mg) : FnOk P w K mg base CX0 2 U.fWC U.dWC ["coming"] (spWC K) := by
  have GNT : FnOk P w K mg base CX0 1 U.fNT U.dNT ["numbers"] (spNT K) := ok_nt T TS U
  refine U.FWC.ok scWC (fun vs H Q E h => ?_) (fun cdv A outer s H vs Q E hr h => ?_)
  · obtain ⟨a, is, rfl, _⟩ := h
    rfl
  · obtain ⟨a, is, rfl, r⟩ := h
    exact ⟨_, (pss_one (ps_ret (pe_call GNT (hr.mono (by decide)) rfl U.gNT U.FNT.kp U.bNT .nil pass0 (pa_cons (pv 0) pa_nil)))), _, rfl, a, is, rfl, r⟩
end
end K50

namespace K50
open PySem PySem.Spec PyProof.Rows L2 SortR LcM RepA TL
section
variable {K : PySem.W.Frag} {g : TG} {tk tv : TE} {vs : List Nat} {σ : L2.St} {H0 : Hp} {D : Addr} {Qd : Hp → Prop}
/-- {k: v for i in range(lo, lo + n)}, keys ints or texts -/
theorem dc_rangeM {lo : Int} {n : Nat} (G : Nat → L2.Key) (F : Nat → V) (hD : H0 D = none) (small : n ≤ 1000000)
    (turn : ∀ (i : Nat) (H : Hp) (R : V → Hp → V → Hp → Prop), i < n → Grows H0 H → (∀ H4 H5, Grows H H4 → Grows H4 H5 → R (kV (G i)) H4 (F i) H5) →
      g (.int (lo + i)) (wipe σ vs) H fun σ2 H2 => wipe σ2 vs = wipe σ vs ∧ tk σ2 H2 fun y H4 => tv σ2 H4 fun z H5 => R y H4 z H5)
    (done : ∀ H, Grows H0 H → H D = some (.dK (laid (fun _ => true) G F n)) → Qd H) :
    ∃ W : Nat → Nat → Hp → Prop, (∃ m, W 0 m (upd H0 D (.dK []))) ∧ ∀ i m H, W i m H →
      ((Itr lo n).stop i H ∧ Qd H) ∨ ((Itr lo n).go i H ∧ ∃ Nx : Hp → Prop, (∀ H', Nx H' → ∃ m', m' < m ∧ W (i + 1) m' H') ∧ ∀ x H', (Itr lo n).yld i H x H' → g x (wipe σ vs) H' fun σ2 H2 => wipe σ2 vs = wipe σ vs ∧ tYes σ2 H2 fun b H3 =>
        if b = true then tk σ2 H3 fun y H4 => tv σ2 H4 fun z H5 => ∃ kvs k, y = kV k ∧ H5 D = some (.dK kvs) ∧ kvs.length < sizeLine ∧ Nx (upd H5 D (.dK (putK kvs k z))) else Nx H3) := by
  let inv : Nat → Hp → Prop := fun i H => Grows H0 H ∧ H D = some (.dK (laid (fun _ => true) G F i))
  refine ⟨fun i m H => m = n - i ∧ i ≤ n ∧ inv i H, ⟨_, rfl, Nat.zero_le _, Grows.new hD, upd_same⟩, ?_⟩
  rintro i m H ⟨rfl, hi, pv⟩
  rcases Nat.lt_or_ge i n with lt | ge
  · refine .inr ⟨lt, inv (i + 1), fun H' p' => ⟨n - (i + 1), by omega, rfl, lt, p'⟩, fun v H' y => ?_⟩
    obtain ⟨rfl, rfl⟩ := y
    have e0 : (fun (σ2 : L2.St) (H2 : Hp) => wipe σ2 vs = wipe σ vs ∧ tYes σ2 H2 fun b H3 => if b = true then tk σ2 H3 fun y H4 => tv σ2 H4 fun z H5 => ∃ kvs k, y = kV k ∧ H5 D = some (.dK kvs) ∧ kvs.length < sizeLine ∧ inv (i + 1) (upd H5 D (.dK (putK kvs k z))) else inv (i + 1) H3) =
        fun σ2 H2 => wipe σ2 vs = wipe σ vs ∧ tk σ2 H2 fun y H4 => tv σ2 H4 fun z H5 => ∃ kvs k, y = kV k ∧ H5 D = some (.dK kvs) ∧ kvs.length < sizeLine ∧ inv (i + 1) (upd H5 D (.dK (putK kvs k z))) := by
      funext σ2 H2
      unfold tYes
      dsimp only
      rw [if_pos rfl]
    rw [e0]
    refine turn i _ (fun y _ z H5 => ∃ kvs k, y = kV k ∧ H5 D = some (.dK kvs) ∧ kvs.length < sizeLine ∧ inv (i + 1) (upd H5 D (.dK (putK kvs k z)))) lt pv.1 fun H4 H5 s4 s5 => ⟨_, G i, rfl, s5 _ _ (s4 _ _ pv.2), ?_, fun b o e => ?_, ?_⟩
    · exact Nat.lt_of_le_of_lt (laid_le _ G F i) (Nat.lt_of_lt_of_le lt (Nat.le_trans small (by decide)))
    · rw [upd_ne (ne_of_none e hD)]
      exact s5 _ _ (s4 _ _ (pv.1 _ _ e))
    · rw [upd_same]
      rfl
  · have e : i = n := by omega
    subst e
    exact .inl ⟨Nat.le_refl _, done H pv.1 pv.2⟩
end
/-- what stands at a key, the keys being unlike -/
theorem laid_at (G : Nat → L2.Key) (F : Nat → V) (inj : ∀ i j, G i = G j → i = j) : ∀ (n i : Nat), i < n → valV (laid (fun _ => true) G F n) (G i) = some (F i)
  | n + 1, i, h => by
    unfold laid
    rw [if_pos rfl, valV_put]
    by_cases e : G i = G n
    · rw [if_pos e, inj _ _ e]
    · rw [if_neg e]
      exact laid_at G F inj n i (by
        rcases Nat.lt_or_ge i n with z | z
        · exact z
        · exact absurd (congrArg G (show i = n by omega)) e)
theorem join_len : ∀ ys : List Str, (Txt.join blank ys).length ≤ (ys.map (·.length)).sum + ys.length := fun ys => by
  have e : (Txt.join blank ys).length = (joinL [32] (ys.map tl)).length := by
    rw [len_tl, join_eq, tl_join]
    rfl
  rw [e]
  have f : ∀ l : List (List Nat), (joinL [32] l).length ≤ (l.map List.length).sum + l.length := fun l => by
    induction l with
    | nil => simp [joinL]
    | cons x r ih =>
      cases r with
      | nil => simp [joinL]
      | cons y z =>
        show (x ++ ([32] ++ joinL [32] (y :: z))).length ≤ _
        rw [List.length_append, List.length_append, List.map_cons, List.sum_cons]
        have h1 : [32].length = 1 := rfl
        have h2 : (x :: y :: z).length = (y :: z).length + 1 := rfl
        omega
  have h := f (ys.map tl)
  rw [List.map_map, List.length_map] at h
  have e2 : ys.map (List.length ∘ tl) = ys.map (·.length) := List.map_congr_left fun y _ => (len_tl y).symm
  rw [e2] at h
  exact h
def spRC : Sp := fun vs H Q _ => ∃ is : List Int, vs = [.str (comS is)] ∧ Bnd is ∧ is.length ≤ 19 ∧ ∀ (D : Addr) (H' : Hp), Grows H H' → H D = none → H' D = some (.lst (is.map V.int)) → Q (.ref D) H'
section
variable {P : Program} {w : World} {K : PySem.W.Frag} {mg : Str → Option Value} {base : Heap}
theorem scRC : FnScope ["text", "words", "coming", "place", "word", "items", "item"] ["text"] (defScope sRC) := ⟨rfl, rfl, rfl, by decide +kernel, rfl, by decide +kernel, by decide +kernel⟩
theorem ok_rc (Z : ProgF K mg) (T : TxtP mg) (TS : mg "str" = none) (U : TextF K mg) : FnOk P w K mg base CX0 1 U.fRC U.dRC ["text"] spRC := by
  refine U.FRC.ok scRC (fun vs H Q E h => ?_) (fun cdv A outer s H vs Q E hr h => ?_)
  · obtain ⟨is, rfl, _⟩ := h
    rfl
  · obtain ⟨is, rfl, b, l, k⟩ := h
    refine ⟨_, (pss_cons (ps_set (i := 1) scRC.nd rfl (.inl rfl) (pe_split (pv 0) pe_str))
      (pss_cons (ps_if (pt_cmpR op_eq (pe_ix (r := rIxL K) ix_list (pv 1) pe_int (fun _ _ => rfl)) pe_str (nomark _)) (pss_cons (ps_if (pt_cmpR op_gt (pe_callB call_len_seq (by rfl) T.len (by decide +kernel) (pa_cons (pv 1) pa_nil)) pe_int (nomark _)) (pss_one ps_never) pss_nil)
      (pss_one (ps_ret (pe_lst pa_nil)))) pss_nil)
      (pss_cons (ps_set (i := 2) scRC.nd rfl (.inl rfl) (pe_lst pa_nil))
      (pss_cons (ps_for PassesOwn.never rfl (pi_enum (by rfl) T.enumerate (pa_cons (pv 1) pa_nil)) (pg_tup (by rfl) (pgs_cons (pg_name (i := 3) scRC.nd rfl (.inl rfl)) (pgs_cons (pg_name (i := 4) scRC.nd rfl (.inl rfl)) pgs_nil)))
      (pss_cons (DcK.ps_setDc (i := 5) (own := [("item", 6)]) (g := gName 6) (tt := tYes) rfl scRC.nd rfl rfl (DcT.sw_dict rfl rfl rfl (by decide +kernel)) (pi_range2 (by rfl) T.range (pa_cons (pe_un un_neg (pv 3)) (pa_cons (pe_op op_add (pv 3) pe_int) pa_nil))) (blkOk_by (own := [("item", 6)]) (N := ["text", "words", "coming", "place", "word", "items", "item"]) (sc := defScope sRC) (by decide +kernel)) (fun _ _ _ _ _ => pg_name (i := 6) scRC.nd rfl (Or.inl rfl)) (fun _ _ _ _ _ => pts_nil) (fun _ _ _ _ _ => (pe_callTy call_str_int (by rfl) TS (by decide +kernel) (pa_cons (pv 6) pa_nil))) (fun _ _ _ _ _ => (pv 6)))
      (pss_cons (ps_if (PW.pt (pw_or (pt_cmp (pc_dnotin (hu_of hr) (pv 4) (pv 5))) (pw_or1 (pt_cmpR op_ge (pv 3) (pe_op op_sub (pe_glob (v := .int 20) rfl Z.gMost ⟨_, rfl⟩) pe_int) (nomark _))))) (pss_one ps_never) pss_nil)
      (pss_one (ps_expr (pe_bm PySem.F.plainAttrs_list PySem.F.slot_list_append PySem.F.type_list_append mt_append (pv 2) (pa_cons (pe_dget (hu_of hr) (pv 5) (pv 4) (fun _ _ => rfl)) pa_nil)))))))
      (pss_one (ps_ret (pv 2))))))), ?_⟩
    by_cases em : is = []
    · subst em
      have e0 : comS [] = dash := by unfold comS; rw [if_pos rfl]
      rw [e0]
      refine ⟨_, rfl, ⟨_, rfl⟩, dash, blank, rfl, rfl, by decide, by decide, fun p hp => ?_⟩
      rw [split_dash]
      have e1 : upd H p (.lst ([dash].map V.str)) p = some (.lst ([dash].map V.str)) := upd_same
      refine ⟨_, rfl, p, _, _, _, rfl, rfl, SqL.of e1, atI_nat (j := 0) rfl, rfl, _, rfl, ?_⟩
      rw [decide_eq_true (show V.str dash = V.str (Str.ofString "-") from rfl)]
      refine iteT ⟨_, rfl, p, _, rfl, .inl (SqL.of e1), _, _, rfl, rfl, _, rfl, ?_⟩
      refine iteF ⟨(by show 0 ≤ sizeLine; decide), fun q hq => k q _ ((Grows.new hp).trans (Grows.new hq)) (none_back (Grows.new hp) hq) upd_same⟩
    · have sp := split_com em
      have rg : ∀ x ∈ is, -99 ≤ x ∧ x ≤ 99 := fun x hx => by
        obtain ⟨j, jl, rfl⟩ := List.getElem_of_mem hx
        have := b j _ (List.getElem?_eq_getElem jl)
        omega
      have cl : (comS is).length + 2 ≤ sizeLine := by
        have h1 := join_len (is.map numS)
        have h2 := sum_len rg
        rw [List.length_map] at h1
        unfold comS
        rw [if_neg em]
        have : (1000 : Nat) ≤ sizeLine := by decide
        omega
      refine ⟨_, rfl, ⟨_, rfl⟩, comS is, blank, rfl, rfl, by decide, cl, fun p hp => ?_⟩
      rw [sp]
      have e1 : upd H p (.lst ((is.map numS).map V.str)) p = some (.lst ((is.map numS).map V.str)) := upd_same
      have g1 : Grows H (upd H p (.lst ((is.map numS).map V.str))) := Grows.new hp
      generalize upd H p (.lst ((is.map numS).map V.str)) = H1 at e1 g1
      have w0 : atI ((is.map numS).map V.str) 0 = some (V.str (numS (is.getD 0 0))) := by
        cases is with
        | nil => exact absurd rfl em
        | cons x _ => exact atI_nat (j := 0) rfl
      refine ⟨_, rfl, p, _, _, _, rfl, rfl, SqL.of e1, w0, rfl, _, rfl, ?_⟩
      rw [decide_eq_false (show ¬ V.str (numS (is.getD 0 0)) = V.str (Str.ofString "-") from fun z => numS_dash _ (L2.V.str.inj z))]
      refine iteF ⟨(by show 0 ≤ sizeLine; decide), fun m hm => ?_⟩
      have g2 : Grows H1 (upd H1 m (.lst [])) := Grows.new hm
      have mn : H m = none := none_back g1 hm
      refine ⟨_, rfl, p, _, rfl, SqL.of (g2 _ _ e1), for_enumL (K := K) (xs := (is.map numS).map V.str) (fun i σ G => ∃ o3 o4 o5 : Option V, σ = [some (.str (comS is)), some (.ref p), some (.ref m), o3, o4, o5, none] ∧ Grows H1 G ∧ G m = some (.lst ((is.take i).map V.int)))
        ⟨none, none, none, rfl, g2, upd_same⟩ (fun i σ G ⟨_, _, _, _, g, _⟩ => SqL.of (g _ _ e1)) (fun i x T' σ G hx ⟨o3, o4, o5, e, g, em'⟩ hT => ?_) fun σ G ⟨o3, o4, o5, e, g, em'⟩ => ?_⟩
      · subst e
        have il := (List.getElem?_eq_some_iff.mp hx).1
        rw [List.length_map, List.length_map] at il
        have ex : is[i]? = some is[i] := List.getElem?_eq_getElem il
        have bd := b i _ ex
        rw [List.getElem?_map, List.getElem?_map, ex] at hx
        obtain rfl := Option.some.inj hx
        have gT : Grows G (upd G T' (.tup [V.int (i : Nat), V.str (numS is[i])])) := Grows.new hT
        refine ⟨T', _, rfl, SqT.of upd_same, rfl, _, _, rfl, _, _, rfl, rfl, ?_⟩
        generalize upd G T' (.tup [V.int (i : Nat), V.str (numS is[i])]) = G1 at gT
        have inj : ∀ a c : Nat, (Sum.inr (numS (-(i : Int) + (a : Int))) : L2.Key) = Sum.inr (numS (-(i : Int) + (c : Int))) → a = c := fun a c e => by
          have := numS_injZ (Sum.inr.inj e)
          omega
        refine ⟨_, rfl, _, rfl, _, rfl, _, _, rfl, rfl, _, _, rfl, by omega, fun D hD => dc_rangeM (lo := -(i : Int)) (n := ((i : Int) + 1 - -(i : Int)).toNat) (fun a => Sum.inr (numS (-(i : Int) + (a : Int)))) (fun a => V.int (-(i : Int) + (a : Int))) hD (by omega) (fun a H' R al sm kR => ?_) fun G2 g3 e3 => ?_⟩
        · exact ⟨rfl, _, rfl, _, rfl, PySem.Flt.log2_lt_of (by decide) (Nat.lt_of_lt_of_le (show (-(i : Int) + (a : Int)).natAbs < 1024 by omega) (by decide)), _, rfl, kR _ _ .refl .refl⟩
        · have at_ : valV (laid (fun _ => true) (fun a : Nat => (Sum.inr (numS (-(i : Int) + (a : Int))) : L2.Key)) (fun a => V.int (-(i : Int) + (a : Int))) ((i : Int) + 1 - -(i : Int)).toNat) (Sum.inr (numS is[i])) = some (V.int is[i]) := by
            have := laid_at (fun a : Nat => (Sum.inr (numS (-(i : Int) + (a : Int))) : L2.Key)) (fun a => V.int (-(i : Int) + (a : Int))) inj ((i : Int) + 1 - -(i : Int)).toNat (is[i] + (i : Int)).toNat (by omega)
            rw [show -(i : Int) + (((is[i] + (i : Int)).toNat : Nat) : Int) = is[i] by omega] at this
            exact this
          have dg : DGet G2 D (V.str (numS is[i])) (some (V.int is[i])) := by
            have := DGet.k (k := Sum.inr (numS is[i])) e3
            rw [at_] at this
            exact this
          have em2 := g3 _ _ (gT _ _ em')
          refine ⟨_, rfl, _, rfl, D, _, rfl, dg, _, rfl, ?_⟩
          refine iteF ⟨_, rfl, _, _, rfl, rfl, _, _, rfl, rfl, _, rfl, ?_⟩
          rw [decide_eq_false (show ¬ ((20 : Int) - 1) ≤ (i : Int) by omega)]
          refine iteF ⟨_, rfl, .inl ⟨rfl, _, SqL.of em2⟩, _, rfl, _, rfl, D, _, rfl, dg, m, _, _, rfl, rfl, em2, ?_, ?_⟩
          · rw [List.length_map, List.length_take]
            exact Nat.lt_of_le_of_lt (show min i is.length ≤ 100 by omega) (by decide)
          · refine ⟨_, _, _, rfl, fun b o e => ?_, ?_⟩
            · rw [upd_ne (ne_of_none e hm)]
              exact g3 _ _ (gT _ _ (g _ _ e))
            · rw [upd_same, List.take_succ, ex, List.map_append]
              rfl
      · subst e
        rw [List.length_map, List.length_map, List.take_of_length_le (Nat.le_refl _)] at em'
        exact ⟨_, rfl, k m _ (g1.trans g) mn em'⟩
end
end K50

namespace K50
open PySem PySem.Spec PyProof.Rows L2 SortR LcM RepA TL
def st0 : Stk := ([], [], [])
structure GbI (H : Hp) (a d pa oa ga : Addr) (s : Stk) (G : Hp) : Prop where
  gr : Grows H G
  ed : G d = some (.dK (laid (fun _ => true) (fun i : Nat => (Sum.inr (numS (0 + (i : Int))) : L2.Key)) (fun i => V.int (0 + (i : Int))) 20))
  np : H pa = none
  no : H oa = none
  ng : H ga = none
  ep : G pa = some (.lst (s.1.map V.int))
  eo : G oa = some (.lst (s.2.1.map V.int))
  pos : ∀ x ∈ s.2.1, (0 : Int) ≤ x
  po : pa ≠ oa
  pg : pa ≠ ga
  og : oa ≠ ga
  ex : ∃ fs : List (Addr × List Int), fs.map (·.2) = s.2.2 ∧ G ga = some (.lst (fs.map fun f => V.ref f.1)) ∧ ∀ f ∈ fs, G f.1 = some (.lst (f.2.map V.int)) ∧ H f.1 = none ∧ f.1 ≠ pa ∧ f.1 ≠ oa ∧ f.1 ≠ ga
def spGB (K : PySem.W.Frag) : Sp := fun vs H Q _ => ∃ (a : Addr) (ws : List Str), vs = [.ref a] ∧ SqL K H a (ws.map V.str) ∧ ws.length ≤ 1000 ∧ Lgl st0 ws ∧
  ∀ (q : Addr) (cs : List (Addr × List Int)) (H' : Hp), cs.map (·.2) = ((ws.foldl stp st0).2.2).mergeSort (fun p q => decide (p ≤ q)) → Grows H H' → H q = none → H' q = some (.lst (cs.map fun c => V.ref c.1)) → (∀ c ∈ cs, H' c.1 = some (.lst (c.2.map V.int)) ∧ H c.1 = none ∧ c.1 ≠ q) → Q (.ref q) H'
theorem GbI.keep {H : Hp} {a d pa oa ga : Addr} {s : Stk} {G G' : Hp} (g : GbI H a d pa oa ga s G) (w : Grows G G') : GbI H a d pa oa ga s G' := by
  obtain ⟨fs, e1, e2, e3⟩ := g.ex
  exact ⟨g.gr.trans w, w _ _ g.ed, g.np, g.no, g.ng, w _ _ g.ep, w _ _ g.eo, g.pos, g.po, g.pg, g.og, fs, e1, w _ _ e2, fun f hf => ⟨w _ _ (e3 f hf).1, (e3 f hf).2⟩⟩
theorem GbI.setO {H : Hp} {a d pa oa ga : Addr} {s : Stk} {G : Hp} (g : GbI H a d pa oa ga s G) (op : List Int) (pos : ∀ x ∈ op, (0 : Int) ≤ x) : GbI H a d pa oa ga (s.1, op, s.2.2) (upd G oa (.lst (op.map V.int))) := by
  obtain ⟨fs, e1, e2, e3⟩ := g.ex
  have nd : d ≠ oa := fun e => by have := g.ed; rw [e, g.eo] at this; cases this
  refine ⟨fun b o e => ?_, by rw [upd_ne nd]; exact g.ed, g.np, g.no, g.ng, by rw [upd_ne g.po]; exact g.ep, upd_same, pos, g.po, g.pg, g.og, fs, e1, by rw [upd_ne g.og.symm]; exact e2, fun f hf => ⟨by rw [upd_ne (e3 f hf).2.2.2.1]; exact (e3 f hf).1, (e3 f hf).2⟩⟩
  rw [upd_ne (ne_of_none e g.no)]
  exact g.gr _ _ e
theorem GbI.setP {H : Hp} {a d pa oa ga : Addr} {s : Stk} {G : Hp} (g : GbI H a d pa oa ga s G) (ps : List Int) : GbI H a d pa oa ga (ps, s.2.1, s.2.2) (upd G pa (.lst (ps.map V.int))) := by
  obtain ⟨fs, e1, e2, e3⟩ := g.ex
  have nd : d ≠ pa := fun e => by have := g.ed; rw [e, g.ep] at this; cases this
  refine ⟨fun b o e => ?_, by rw [upd_ne nd]; exact g.ed, g.np, g.no, g.ng, upd_same, by rw [upd_ne g.po.symm]; exact g.eo, g.pos, g.po, g.pg, g.og, fs, e1, by rw [upd_ne g.pg.symm]; exact e2, fun f hf => ⟨by rw [upd_ne (e3 f hf).2.2.1]; exact (e3 f hf).1, (e3 f hf).2⟩⟩
  rw [upd_ne (ne_of_none e g.np)]
  exact g.gr _ _ e
theorem GbI.addG {H : Hp} {a d pa oa ga : Addr} {s : Stk} {G : Hp} (g : GbI H a d pa oa ga s G) {q : Addr} {r : List Int} (eq : G q = some (.lst (r.map V.int))) (nq : H q = none) (n1 : q ≠ pa) (n2 : q ≠ oa) (n3 : q ≠ ga) :
    ∃ xs : List V, G ga = some (.lst xs) ∧ xs.length = s.2.2.length ∧ GbI H a d pa oa ga (s.1, s.2.1, s.2.2 ++ [r]) (upd G ga (.lst (xs ++ [V.ref q]))) := by
  obtain ⟨fs, e1, e2, e3⟩ := g.ex
  have nd : d ≠ ga := fun e => by have := g.ed; rw [e, e2] at this; cases this
  refine ⟨_, e2, by rw [List.length_map, ← e1, List.length_map], fun b o e => ?_, by rw [upd_ne nd]; exact g.ed, g.np, g.no, g.ng, by rw [upd_ne g.pg]; exact g.ep, by rw [upd_ne g.og]; exact g.eo, g.pos, g.po, g.pg, g.og, fs ++ [(q, r)], by rw [List.map_append, e1]; rfl, by rw [upd_same, List.map_append]; rfl, fun f hf => ?_⟩
  · rw [upd_ne (ne_of_none e g.ng)]
    exact g.gr _ _ e
  · rcases List.mem_append.mp hf with h | h
    · exact ⟨by rw [upd_ne (e3 f h).2.2.2.2]; exact (e3 f h).1, (e3 f h).2⟩
    · rw [List.mem_singleton.mp h]
      exact ⟨by rw [upd_ne n3]; exact eq, nq, n1, n2, n3⟩
def tot (s : Stk) : Nat := s.1.length + s.2.1.length + s.2.2.length
theorem stp_tot (s : Stk) (w : Str) : tot (stp s w) ≤ tot s + 1 := by
  unfold stp tot
  split
  · simp only [List.length_append, List.length_singleton]
    omega
  · split
    · simp only [List.length_append, List.length_singleton, List.length_dropLast]
      omega
    · split
      · simp only [List.length_append, List.length_singleton]
        omega
      · omega
theorem run_tot : ∀ (ws : List Str) (s : Stk), tot (ws.foldl stp s) ≤ tot s + ws.length
  | [], _ => Nat.le_refl _
  | w :: ws, s => by
    have := run_tot ws (stp s w)
    have := stp_tot s w
    rw [List.foldl_cons, List.length_cons]
    omega
theorem sIx_drop (ps : List Int) {k : Int} (h : 0 ≤ k) : cutV (ps.map V.int) (some k) none = (ps.drop k.toNat).map V.int := by
  unfold cutV
  have e1 : HT.sIx (ps.map V.int).length 0 (some k) = min k.toNat ps.length := by
    rw [List.length_map]
    unfold HT.sIx
    simp only
    rw [if_neg (by omega)]
  have e2 : HT.sIx (ps.map V.int).length (ps.map V.int).length none = ps.length := by
    rw [List.length_map]
    rfl
  rw [e1, e2, ← List.map_drop, ← List.map_take, List.take_of_length_le (by rw [List.length_drop]; omega)]
  congr 1
  rcases Nat.le_total k.toNat ps.length with l | l
  · rw [Nat.min_eq_left l]
  · rw [Nat.min_eq_right l, List.drop_length, List.drop_eq_nil_of_le l]
theorem wp_some {w : Str} {p : Int} (h : wp w = some p) : 0 ≤ p ∧ p ≤ 19 ∧ w = numS p := by
  unfold wp at h
  obtain ⟨i, hi, rfl⟩ := Option.map_eq_some_iff.mp h
  have h1 := List.mem_of_find?_eq_some hi
  have h2 := List.find?_some hi
  have := List.mem_range.mp h1
  exact ⟨by omega, by omega, (of_decide_eq_true h2).symm⟩
section
variable {P : Program} {w : World} {K : PySem.W.Frag} {mg : Str → Option Value} {base : Heap}
theorem scGB : FnScope ["words", "persons_by_word", "person", "persons", "opened", "groups", "word"] ["words"] (defScope sGB) := ⟨rfl, rfl, rfl, by decide +kernel, rfl, by decide +kernel, by decide +kernel⟩
theorem ok_gb (Z : ProgF K mg) (T : TxtP mg) (TS : mg "str" = none) (U : TextF K mg) : FnOk P w K mg base CX0 1 U.fGB U.dGB ["words"] (spGB K) := by
  refine U.FGB.ok scGB (fun vs H Q E h => ?_) (fun cdv A outer s H vs Q E hr h => ?_)
  · obtain ⟨a, ws, rfl, _⟩ := h
    rfl
  · obtain ⟨a, ws, rfl, hS, wl, lg, k⟩ := h
    refine ⟨_, (pss_cons (DcK.ps_setDc (i := 1) (own := [("person", 2)]) (g := gName 2) (tt := tYes) rfl scGB.nd rfl rfl (DcT.sw_dict rfl rfl rfl (by decide +kernel)) (pi_range1 (by rfl) T.range (pa_cons (pe_glob (v := .int 20) rfl Z.gMost ⟨_, rfl⟩) pa_nil)) (blkOk_by (own := [("person", 2)]) (N := ["words", "persons_by_word", "person", "persons", "opened", "groups", "word"]) (sc := defScope sGB) (by decide +kernel)) (fun _ _ _ _ _ => pg_name (i := 2) scGB.nd rfl (Or.inl rfl)) (fun _ _ _ _ _ => pts_nil) (fun _ _ _ _ _ => (pe_callTy call_str_int (by rfl) TS (by decide +kernel) (pa_cons (pv 2) pa_nil))) (fun _ _ _ _ _ => (pv 2)))
      (pss_cons (ps_par3 (i := 3) (j := 4) (l := 5) (by rfl) scGB.nd rfl rfl rfl (by decide) (by decide) (by decide) rfl rfl rfl (pa_cons (pe_lst pa_nil) (pa_cons (pe_lst pa_nil) (pa_cons (pe_lst pa_nil) pa_nil))) (by rfl))
      (pss_cons (ps_for PassesOwn.never rfl (pi_list (pv 0)) (pg_name (i := 6) scGB.nd rfl (.inl rfl))
      (pss_one (ps_if (pt_cmpR op_eq (pv 6) pe_str (nomark _)) (pss_one (ps_expr (pe_bm PySem.F.plainAttrs_list PySem.F.slot_list_append PySem.F.type_list_append mt_append (pv 4) (pa_cons (pe_callB call_len_seq (by rfl) T.len (by decide +kernel) (pa_cons (pv 3) pa_nil)) pa_nil)))) (pss_one (ps_if (PW.pt (pw_and (pt_cmpR op_eq (pv 6) pe_str (nomark _)) (pw_and1 (pt_truth (pv 4) (fun _ => rfl))))) (pss_one (ps_expr (pe_bm PySem.F.plainAttrs_list PySem.F.slot_list_append PySem.F.type_list_append mt_append (pv 5) (pa_cons (pe_callB (call_sortedInts hr.units) (by rfl) T.sorted (by decide +kernel) (pa_cons (pe_slice (r := rSlL K) (by exact sl_list) (pv 3) (po_some (pe_bm0 PySem.F.plainAttrs_list PySem.F.slot_list_pop PySem.F.type_list_pop mt_pop (pv 4))) po_none) pa_nil)) pa_nil)))) (pss_one (ps_if (pt_cmp (pc_din (hu_of hr) (pv 6) (pv 1))) (pss_one (ps_expr (pe_bm PySem.F.plainAttrs_list PySem.F.slot_list_append PySem.F.type_list_append mt_append (pv 3) (pa_cons (pe_dget (hu_of hr) (pv 1) (pv 6) (fun _ _ => rfl)) pa_nil)))) (pss_one ps_never))))))))
      (pss_one (ps_ret (pe_callB (call_sortedR hr.units) (by rfl) T.sorted (by decide +kernel) (pa_cons (pv 5) pa_nil))))))), ?_⟩
    refine ⟨_, rfl, by decide, by decide, fun d hd => dc_rangeM (lo := 0) (n := 20) (fun i => Sum.inr (numS (0 + (i : Int)))) (fun i => V.int (0 + (i : Int))) hd (by decide) (fun i H' R il sm kR => ?_) fun H1 g1 e1 => ?_⟩
    · exact ⟨rfl, _, rfl, _, rfl, PySem.Flt.log2_lt_of (by decide) (Nat.lt_of_lt_of_le (show (0 + (i : Int)).natAbs < 1024 by omega) (by decide)), _, rfl, kR _ _ .refl .refl⟩
    · refine ⟨(by show 0 ≤ sizeLine; decide), fun pa hp => ⟨(by show 0 ≤ sizeLine; decide), fun oa ho => ⟨(by show 0 ≤ sizeLine; decide), fun ga hg => ⟨_, _, _, rfl, ?_⟩⟩⟩⟩
      have a1 : Grows H1 (upd H1 pa (.lst [])) := Grows.new hp
      have a2 : Grows (upd H1 pa (.lst [])) (upd (upd H1 pa (.lst [])) oa (.lst [])) := Grows.new ho
      have a3 : Grows (upd (upd H1 pa (.lst [])) oa (.lst [])) (upd (upd (upd H1 pa (.lst [])) oa (.lst [])) ga (.lst [])) := Grows.new hg
      have n1 : oa ≠ pa := fun e => by rw [e, upd_same] at ho; cases ho
      have n2 : ga ≠ oa := fun e => by rw [e, upd_same] at hg; cases hg
      have n3 : ga ≠ pa := fun e => by rw [e, upd_ne n1.symm, upd_same] at hg; cases hg
      have gi : GbI H a d pa oa ga st0 (upd (upd (upd H1 pa (.lst [])) oa (.lst [])) ga (.lst [])) :=
        ⟨g1.trans (a1.trans (a2.trans a3)), a3 _ _ (a2 _ _ (a1 _ _ e1)), none_back g1 hp, none_back (g1.trans a1) ho, none_back (g1.trans (a1.trans a2)) hg, a3 _ _ (a2 _ _ upd_same), a3 _ _ upd_same, (fun _ h => nomatch h), n1.symm, n3.symm, n2.symm, [], rfl, upd_same, fun _ h => nomatch h⟩
      generalize upd (upd (upd H1 pa (.lst [])) oa (.lst [])) ga (.lst []) = H2 at gi
      refine ⟨_, rfl, a, rfl, ⟨_, gi.gr.seq hS⟩, for_list (K := K) (xs := ws.map V.str) (fun i σ G => ∃ o6 : Option V, σ = [some (.ref a), some (.ref d), none, some (.ref pa), some (.ref oa), some (.ref ga), o6] ∧ GbI H a d pa oa ga ((ws.take i).foldl stp st0) G)
        ⟨none, rfl, gi⟩ (fun i σ G _ ⟨_, _, g⟩ => g.gr.seq hS) (fun i x σ G hx ⟨o6, e, g⟩ => ?_) fun σ G ⟨o6, e, g⟩ => ?_⟩
      · subst e
        have il := (List.getElem?_eq_some_iff.mp hx).1
        rw [List.length_map] at il
        have ex : ws[i]? = some ws[i] := List.getElem?_eq_getElem il
        rw [List.getElem?_map, ex] at hx
        obtain rfl := Option.some.inj hx
        have leg := lgl_at lg i _ ex
        have nxt : (ws.take (i + 1)).foldl stp st0 = stp ((ws.take i).foldl stp st0) ws[i] := by
          rw [List.take_succ, ex, List.foldl_append]
          rfl
        rw [nxt]
        have tt := run_tot (ws.take i) st0
        rw [List.length_take, show tot st0 = 0 from rfl] at tt
        generalize (ws.take i).foldl stp st0 = st at g leg tt
        generalize ws[i] = wd at leg
        refine ⟨_, rfl, rfl, _, rfl, ?_⟩
        have tt : st.1.length + st.2.1.length + st.2.2.length ≤ 1000 := by
          have : tot st = st.1.length + st.2.1.length + st.2.2.length := rfl
          omega
        have big : (2000 : Nat) ≤ sizeLine := by decide
        rcases leg with e | ⟨e, ne⟩ | ⟨p, wpp⟩
        · subst e
          rw [decide_eq_true (show V.str lb = V.str (Str.ofString "(") from rfl)]
          have z : stp st lb = (st.1, st.2.1 ++ [(st.1.length : Int)], st.2.2) := by
            unfold stp
            rw [if_pos rfl]
          refine iteT ⟨_, rfl, .inl ⟨rfl, _, SqL.of g.eo⟩, _, rfl, pa, _, rfl, .inl (SqL.of g.ep), oa, _, _, rfl, rfl, g.eo, by rw [List.length_map]; omega, _, rfl, ?_⟩
          rw [z]
          have h := g.setO (st.2.1 ++ [(st.1.length : Int)]) fun x hx => by
            rcases List.mem_append.mp hx with h | h
            · exact g.pos x h
            · rw [List.mem_singleton.mp h]
              omega
          rw [List.map_append] at h
          rw [List.length_map]
          exact h
        · subst e
          rw [decide_eq_false (show ¬ V.str rb = V.str (Str.ofString "(") from fun z => rb_ne (L2.V.str.inj z))]
          have z : stp st rb = (st.1, st.2.1.dropLast, st.2.2 ++ [sortI (st.1.drop ((st.2.1.getLast?).getD 0).toNat)]) := by
            unfold stp
            rw [if_neg rb_ne, if_pos ⟨rfl, ne⟩]
          have op : 0 < st.2.1.length := List.length_pos_iff.mpr ne
          have la : st.2.1.getLast? = some (st.2.1.getLast ne) := List.getLast?_eq_some_getLast ne
          have lx : (st.2.1.map V.int)[(st.2.1.map V.int).length - 1]? = some (V.int (st.2.1.getLast ne)) := by
            rw [List.length_map, List.getElem?_map, List.getElem?_eq_getElem (by omega), List.getLast_eq_getElem]
            rfl
          have l0 := g.pos _ (List.getLast_mem ne)
          rw [la] at z
          generalize st.2.1.getLast ne = v at lx l0 z
          refine iteF ⟨_, rfl, rfl, _, rfl, ?_⟩
          rw [decide_eq_true (show V.str rb = V.str (Str.ofString ")") from rfl)]
          refine iteT ⟨_, rfl, _, .inl ⟨_, SqL.of g.eo, rfl⟩, ?_⟩
          rw [show (!(st.2.1.map V.int).isEmpty) = true by cases h : st.2.1 with | nil => exact absurd h ne | cons _ _ => rfl]
          obtain ⟨fs, _, et, _⟩ := g.ex
          have g2 := g.setO st.2.1.dropLast fun x hx => g.pos x (List.dropLast_sublist _ |>.subset hx)
          rw [List.map_dropLast] at g2
          refine iteT ⟨_, rfl, .inl ⟨rfl, _, SqL.of et⟩, _, rfl, _, rfl, .inl ⟨rfl, _, SqL.of g.eo⟩, oa, _, _, rfl, rfl, g.eo, lx, v, rfl, pa, _, rfl, SqL.of g2.ep, fun c nc => ?_⟩
          rw [sIx_drop _ l0]
          generalize upd G oa (.lst (st.2.1.map V.int).dropLast) = G2 at g2 nc
          have w1 := Grows.new (o := .lst ((st.1.drop v.toNat).map V.int)) nc
          refine ⟨c, _, rfl, SqL.of upd_same, fun q hq => ?_⟩
          have w2 := Grows.new (o := .lst (((st.1.drop v.toNat).mergeSort intLe).map V.int)) hq
          have g3 := (g2.keep w1).keep w2
          have n1 : q ≠ pa := fun e => by rw [e, (g2.keep w1).ep] at hq; cases hq
          have n2 : q ≠ oa := fun e => by rw [e, (g2.keep w1).eo] at hq; cases hq
          have n3 : q ≠ ga := fun e => by
            obtain ⟨_, _, x, _⟩ := (g2.keep w1).ex
            rw [e, x] at hq
            cases hq
          obtain ⟨xs, ex', xl, g4⟩ := g3.addG (q := q) (r := (st.1.drop v.toNat).mergeSort intLe) upd_same (none_back (g2.keep w1).gr hq) n1 n2 n3
          refine ⟨ga, xs, _, rfl, rfl, ex', by rw [xl]; show st.2.2.length < sizeLine; omega, _, rfl, ?_⟩
          rw [z]
          exact g4
        · obtain ⟨p0, p1, rfl⟩ := wp_some wpp
          have n1 : numS p ≠ lb := numS_ne p0 (c := 40) (by decide) (by decide)
          have n2 : numS p ≠ rb := numS_ne p0 (c := 41) (by decide) (by decide)
          have z : stp st (numS p) = (st.1 ++ [p], st.2.1, st.2.2) := by
            unfold stp
            rw [if_neg n1, if_neg fun z => n2 z.1, wpp]
          have inj : ∀ a c : Nat, (Sum.inr (numS (0 + (a : Int))) : L2.Key) = Sum.inr (numS (0 + (c : Int))) → a = c := fun a c e => by
            have := numS_injZ (Sum.inr.inj e)
            omega
          have at_ := laid_at (fun i : Nat => (Sum.inr (numS (0 + (i : Int))) : L2.Key)) (fun i => V.int (0 + (i : Int))) inj 20 p.toNat (by omega)
          rw [show (0 : Int) + ((p.toNat : Nat) : Int) = p by omega] at at_
          have dg : DGet G d (V.str (numS p)) (some (V.int p)) := by
            have := DGet.k (k := Sum.inr (numS p)) g.ed
            rw [at_] at this
            exact this
          rw [decide_eq_false (show ¬ V.str (numS p) = V.str (Str.ofString "(") from fun z => n1 (L2.V.str.inj z))]
          refine iteF ⟨_, rfl, rfl, _, rfl, ?_⟩
          rw [decide_eq_false (show ¬ V.str (numS p) = V.str (Str.ofString ")") from fun z => n2 (L2.V.str.inj z))]
          refine iteF ⟨_, rfl, _, rfl, d, _, rfl, dg, _, rfl, iteT ⟨_, rfl, .inl ⟨rfl, _, SqL.of g.ep⟩, _, rfl, _, rfl, d, _, rfl, dg, pa, _, _, rfl, rfl, g.ep, by rw [List.length_map]; omega, _, rfl, ?_⟩⟩
          rw [z]
          have h := g.setP (st.1 ++ [p])
          rw [List.map_append] at h
          exact h
      · subst e
        rw [List.length_map, List.take_of_length_le (Nat.le_refl _)] at g
        obtain ⟨fs, ef, et, each⟩ := g.ex
        refine ⟨_, rfl, ga, fs, rfl, SqL.of et, fun f hf => SqL.of (each f hf).1, fun q hq => ?_⟩
        have gq := Grows.new (o := .lst ((fs.mergeSort rowLe).map fun c => V.ref c.1)) hq
        refine k q (fs.mergeSort rowLe) _ (by rw [sort_rows, ef]) (g.gr.trans gq) (none_back g.gr hq) upd_same fun c hc => ?_
        have m := each c (List.mem_mergeSort.mp hc)
        exact ⟨gq _ _ m.1, m.2.1, fun e => by rw [← e, m.1] at hq; cases hq⟩
end
end K50

namespace K50
open PySem PySem.Spec PyProof.Rows L2 SortR LcM RepA TL
theorem perm_nd {α : Type} [DecidableEq α] : ∀ {xs ys : List α}, xs.Nodup → ys.Nodup → (∀ x, x ∈ xs ↔ x ∈ ys) → xs.Perm ys
  | [], ys, _, _, h => by
    cases ys with
    | nil => exact .refl _
    | cons y t => exact nomatch (h y).mpr List.mem_cons_self
  | x :: xs, ys, hx, hy, h => by
    obtain ⟨nx, n⟩ := List.nodup_cons.mp hx
    have m : x ∈ ys := (h x).mp List.mem_cons_self
    refine (List.Perm.cons x (perm_nd n (hy.erase x) fun z => ?_)).trans (List.perm_cons_erase m).symm
    rw [hy.mem_erase_iff]
    constructor
    · exact fun q => ⟨fun e => nx (by rw [← e]; exact q), (h z).mp (List.mem_cons_of_mem _ q)⟩
    · rintro ⟨q1, q2⟩
      exact (List.mem_cons.mp ((h z).mpr q2)).resolve_left q1
theorem sort_same {xs ys : List (List Int)} (nx : xs.Nodup) (ny : ys.Nodup) (h : ∀ r, r ∈ xs ↔ r ∈ ys) : sortB xs = sortB ys :=
  List.Perm.eq_of_pairwise (le := fun a b : List Int => a ≤ b) (fun a b _ _ h1 h2 => List.le_antisymm h1 h2) (sorted_rows xs) (sorted_rows ys) ((List.mergeSort_perm _ _).trans ((perm_nd nx ny h).trans (List.mergeSort_perm _ _).symm))
/-- the parting of a coming list -/
def lotR (is : List Int) : List (List Int) := sortB (famB is is.length)
theorem lot_mem {is : List Int} {r : List Int} : r ∈ lotR is ↔ r ∈ famB is is.length := (List.mergeSort_perm _ _).mem_iff
theorem lot_len (is : List Int) : (lotR is).length = is.length := by
  unfold lotR
  exact (List.mergeSort_perm _ _).length_eq.trans (famB_len is _)
theorem lot_nd {is : List Int} (b : Bnd is) : (lotR is).Nodup := (List.mergeSort_perm _ _).nodup_iff.mpr ((famB_ok b is.length (Nat.le_refl _)).nice.imp fun {a c} z => z.2)
theorem lot_is {is : List Int} (b : Bnd is) (l : is.length ≤ 19) : isP (lotR is) = true := isP_fam (famB_ok b _ (Nat.le_refl _)) (by rw [famB_len]; omega)
theorem lot_half {is : List Int} {x : List Int} (h : Half (famB is is.length) x) : Half (lotR is) x := by
  rcases h with h | ⟨p, e, p0, p1⟩
  · exact .inl (lot_mem.mpr h)
  · rw [famB_len] at p1
    exact .inr ⟨p, e, p0, by rw [lot_len]; exact p1⟩
theorem lot_par {is : List Int} (b : Bnd is) : Par (lotR is) := by
  have L := lam_fam b (Nat.le_refl is.length)
  refine ⟨fun r h => L.up r (lot_mem.mp h), fun r h => L.two r (lot_mem.mp h), fun r h x hx => ?_, fun x hx y hy => L.nice x (lot_mem.mp hx) y (lot_mem.mp hy), fun g hg => ?_⟩
  · rw [lot_len]
    exact L.rng r (lot_mem.mp h) x hx
  · obtain ⟨x, y, c⟩ := famB_bin b is.length (Nat.le_refl _) g (lot_mem.mp hg)
    exact ⟨x, y, lot_half c.ha, lot_half c.hb, c.mem, c.dis⟩
theorem lot_all {is : List Int} (b : Bnd is) : Half (lotR is) (upto (is.length + 1)) := by
  by_cases e : is.length = 0
  · refine .inr ⟨0, ?_, by decide, by rw [lot_len]; omega⟩
    rw [e]
    rfl
  · obtain ⟨g, hg, hm⟩ := com_all b is.length (by omega) (Nat.le_refl _)
    have L := lam_fam b (Nat.le_refl is.length)
    have eg : g = upto (is.length + 1) := up_same (L.up g hg) (upto_asc _) fun z => by
      rw [hm, upto_mem]
      constructor <;> intro h <;> omega
    rw [← eg]
    exact .inl (lot_mem.mpr hg)
def treeL (is : List Int) : Tr := trG (lotR is) 20 (upto (is.length + 1))
theorem tree_ok {is : List Int} (b : Bnd is) (l : is.length ≤ 19) : TrOk (lotR is) (upto (is.length + 1)) (treeL is) :=
  tr_ok (lot_par b) (by rw [lot_len]; exact l) 20 _ (lot_all b) (by rw [upto_ln]; omega)
/-- the groups between the brackets are the parting -/
theorem tree_back {is : List Int} (b : Bnd is) (l : is.length ≤ 19) : ((treeL is).gs.map sortI).mergeSort (fun p q => decide (p ≤ q)) = lotR is := by
  have t := tree_ok b l
  have e : sortB ((treeL is).gs.map sortI) = sortB (famB is is.length) := sort_same t.gnd ((famB_ok b is.length (Nat.le_refl _)).nice.imp fun {a c} z => z.2) fun r => by
    rw [t.gs, lot_mem]
    refine ⟨fun h => h.1, fun h => ⟨h, fun z hz => ?_⟩⟩
    have L := lam_fam b (Nat.le_refl is.length)
    have := L.rng r h z hz
    exact upto_mem.mpr ⟨this.1, by omega⟩
  exact e
theorem lot_row {is : List Int} (b : Bnd is) {r : List Int} (h : r ∈ lotR is) : r.length ≤ is.length + 1 := by
  have L := lam_fam b (Nat.le_refl is.length)
  have h := lot_mem.mp h
  have q := len_sub (up_nodup (L.up r h)) (ys := upto (is.length + 1)) fun z hz => by
    have := L.rng r h z hz
    exact upto_mem.mpr ⟨this.1, by omega⟩
  rwa [upto_ln] at q
theorem Tr.words_len : ∀ t : Tr, t.words.length + 2 ≤ 3 * t.lv.length
  | .leaf _ => Nat.le_refl 3
  | .node a b => by
    have ha := a.words_len
    have hb := b.words_len
    show (Str.ofString "(" :: (a.words ++ b.words ++ [Str.ofString ")"])).length + 2 ≤ 3 * (a.lv ++ b.lv).length
    rw [List.length_cons, List.length_append, List.length_append, List.length_append, List.length_singleton]
    omega
def spRd (K : PySem.W.Frag) : Sp := fun vs H Q _ => ∃ is : List Int, vs = [.str (treeL is).txt] ∧ Bnd is ∧ is.length ≤ 19 ∧
  ∀ (q : Addr) (cs : List (Addr × List Int)) (H' : Hp), cs.map (·.2) = lotR is → Grows H H' → H q = none → H' q = some (.lst (cs.map fun c => V.ref c.1)) → (∀ c ∈ cs, H' c.1 = some (.lst (c.2.map V.int)) ∧ H c.1 = none ∧ c.1 ≠ q) → Q (.ref q) H'
section
variable {P : Program} {w : World} {K : PySem.W.Frag} {mg : Str → Option Value} {base : Heap}
theorem scRd : FnScope ["text", "parting"] ["text"] (defScope sRd) := ⟨rfl, rfl, rfl, by decide +kernel, rfl, by decide +kernel, by decide +kernel⟩
theorem ok_rd (Z : ProgF K mg) (T : TxtP mg) (TS : mg "str" = none) (U : TextF K mg) : TokF.FnT P w K mg base CX0 23 U.fRd U.dRd ["text"] (spRd K) := by
  have GGB : FnOk P w K mg base CX0 1 U.fGB U.dGB ["words"] (spGB K) := ok_gb Z T TS U
  have GIs : FnOk P w K mg base CX0 5 Z.fIs Z.dIs ["thing"] (spIs K) := ok_is Z T
  have GWr : FnOk P w K mg base CX0 22 U.fWr U.dWr ["parting"] (spWr K) := ok_wr T TS U
  refine TokF.okT U.FRd scRd (fun vs H Q E h => ?_) (fun cdv A outer s H vs Q E hr h => ?_)
  · obtain ⟨is, rfl, _⟩ := h
    rfl
  · obtain ⟨is, rfl, b, l, k⟩ := h
    refine ⟨_, psst_cons (TokF.pst_set (i := 1) (TokF.pet_call GGB (hr.mono (by decide)) rfl U.gGB U.FGB.kp U.bGB .nil pass0 (pat_cons (TokF.pet_split (CwR.pet_replT (CwR.pet_replC (pv 0))) pe_str) pat_nil)) scRd.nd rfl (.inl rfl))
      (psst_cons (PST.of (ps_if (PW.pt (pw_or (pt_not (pt_val (pe_call GIs (hr.mono (by decide)) rfl Z.gIs Z.FIs.kp Z.bIs .nil pass0 (pa_cons (pv 1) pa_nil)))) (pw_or1 (pt_cmpR op_ne (pe_call GWr (hr.mono (by decide)) rfl U.gWr U.FWr.kp U.bWr .nil pass0 (pa_cons (pv 1) pa_nil)) (pv 0) (nomark _))))) (pss_one ps_never) pss_nil))
      (CwR.psst_one (PST.of (ps_ret (pv 1))))), ?_⟩
    have t := tree_ok b l
    have sh := t.short
    rw [upto_ln] at sh
    have wl := (treeL is).words_len
    have ll : (treeL is).lv.length ≤ 20 := by
      have := len_sub t.nd (ys := upto (is.length + 1)) fun z hz => (t.mem z).mp hz
      rw [upto_ln] at this
      omega
    have r1 := TK.replace_len (treeL is).txt (Str.ofString "(") (Str.ofString "( ")
    have r2 := TK.replace_len (Txt.replace (treeL is).txt (Str.ofString "(") (Str.ofString "( ")) (Str.ofString ")") (Str.ofString " )")
    have z1 : (Str.ofString "( ").length = 2 := by decide
    have z2 : (Str.ofString " )").length = 2 := by decide
    have big : (10000 : Nat) ≤ sizeLine := by decide
    rw [z1] at r1
    rw [z2] at r2
    have sp := split_txt t.ok
    obtain ⟨er, lg⟩ := run_tr (treeL is) t.ok [] [] []
    refine ⟨_, rfl, _, rfl, by rw [z1]; omega, _, rfl, by rw [z2]; omega, ⟨_, rfl⟩, _, _, rfl, rfl, by decide, by omega, fun p hp => ?_⟩
    rw [sp]
    have w1 := Grows.new (o := .lst ((treeL is).words.map V.str)) hp
    refine ⟨p, (treeL is).words, rfl, SqL.of upd_same, by omega, lg, fun q cs H1 ec g1 nq tq rows => ?_⟩
    generalize upd H p (.lst ((treeL is).words.map V.str)) = H0 at w1 g1 nq rows
    have ec : cs.map (·.2) = lotR is := by
      rw [ec]
      show (((treeL is).words.foldl stp ([], [], [])).2.2).mergeSort _ = _
      rw [er]
      show ([] ++ (treeL is).gs.map sortI).mergeSort _ = _
      rw [List.nil_append]
      exact tree_back b l
    have cl : cs.length = is.length := by rw [← lot_len is, ← ec, List.length_map]
    have rw1 : Rw K H1 q cs := ⟨SqL.of tq, fun c hc => SqL.of (rows c hc).1⟩
    refine ⟨_, rfl, q, cs, rfl, rw1, ?_, fun H2 g2 => ⟨_, rfl, ?_⟩⟩
    · rw [ec]
      exact ⟨by rw [lot_len]; omega, fun r hr => by have := lot_row b hr; omega⟩
    rw [ec, lot_is b l]
    refine iteF ⟨_, rfl, q, cs, rfl, rw1.keep g2, by rw [ec]; exact lot_par b, by omega, by rw [ec, cl]; exact lot_all b, fun H3 g3 => ⟨_, rfl, rfl, _, rfl, ?_⟩⟩
    rw [ec, cl]
    show if (!decide (V.str (treeL is).txt = V.str (treeL is).txt)) = true then _ else _
    rw [decide_eq_true rfl]
    have g4 := g2.trans g3
    refine iteF ⟨_, rfl, k q cs _ ec (w1.trans (g1.trans g4)) (none_back w1 nq) (g4 _ _ tq) fun c hc => ⟨g4 _ _ (rows c hc).1, none_back w1 (rows c hc).2.1, (rows c hc).2.2⟩⟩
end
end K50

namespace K50
open PySem PySem.Spec PyProof.Rows L2 SortR LcM RepA TL
/-! ### the texts that the law writes out -/
theorem sortB_self {rs : List (List Int)} (h : rs.Pairwise fun p q => decide (p ≤ q) = true) : sortB rs = rs := List.mergeSort_of_pairwise h
theorem lot_a : lotR [0, 0] = [[0, 1, 2], [0, 2]] := by
  unfold lotR
  rw [show famB [0, 0] ([0, 0] : List Int).length = [[0, 1, 2], [0, 2]] by decide +kernel]
  exact sortB_self (by decide +kernel)
theorem lot_b : lotR [0, -1, 2] = [[0, 1], [0, 1, 2, 3], [2, 3]] := by
  unfold lotR
  rw [show famB [0, -1, 2] ([0, -1, 2] : List Int).length = [[0, 1], [0, 1, 2, 3], [2, 3]] by decide +kernel]
  exact sortB_self (by decide +kernel)
theorem lot_0 : lotR [] = [] := sortB_self (by decide)
theorem txt_a : (treeL [0, 0]).txt = Str.ofString "((0 2) 1)" := by
  unfold treeL
  rw [lot_a]
  decide +kernel
theorem txt_b : (treeL [0, -1, 2]).txt = Str.ofString "((0 1) (2 3))" := by
  unfold treeL
  rw [lot_b]
  decide +kernel
theorem txt_0 : (treeL []).txt = Str.ofString "0" := by
  unfold treeL
  rw [lot_0]
  decide +kernel
theorem com_a : comS [0, -1, 2] = Str.ofString "0 -1 2" := by decide +kernel
theorem com_b : comS [0] = Str.ofString "0" := by decide +kernel
theorem com_c : comS [0, -1] = Str.ofString "0 -1" := by decide +kernel
theorem com_0 : comS [] = Str.ofString "-" := by decide +kernel
theorem bnd_of {is : List Int} (h : ((List.range is.length).all fun j => decide (-(j : Int) ≤ is.getD j 0) && decide (is.getD j 0 ≤ (j : Int))) = true) : Bnd is := fun j x e => by
  have jl := (List.getElem?_eq_some_iff.mp e).1
  have z := List.all_eq_true.mp h j (List.mem_range.mpr jl)
  rw [Bool.and_eq_true, decide_eq_true_eq, decide_eq_true_eq, List.getD_eq_getElem?_getD, e] at z
  exact z
theorem bnd_a : Bnd [0, 0] := bnd_of (by decide)
theorem bnd_b : Bnd [0, -1, 2] := bnd_of (by decide)
theorem bnd_0 : Bnd [] := bnd_of (by decide)
theorem bnd_1 : Bnd [0] := bnd_of (by decide)
theorem bnd_2 : Bnd [0, -1] := bnd_of (by decide)
end K50

namespace K50
open PySem PySem.Spec PyProof.Rows L2 SortR LcM RepA
abbrev sRowL : Stmt := top 30
abbrev sByL : Stmt := top 31
abbrev sTextL : Stmt := top 32
abbrev sLaw : Stmt := top 33
/-- the law's own defs, where they stand -/
structure LawG (K : PySem.W.Frag) (mg : Str → Option Value) where
  (fBag fStir fDraw fAlike fRow fBy fText : Addr)
  (dBag dStir dDraw dAlike dRow dBy dText : FuncData)
  FBag : Fun K "_law_bag" "_law_bag" sBag fBag dBag
  FStir : Fun K "_law_stirred" "_law_stirred" sStir fStir dStir
  FDraw : Fun K "_law_draw" "_law_draw" sDraw fDraw dDraw
  FAlike : Fun K "_law_alike" "_law_alike" sAlike fAlike dAlike
  FRow : Fun K "_law_row" "_law_row" sRowL fRow dRow
  FBy : Fun K "_law_by" "_law_by" sByL fBy dBy
  FText : Fun K "_law_text" "_law_text" sTextL fText dText
  gBag : mg "_law_bag" = some (.ref fBag)
  gStir : mg "_law_stirred" = some (.ref fStir)
  gDraw : mg "_law_draw" = some (.ref fDraw)
  gAlike : mg "_law_alike" = some (.ref fAlike)
  gRow : mg "_law_row" = some (.ref fRow)
  gBy : mg "_law_by" = some (.ref fBy)
  gText : mg "_law_text" = some (.ref fText)
  bBag : Binds K dBag ["script"] []
  bStir : Binds K dStir ["bag", "wide"] []
  bDraw : Binds K dDraw ["bag", "wide"] []
  bAlike : Binds K dAlike ["found", "due"] []
  bRow : Binds K dRow ["bag", "wide"] []
  bBy : Binds K dBy ["row"] []
  bText : Binds K dText ["lot", "one"] []
theorem base_is {rs : List (List Int)} {item : Int} (h0 : -(rs.length : Int) ≤ item) : baseB rs item ∈ rs ∨ ∃ p, baseB rs item = [p] := by
  unfold baseB
  by_cases c : 0 ≤ item
  · rw [if_pos c]
    exact .inr ⟨item, rfl⟩
  · rw [if_neg c]
    have lt : (0 - item - 1).toNat < rs.length := by omega
    rw [List.getD_eq_getElem?_getD, List.getElem?_eq_getElem lt]
    exact .inl (List.getElem_mem lt)
structure Rl (H : Hp) (a : Addr) (cs : List (Addr × List Int)) : Prop where
  top : H a = some (.lst (cs.map fun c => V.ref c.1))
  each : ∀ c ∈ cs, H c.1 = some (.lst (c.2.map V.int))
theorem Rl.keep {H H' : Hp} {a : Addr} {cs : List (Addr × List Int)} (r : Rl H a cs) (g : Grows H H') : Rl H' a cs := ⟨g _ _ r.top, fun c m => g _ _ (r.each c m)⟩
theorem Rl.rw {K : PySem.W.Frag} {H : Hp} {a : Addr} {cs : List (Addr × List Int)} (r : Rl H a cs) : Rw K H a cs := ⟨SqL.of r.top, fun c m => SqL.of (r.each c m)⟩
theorem Rl.at {H : Hp} {a : Addr} {cs : List (Addr × List Int)} (r : Rl H a cs) {i : Nat} (hi : i < cs.length) : H (cs.getD i (0, [])).1 = some (.lst ((cs.getD i (0, [])).2.map V.int)) := by
  rw [List.getD_eq_getElem?_getD, List.getElem?_eq_getElem hi]
  exact r.each _ (List.getElem_mem hi)
section
variable {P : Program} {w : World} {K : PySem.W.Frag} {mg : Str → Option Value} {base : Heap}
theorem LawG.draw (W : LawG K mg) (T0 : Txt0 mg) : FnOk P w K mg base CX0 2 W.fDraw W.dDraw ["bag", "wide"] spStir := ok_draw W.FDraw ⟨T0, W.gStir⟩ W.FStir W.bStir
end
end K50

namespace K50
open PySem PySem.Spec PyProof.Rows L2 LcM
/-- the bag, with the place of its cells -/
structure BagB (H : Hp) (a b : Addr) : Prop where
  ex : ∃ (i : Nat) (t s k : Int) (cs : List Int), H a = some (bagL b i t s k) ∧ H b = some (.lst (cs.map V.int)) ∧ b ≠ a ∧ i ≤ cs.length ∧ cs.length ≤ 63 ∧ 0 ≤ t ∧ 0 ≤ s ∧ s < 2147483647 ∧ ∀ c ∈ cs, 0 ≤ c
theorem Bag.b {H : Hp} {a : Addr} (h : Bag H a) : ∃ b, BagB H a b := by
  obtain ⟨b, r⟩ := h.ex
  exact ⟨b, ⟨r⟩⟩
theorem BagB.keepG {H H' : Hp} {a b : Addr} (h : BagB H a b) (g : Grows H H') : BagB H' a b := by
  obtain ⟨i, t, s, k, cs, h1, h2, r⟩ := h
  exact ⟨i, t, s, k, cs, g _ _ h1, g _ _ h2, r⟩
theorem BagB.at {H : Hp} {a b z : Addr} {o : HO} (h : BagB H a b) (na : z ≠ a) (nb : z ≠ b) : BagB (upd H z o) a b := by
  obtain ⟨i, t, s, k, cs, h1, h2, r⟩ := h
  exact ⟨i, t, s, k, cs, by rw [upd_ne na.symm]; exact h1, by rw [upd_ne nb.symm]; exact h2, r⟩
theorem BagB.na {H : Hp} {a b z : Addr} (h : BagB H a b) (hz : H z = none) : z ≠ a ∧ z ≠ b := by
  obtain ⟨i, t, s, k, cs, h1, h2, r⟩ := h
  exact ⟨fun e => (by rw [e, h1] at hz; cases hz), fun e => (by rw [e, h2] at hz; cases hz)⟩
def spStirB : Sp := fun vs H Q _ => ∃ (a b : Addr) (w : Int), vs = [.ref a, .int w] ∧ BagB H a b ∧ 0 < w ∧ w.natAbs.log2 < 200 ∧
  ∀ (v : Int) (H' : Hp), 0 ≤ v → v < w → BagB H' a b → But a H H' → Q (.int v) H'
section
variable {P : Program} {w : World} {K : PySem.W.Frag} {mg : Str → Option Value} {base : Heap}
theorem ok_stirB {f : Addr} {fd : FuncData} (F : Fun K "_law_stirred" "_law_stirred" sStir f fd) (T : Txt0 mg) : FnOk P w K mg base CX0 1 f fd ["bag", "wide"] spStirB := by
  refine F.ok scStir (fun vs H Q E h => ?_) (fun cdv A outer s H vs Q E hr h => ?_)
  · obtain ⟨a, b, w, rfl, _⟩ := h
    rfl
  · obtain ⟨a, b, w, rfl, hB, hw, hw2, k⟩ := h
    refine ⟨_, pss_cons (ps_set (i := 2) scStir.nd rfl (.inl rfl) pe_int)
      (pss_cons (ps_for PassesOwn.never rfl (pi_range1 (by rfl) T.range (pa_cons (pe_op op_add pe_int (pe_op op_fdiv (pe_bits (pv 1)) pe_int)) pa_nil))
          (pg_name (i := 3) scStir.nd rfl (.inl rfl))
        (pss_cons (ps_asg (pe_op op_add (pe_ix ix_list (pv 0) pe_int (fun _ _ => rfl)) pe_int) (pg_sub (pv 0) pe_int set_list))
        (pss_cons (ps_set (i := 4) scStir.nd rfl (.inl rfl)
          (pe_op op_add (pe_op op_add (pe_op op_add (pe_op op_powW (pe_ix ix_list (pv 0) pe_int (fun _ _ => rfl)) pe_int) (pe_op op_mul pe_int (pe_ix ix_list (pv 0) pe_int (fun _ _ => rfl)))) (pe_op op_mul pe_int (pe_ix ix_list (pv 0) pe_int (fun _ _ => rfl)))) pe_int))
        (pss_cons (ps_asg (pe_op op_mod (pe_callTy call_int1 (by rfl) T.int boot_int (pa_cons (pv 4) pa_nil)) pe_int) (pg_sub (pv 0) pe_int set_list))
        (pss_one (ps_set (i := 2) scStir.nd rfl (.inl rfl) (pe_op op_add (pe_op op_mul (pv 2) pe_int) (pe_op op_fdiv (pe_ix ix_list (pv 0) pe_int (fun _ _ => rfl)) pe_int))))))))
      (pss_one (ps_ret (pe_op op_mod (pe_callTy call_int1 (by rfl) T.int boot_int (pa_cons (pv 2) pa_nil)) (pv 1))))), ?_⟩
    have hbw : Builtin.Int.intBits w ≤ 200 := by
      unfold Builtin.Int.intBits
      split <;> omega
    refine ⟨_, rfl, w, rfl, _, _, rfl, rfl, ⟨by decide, by decide⟩, _, _, rfl, rfl, _, rfl, by omega, by omega,
      for_range (fun i σ H' => ∃ (fnd : Int) (kk mm : Option V), σ = [some (.ref a), some (.int w), some (.int fnd), kk, mm] ∧ 0 ≤ fnd ∧ BagB H' a b ∧ But a H H')
      ⟨0, none, none, rfl, Int.le_refl _, hB, .refl⟩ ?_ ?_⟩
    · rintro i σ H' _ ⟨fnd, kk, mm, rfl, hf, ⟨ix, t, sd, kn, cs, h1, h2, nb, hi, hc, ht, hs, hs2, hcs⟩, hbut⟩
      have sz : (Builtin.Int.intBits sd : Int) * 3 ≤ 2 ^ 27 := by
        have := intBits_le_64 (k := sd) (by omega) (by omega)
        omega
      -- bag[4] = bag[4] + 1
      refine ⟨_, rfl, a, _, _, _, rfl, rfl, SqL.of h1, rfl, _, _, rfl, rfl, _, rfl, a, _, _, 4, rfl, rfl, h1, rfl, ?_⟩
      -- mixed
      refine ⟨_, rfl, a, _, _, _, rfl, rfl, SqL.of upd_same, rfl, _, _, rfl, rfl, ⟨by decide, sz⟩, ?_⟩
      refine ⟨_, rfl, a, _, _, _, rfl, rfl, SqL.of upd_same, rfl, _, _, rfl, rfl, .inl ⟨by decide, by decide⟩, _, _, rfl, rfl, ?_⟩
      refine ⟨_, rfl, a, _, _, _, rfl, rfl, SqL.of upd_same, rfl, _, _, rfl, rfl, .inl ⟨by decide, by decide⟩, _, _, rfl, rfl, _, _, rfl, rfl, ?_⟩
      obtain ⟨m, hm⟩ : ∃ m : Int, m = sd ^ (3 : Int).toNat + 69621 * sd + 1031 * (kn + 1) + 1 := ⟨_, rfl⟩
      -- bag[3] = int(mixed) % 2147483647
      refine ⟨_, rfl, .inl ⟨_, rfl, _, _, rfl, rfl, (by decide : (0 : Int) < 2147483647), _, rfl, a, _, _, 3, rfl, rfl, upd_same, rfl, ?_⟩⟩
      -- found
      refine ⟨_, rfl, _, _, rfl, rfl, .inr ⟨by decide, by decide⟩, _, rfl, a, _, _, _, rfl, rfl, SqL.of upd_same, rfl, _, _, rfl, rfl, ⟨by decide, by decide⟩, _, _, rfl, rfl, ?_⟩
      have g0 : 0 ≤ m % 2147483647 := Int.emod_nonneg _ (by decide)
      have g1 : m % 2147483647 < 2147483647 := Int.emod_lt_of_pos _ (by decide)
      refine ⟨fnd * 134217728 + m % 2147483647 / 16, _, _, (by rw [hm]; rfl), by omega, ⟨ix, t, m % 2147483647, kn + 1, cs, (by rw [hm]; exact upd_same), ?_, nb, hi, hc, ht, g0, g1, hcs⟩, hbut.trans (But.upd.trans But.upd)⟩
      rw [upd_ne nb, upd_ne nb]
      exact h2
    · rintro σ H' ⟨fnd, kk, mm, rfl, hf, hB', hbut⟩
      refine ⟨_, rfl, .inl ⟨_, rfl, _, rfl, _, _, rfl, rfl, hw, ?_⟩⟩
      exact k _ _ (Int.emod_nonneg _ (by omega)) (Int.emod_lt_of_pos _ hw) hB' hbut
theorem ok_drawB {f fS : Addr} {fd fdS : FuncData} (F : Fun K "_law_draw" "_law_draw" sDraw f fd) (T : Txt1 K mg fS) (FS : Fun K "_law_stirred" "_law_stirred" sStir fS fdS) (bS : Binds K fdS ["bag", "wide"] []) : FnOk P w K mg base CX0 2 f fd ["bag", "wide"] spStirB := by
  have GS : FnOk P w K mg base CX0 1 fS fdS ["bag", "wide"] spStirB := ok_stirB FS T.toTxt0
  refine F.ok scDraw (fun vs H Q E h => ?_) (fun cdv A outer s H vs Q E hr h => ?_)
  · obtain ⟨a, b, w, rfl, _⟩ := h
    rfl
  · obtain ⟨a, b, w, rfl, hB, hw, hw2, k⟩ := h
    refine ⟨_, pss_cons (ps_if (PW.pt (pw_and (pt_cmpR op_eq (pe_ix ix_list (pv 0) pe_int (fun _ _ => rfl)) pe_int (nomark _)) (pw_and1 (pt_cmpR op_lt (pe_ix ix_list (pv 0) pe_int (fun _ _ => rfl)) (pe_callB call_len_seq (by rfl) T.len boot_len (pa_cons (pe_ix ix_list (pv 0) pe_int (fun _ _ => rfl)) pa_nil)) (nomark _)))))
        (pss_cons (ps_asg (pe_ix ix_list (pe_ix ix_list (pv 0) pe_int (fun _ _ => rfl)) (pe_ix ix_list (pv 0) pe_int (fun _ _ => rfl)) (fun _ _ => rfl)) (pg_sub (pv 0) pe_int set_list))
          (pss_one (ps_asg (pe_op op_add (pe_ix ix_list (pv 0) pe_int (fun _ _ => rfl)) pe_int) (pg_sub (pv 0) pe_int set_list))))
        (pss_one (ps_if (pt_cmpR op_eq (pe_ix ix_list (pv 0) pe_int (fun _ _ => rfl)) pe_int (nomark _))
          (pss_one (ps_ret (pe_call GS hr rfl T.gS FS.kp bS .nil pass0 (pa_cons (pv 0) (pa_cons (pv 1) pa_nil)))))
          pss_nil)))
      (pss_cons (ps_set (i := 2) scDraw.nd rfl (.inl rfl) (pe_op op_mod (pe_callTy call_int1 (by rfl) T.int boot_int (pa_cons (pe_ix ix_list (pv 0) pe_int (fun _ _ => rfl)) pa_nil)) (pv 1)))
      (pss_cons (ps_asg (pe_op op_fdivW (pe_ix ix_list (pv 0) pe_int (fun _ _ => rfl)) (pv 1)) (pg_sub (pv 0) pe_int set_list))
      (pss_one (ps_ret (pv 2))))), ?_⟩
    obtain ⟨ix, t, sd, kn, cs, h1, h2, nb, hi, hc, ht, hs, hs2, hcs⟩ := id hB
    -- the last three statements, from any bag
    have last : ∀ (H' : Hp) (ix : Nat) (t kn : Int), H' a = some (bagL b ix t sd kn) → H' b = some (.lst (cs.map V.int)) → ix ≤ cs.length → 0 ≤ t → But a H H' →
        ∃ v : Int, ∃ H2 : Hp, v = t % w ∧ H2 = upd H' a (bagL b ix (t / w) sd kn) ∧ Q (.int v) H2 := fun H' ix t kn g1 g2 hi ht hb =>
      ⟨_, _, rfl, rfl, k _ _ (Int.emod_nonneg _ (by omega)) (Int.emod_lt_of_pos _ hw)
        ⟨ix, t / w, sd, kn, cs, upd_same, (by rw [upd_ne nb]; exact g2), nb, hi, hc, Int.ediv_nonneg ht (by omega), hs, hs2, hcs⟩ (hb.trans But.upd)⟩
    have fin : ∀ (H' : Hp) (ix : Nat) (t kn : Int), H' a = some (bagL b ix t sd kn) → H' b = some (.lst (cs.map V.int)) → ix ≤ cs.length → 0 ≤ t → But a H H' →
        tSeq (tAsg (tOp (rI (fun _ j => 0 < j) fun i j => V.int (i % j)) (tCB (fun xs H Q => (∃ i, xs = [V.int i] ∧ Q (.int i) H) ∨ ∃ k, xs = [V.bl k] ∧ Q (.int (if k then 1 else 0)) H) (tCons (tOp (rIxL K) (tVar 0) (tC (.int 2))) tNil)) (tVar 1)) (gName 2))
          (tSeq (tAsg (tOp (rI CDivW fun i j => V.int (i / j)) (tOp (rIxL K) (tVar 0) (tC (.int 2))) (tVar 1)) (gSub (tVar 0) (tC (.int 2)) rSetL)) (tRet (tVar 2)))
          { nx := fun _ H' => Q .non H', rt := Q } [some (.ref a), some (.int w), none] H' := fun H' ix t kn g1 g2 hi ht hb => by
      refine ⟨_, rfl, a, _, _, _, rfl, rfl, SqL.of g1, rfl, .inl ⟨_, rfl, _, rfl, _, _, rfl, rfl, hw, ?_⟩⟩
      refine ⟨_, rfl, a, _, _, _, rfl, rfl, SqL.of g1, rfl, _, rfl, _, _, rfl, rfl, ⟨hw, by omega⟩, _, rfl, a, _, _, 2, rfl, rfl, g1, rfl, _, rfl, ?_⟩
      obtain ⟨v, H2, rfl, rfl, q⟩ := last H' ix t kn g1 g2 hi ht hb
      exact q
    refine ⟨_, rfl, a, _, _, _, rfl, rfl, SqL.of h1, rfl, rfl, _, rfl, ?_⟩
    refine ite2 (fun e0 => ?_) (fun e0 => ?_)
    · obtain rfl := dec_of e0
      refine ⟨_, rfl, a, _, _, _, rfl, rfl, SqL.of h1, rfl, _, rfl, a, _, _, _, rfl, rfl, SqL.of h1, rfl, b, _, rfl, .inl (SqL.of h2), _, _, rfl, rfl, _, rfl, ?_⟩
      refine ite2 (fun e1 => ?_) (fun e1 => ?_)
      · have lt : ix < cs.length := by
          have := of_decide_eq_true e1
          rw [List.length_map] at this
          omega
        have g : (cs.map V.int)[ix]? = some (.int cs[ix]) := by
          rw [List.getElem?_map, List.getElem?_eq_getElem lt]
          rfl
        refine ⟨_, rfl, a, _, _, _, rfl, rfl, SqL.of h1, rfl, _, rfl, a, _, _, _, rfl, rfl, SqL.of h1, rfl, b, _, _, _, rfl, rfl, SqL.of h2, atI_nat g, _, rfl, a, _, _, 2, rfl, rfl, h1, rfl, ?_⟩
        refine ⟨_, rfl, a, _, _, _, rfl, rfl, SqL.of upd_same, rfl, _, _, rfl, rfl, _, rfl, a, _, _, 1, rfl, rfl, upd_same, rfl, ?_⟩
        refine fin _ (ix + 1) cs[ix] kn upd_same (by rw [upd_ne nb, upd_ne nb]; exact h2) (by omega) (hcs _ (List.getElem_mem lt)) (But.upd.trans But.upd)
      · refine ⟨_, rfl, a, _, _, _, rfl, rfl, SqL.of h1, rfl, rfl, _, rfl, iteT ?_⟩
        exact ⟨_, rfl, _, rfl, a, b, w, rfl, hB, hw, hw2, k⟩
    · refine iteF ?_
      refine ⟨_, rfl, a, _, _, _, rfl, rfl, SqL.of h1, rfl, rfl, _, rfl, ?_⟩
      refine ite2 (fun e1 => absurd e1 e0) (fun _ => ?_)
      exact fin H ix t kn h1 h2 hi ht .refl
theorem LawG.draw2 (W : LawG K mg) (T0 : Txt0 mg) : FnOk P w K mg base CX0 2 W.fDraw W.dDraw ["bag", "wide"] spStirB := ok_drawB W.FDraw ⟨T0, W.gStir⟩ W.FStir W.bStir
end
end K50

namespace K50
open PySem PySem.Spec PyProof.Rows L2 SortR LcM RepA
def spRow : Sp := fun vs H Q _ => ∃ (a c : Addr) (n : Int), vs = [.ref a, .int n] ∧ BagB H a c ∧ 1 ≤ n ∧ n ≤ 20 ∧
  ∀ (q : Addr) (is : List Int) (H' : Hp), is.length = (n - 1).toNat → Bnd is → BagB H' a c → Gr a H H' → H' q = some (.lst (is.map V.int)) → H q = none → Q (.ref q) H'
section
variable {P : Program} {w : World} {K : PySem.W.Frag} {mg : Str → Option Value} {base : Heap}
theorem scRowL : FnScope ["bag", "wide", "bent", "row", "k", "any_here"] ["bag", "wide"] (defScope sRowL) := ⟨rfl, rfl, rfl, by decide +kernel, rfl, by decide +kernel, by decide +kernel⟩
theorem But.gr {a : Addr} {H H' : Hp} (h : But a H H') : Gr a H H' := fun b o n e => by rw [h b n]; exact e
theorem ok_row (W : LawG K mg) (T : TxtP mg) (T0 : Txt0 mg) : FnOk P w K mg base CX0 3 W.fRow W.dRow ["bag", "wide"] spRow := by
  have GDraw := W.draw2 (P := P) (w := w) (base := base) T0
  refine W.FRow.ok scRowL (fun vs H Q E h => ?_) (fun cdv A outer s H vs Q E hr h => ?_)
  · obtain ⟨a, c, n, rfl, _⟩ := h
    rfl
  · obtain ⟨a, c, n, rfl, hB, n1, n2, k⟩ := h
    refine ⟨_, (pss_cons (ps_par (i := 2) (j := 3) (by rfl) scRowL.nd rfl rfl (by decide) rfl rfl (pa_cons (pe_call GDraw (hr.mono (by decide)) rfl W.gDraw W.FDraw.kp W.bDraw .nil pass0 (pa_cons (pv 0) (pa_cons pe_int pa_nil))) (pa_cons (pe_lst pa_nil) pa_nil)) (by rfl))
      (pss_cons (ps_for PassesOwn.never rfl (pi_range1 (by rfl) T.range (pa_cons (pe_op op_sub (pv 1) pe_int) pa_nil)) (pg_name (i := 4) scRowL.nd rfl (.inl rfl))
      (pss_cons (ps_set (i := 5) scRowL.nd rfl (.inl rfl) (pe_op op_sub (pe_call GDraw (hr.mono (by decide)) rfl W.gDraw W.FDraw.kp W.bDraw .nil pass0 (pa_cons (pv 0) (pa_cons (pe_op op_add (pe_op op_mul pe_int (pv 4)) pe_int) pa_nil))) (pv 4)))
      (pss_one (ps_expr (pe_bm PySem.F.plainAttrs_list PySem.F.slot_list_append PySem.F.type_list_append mt_append (pv 3) (pa_cons (pe_ix (r := rIxL K) ix_list (pe_lst (pa_cons (pv 5) (pa_cons (pe_op op_sub pe_int (pv 4)) (pa_cons (pv 4) (pa_cons pe_int (pa_cons (pe_ix (r := rIxL K) ix_list (pe_lst (pa_cons (pe_op op_sub pe_int (pv 4)) (pa_cons (pv 5) pa_nil))) (pe_call GDraw (hr.mono (by decide)) rfl W.gDraw W.FDraw.kp W.bDraw .nil pass0 (pa_cons (pv 0) (pa_cons pe_int pa_nil))) (fun _ _ => rfl)) pa_nil)))))) (pv 2) (fun _ _ => rfl)) pa_nil))))))
      (pss_one (ps_ret (pv 3))))), ?_⟩
    refine ⟨_, rfl, a, c, _, rfl, hB, by decide, by decide, fun v H1 v0 v1 hB1 bu1 => ?_⟩
    refine ⟨(by show 0 ≤ sizeLine; decide), fun z hz => ?_⟩
    obtain ⟨nza, nzc⟩ := hB1.na hz
    have hz0 : H z = none := by rw [← bu1 z nza]; exact hz
    refine ⟨_, _, rfl, _, rfl, _, _, rfl, rfl, _, rfl, by omega, by omega, for_range (fun i σ H' => ∃ (is : List Int) (o4 o5 : Option V), σ = [some (.ref a), some (.int n), some (.int v), some (.ref z), o4, o5] ∧ is.length = i ∧ Bnd is ∧ BagB H' a c ∧ Gr a H H' ∧ H' z = some (.lst (is.map V.int)))
      ⟨[], none, none, rfl, rfl, fun j x e => absurd e (by simp), hB1.keepG (Grows.new hz), bu1.gr.trans (Gr.new hz), upd_same⟩ (fun i σ H' il ⟨is, o4, o5, e, el, b, hB', g, ez⟩ => ?_) fun σ H' ⟨is, o4, o5, e, el, b, hB', g, ez⟩ => ?_⟩
    · subst e
      have lg : ∀ w : Int, 0 ≤ w → w ≤ 1000 → w.natAbs.log2 < 200 := fun w h0 h1 => PySem.Flt.log2_lt_of (by decide) (Nat.lt_of_lt_of_le (show w.natAbs < 1024 by omega) (by decide))
      refine ⟨_, rfl, _, rfl, _, _, rfl, rfl, .inl ⟨by decide, by decide⟩, _, _, rfl, rfl, a, c, _, rfl, hB', by omega, lg _ (by omega) (by omega), fun u H2 u0 u1 hB2 bu2 => ⟨_, rfl, _, _, rfl, rfl, ?_⟩⟩
      have ezi : H2 z = some (.lst (is.map V.int)) := bu2.gr _ _ nza ez
      refine ⟨_, rfl, .inl ⟨rfl, _, SqL.of ezi⟩, _, rfl, _, rfl, _, _, rfl, rfl, _, rfl, _, rfl, _, _, rfl, rfl, _, rfl, (by show 2 ≤ sizeLine; decide), fun z1 hz1 => ?_⟩
      have hB3 := hB2.keepG (Grows.new (o := .lst [V.int (0 - (0 + (i : Nat))), V.int (u - (0 + (i : Nat)))]) hz1)
      refine ⟨_, rfl, a, c, _, rfl, hB3, by decide, by decide, fun t H3 t0 t1 hB4 bu3 => ?_⟩
      have ezi : H2 z = some (.lst (is.map V.int)) := bu2.gr _ _ nza ez
      have n1a : z1 ≠ a := (hB2.na hz1).1
      have e1 : H3 z1 = some (.lst [V.int (0 - (0 + (i : Nat))), V.int (u - (0 + (i : Nat)))]) := bu3.gr _ _ n1a upd_same
      obtain ⟨y, hy, ey⟩ := at_in (xs := [V.int (0 - (0 + (i : Nat))), V.int (u - (0 + (i : Nat)))]) t0 t1
      have gy : ∃ q : Int, y = .int q ∧ -(i : Int) ≤ q ∧ q ≤ (i : Int) := by
        simp only [List.mem_cons, List.not_mem_nil, or_false] at hy
        rcases hy with rfl | rfl
        · exact ⟨_, rfl, by omega, by omega⟩
        · exact ⟨_, rfl, by omega, by omega⟩
      obtain ⟨q, rfl, q0, q1⟩ := gy
      refine ⟨z1, _, _, _, rfl, rfl, SqL.of e1, ey, (by show 5 ≤ sizeLine; decide), fun z2 hz2 => ?_⟩
      obtain ⟨y2, hy2, ey2⟩ := at_in (xs := [V.int (u - (0 + (i : Nat))), V.int (0 - (0 + (i : Nat))), V.int (0 + (i : Nat)), V.int 0, V.int q]) v0 v1
      have gy2 : ∃ q : Int, y2 = .int q ∧ -(i : Int) ≤ q ∧ q ≤ (i : Int) := by
        simp only [List.mem_cons, List.not_mem_nil, or_false] at hy2
        rcases hy2 with rfl | rfl | rfl | rfl | rfl
        all_goals exact ⟨_, rfl, by omega, by omega⟩
      obtain ⟨q2, rfl, r0, r1⟩ := gy2
      have g2 : Gr a H2 H3 := (Gr.new hz1).trans bu3.gr
      have ez3 : upd H3 z2 (.lst [V.int (u - (0 + (i : Nat))), V.int (0 - (0 + (i : Nat))), V.int (0 + (i : Nat)), V.int 0, V.int q]) z = some (.lst (is.map V.int)) := Gr.new hz2 _ _ nza (g2 _ _ nza ezi)
      have hB5 := hB4.keepG (Grows.new (o := .lst [V.int (u - (0 + (i : Nat))), V.int (0 - (0 + (i : Nat))), V.int (0 + (i : Nat)), V.int 0, V.int q]) hz2)
      refine ⟨_, rfl, z2, _, _, _, rfl, rfl, SqL.of upd_same, ey2, ?_⟩
      refine ⟨z, _, _, rfl, rfl, ez3, ?_, is ++ [q2], _, _, rfl, by rw [List.length_append, el]; rfl, b.add (by omega) (by omega), ?_, ?_, ?_⟩
      · rw [List.length_map]
        exact Nat.lt_of_lt_of_le (show is.length < 100 by omega) (by decide)
      · exact hB5.at nza nzc
      · intro b o n e
        rw [upd_ne (ne_of_none e hz0)]
        exact ((g.trans bu2.gr).trans g2).trans (Gr.new hz2) b o n e
      · rw [upd_same, List.map_append]
        rfl
    · subst e
      exact ⟨_, rfl, k z is H' el b hB' g ez hz0⟩
end
end K50

namespace K50
open PySem PySem.Spec PyProof.Rows L2 SortR LcM RepA
def spByL (K : PySem.W.Frag) : Sp := fun vs H Q _ => ∃ (a : Addr) (is : List Int), vs = [.ref a] ∧ SqL K H a (is.map V.int) ∧ Bnd is ∧ is.length ≤ 19 ∧
  ∀ (q : Addr) (cs : List (Addr × List Int)) (H' : Hp), cs.map (·.2) = lotR is → Grows H H' → Rl H' q cs → Q (.ref q) H'
theorem fam_row {is : List Int} (b : Bnd is) {n : Nat} (hn : n ≤ is.length) {r : List Int} (h : r ∈ famB is n) : 2 ≤ r.length ∧ r.length ≤ n + 1 := by
  have L := lam_fam b hn
  refine ⟨L.two r h, ?_⟩
  have q := len_sub (up_nodup (L.up r h)) (ys := upto (n + 1)) fun z hz => by
    have := L.rng r h z hz
    exact upto_mem.mpr ⟨this.1, by omega⟩
  rwa [upto_ln] at q
theorem and_goal {tb : TE} {σ : L2.St} {H : Hp} {Q : VK} {c d : Bool} (h : Q (.bl (c && d)) H) (k : ∀ Q' : VK, Q' (.bl d) H → tb σ H Q') : if c = true then tb σ H Q else Q (.bl false) H := by
  cases c with
  | false => exact iteF h
  | true => exact iteT (k Q h)
theorem if_goal {ta tb : TE} {σ : L2.St} {H : Hp} {Q : VK} {b : Bool} (R : V → Hp → Prop) (h : ∀ v H', R v H' → Q v H') (k : ∀ Q' : VK, (∀ v H', R v H' → Q' v H') → if b = true then ta σ H Q' else tb σ H Q') : if b = true then ta σ H Q else tb σ H Q := k Q h
section
variable {P : Program} {w : World} {K : PySem.W.Frag} {mg : Str → Option Value} {base : Heap}
theorem scByL : FnScope ["row", "made", "k", "goal", "later", "one", "is_around"] ["row"] (defScope sByL) := ⟨rfl, rfl, rfl, by decide +kernel, rfl, by decide +kernel, by decide +kernel⟩
theorem ok_by (W : LawG K mg) (T : TxtP mg) (T0 : Txt0 mg) : FnOk P w K mg base CX0 1 W.fBy W.dBy ["row"] (spByL K) := by
  refine W.FBy.ok scByL (fun vs H Q E h => ?_) (fun cdv A outer s H vs Q E hr h => ?_)
  · obtain ⟨a, is, rfl, _⟩ := h
    rfl
  · obtain ⟨a, is, rfl, hS, b, l, k⟩ := h
    refine ⟨_, (pss_cons (ps_set (i := 1) scByL.nd rfl (.inl rfl) (pe_lst pa_nil))
      (pss_cons (ps_for PassesOwn.never rfl (pi_range1 (by rfl) T.range (pa_cons (pe_callB call_len_seq (by rfl) T.len (by decide +kernel) (pa_cons (pv 0) pa_nil)) pa_nil)) (pg_name (i := 2) scByL.nd rfl (.inl rfl))
      (pss_cons (ps_set (i := 3) scByL.nd rfl (.inl rfl) (pe_ifExp (pt_cmpR op_ge (pe_ix (r := rIxL K) ix_list (pv 0) (pv 2) (fun _ _ => rfl)) pe_int (nomark _)) (pe_lst (pa_cons (pe_ix (r := rIxL K) ix_list (pv 0) (pv 2) (fun _ _ => rfl)) pa_nil)) (pe_ix (r := rIxL K) ix_list (pv 1) (pe_op op_sub (pe_op op_sub pe_int (pe_ix (r := rIxL K) ix_list (pv 0) (pv 2) (fun _ _ => rfl))) pe_int) (fun _ _ => rfl))))
      (pss_cons (ps_set (i := 4) scByL.nd rfl (.inl rfl) (pe_lst pa_nil))
      (pss_cons (ps_for PassesOwn.never rfl (pi_list (pv 1)) (pg_name (i := 5) scByL.nd rfl (.inl rfl))
      (pss_cons (ps_set (i := 6) scByL.nd rfl (.inl rfl) (pe_and (pe_cmpR (r := rIn K false) (by exact op_in_seq) (pe_ix (r := rIxL K) ix_list (pv 3) pe_int (fun _ _ => rfl)) (pv 5) (by rfl)) (pe_one (pe_cmpR op_gt (pe_callB call_len_seq (by rfl) T.len (by decide +kernel) (pa_cons (pv 5) pa_nil)) (pe_callB call_len_seq (by rfl) T.len (by decide +kernel) (pa_cons (pv 3) pa_nil)) (nomark _)))))
      (pss_one (ps_expr (pe_bm PySem.F.plainAttrs_list PySem.F.slot_list_append PySem.F.type_list_append mt_append (pv 4) (pa_cons (pe_ifExp (pt_val (pv 6)) (pe_op op_cat (pv 5) (pe_lst (pa_cons (pe_op op_add (pv 2) pe_int) pa_nil))) (pv 5)) pa_nil))))))
      (pss_one (ps_set (i := 1) scByL.nd rfl (.inl rfl) (pe_op op_cat (pv 4) (pe_lst (pa_cons (pe_op op_cat (pv 3) (pe_lst (pa_cons (pe_op op_add (pv 2) pe_int) pa_nil))) pa_nil)))))))))
      (pss_one (ps_ret (pe_callB (call_sortedR hr.units) (by rfl) T.sorted (by decide +kernel) (pa_cons (pv 1) pa_nil)))))), ?_⟩
    refine ⟨(by show 0 ≤ sizeLine; decide), fun m0 hm0 => ?_⟩
    have g0 : Grows H (upd H m0 (.lst [])) := Grows.new hm0
    refine ⟨_, rfl, a, _, rfl, .inl (g0.seq hS), _, rfl, by omega, by rw [List.length_map]; omega, for_range (fun i σ G => ∃ (m : Addr) (cs : List (Addr × List Int)) (o2 o3 o4 o5 o6 : Option V), σ = [some (.ref a), some (.ref m), o2, o3, o4, o5, o6] ∧ Grows H G ∧ Rl G m cs ∧ cs.map (·.2) = famB is i)
      ⟨m0, [], none, none, none, none, none, rfl, g0, ⟨upd_same, fun _ h => nomatch h⟩, rfl⟩ (fun i σ G il ⟨m, cs, o2, o3, o4, o5, o6, e, g, rl, ec⟩ => ?_) fun σ G ⟨m, cs, o2, o3, o4, o5, o6, e, g, rl, ec⟩ => ?_⟩
    · subst e
      rw [List.length_map] at il
      have il : i < is.length := by omega
      have fl := famB_len is i
      have cl : cs.length = i := by
        have := congrArg List.length ec
        rw [List.length_map, fl] at this
        exact this
      have e : is[i]? = some is[i] := List.getElem?_eq_getElem il
      have bd := b i _ e
      have eg : is.getD i 0 = is[i] := by rw [List.getD_eq_getElem?_getD, e]; rfl
      rw [← eg] at bd
      have ai : atI (is.map V.int) (0 + (i : Int)) = some (V.int (is.getD i 0)) := by
        rw [Int.zero_add, eg]
        exact atI_nat (by rw [List.getElem?_map, e]; rfl)
      obtain ⟨item, ei⟩ : ∃ item, item = is.getD i 0 := ⟨_, rfl⟩
      rw [← ei] at bd ai
      have step : famB is (i + 1) = stepB (famB is i) item := by rw [ei]; rfl
      have bases : 1 ≤ (baseB (famB is i) item).length ∧ (baseB (famB is i) item).length ≤ 100 := by
        rcases base_is (rs := famB is i) (item := item) (by rw [fl]; exact bd.1) with z | ⟨p, z⟩
        · have := fam_row b (Nat.le_of_lt il) z
          omega
        · rw [z]
          exact ⟨by simp, by simp⟩
      refine ⟨_, rfl, _, rfl, a, _, _, _, rfl, rfl, g.seq hS, ai, _, _, rfl, rfl, _, rfl, ?_⟩
      refine if_goal (R := fun v G1 => ∃ ga, v = .ref ga ∧ Grows G G1 ∧ G1 ga = some (.lst ((baseB (famB is i) item).map V.int))) (fun v G1 ⟨ga, ev, g1, eb⟩ => ?_) fun Q' hq => ?_
      · subst ev
        generalize ebb : baseB (famB is i) item = base at eb bases
        have rl1 := rl.keep g1
        refine ⟨(by show 0 ≤ sizeLine; decide), fun z hz => ?_⟩
        have g2 : Grows G1 (upd G1 z (.lst [])) := Grows.new hz
        refine ⟨_, rfl, m, rfl, ⟨_, SqL.of (g2 _ _ rl1.top)⟩, for_list (K := K) (xs := cs.map fun c => V.ref c.1) (fun j σ' G' => ∃ (ls : List (Addr × List Int)) (o5 o6 : Option V), σ' = [some (.ref a), some (.ref m), some (.int (0 + (i : Nat))), some (.ref ga), some (.ref z), o5, o6] ∧ Grows G1 G' ∧ Rl G' z ls ∧ (∀ c ∈ ls, c.1 ≠ z) ∧ ls.map (·.2) = ((cs.map (·.2)).take j).map (growB ((i : Int) + 1) base))
          ⟨[], _, _, rfl, g2, ⟨upd_same, fun _ h => nomatch h⟩, (fun _ h => nomatch h), rfl⟩ (fun j σ' G' _ ⟨_, _, _, _, g3, _⟩ => SqL.of (g3 _ _ rl1.top)) (fun j x σ' G' hx ⟨ls, o5, o6, e, g3, rz, nz, el⟩ => ?_) fun σ' G' ⟨ls, o5, o6, e, g3, rz, nz, el⟩ => ?_⟩
        · subst e
          have jl := (List.getElem?_eq_some_iff.mp hx).1
          rw [List.length_map] at jl
          obtain rfl := at_map (d := (0, [])) hx
          have er : (cs.map (·.2)).getD j [] = (cs.getD j (0, [])).2 := snd_at cs j
          have eg1 := rl1.at jl
          have ej := g3 _ _ eg1
          have mj : (cs.getD j (0, [])).2 ∈ famB is i := by rw [← ec]; exact mem_at jl
          have nj : (cs.getD j (0, [])).1 ≠ z := fun h => by
            rw [h, hz] at eg1
            cases eg1
          have lj := fam_row b (Nat.le_of_lt il) mj
          have tk : ((cs.map (·.2)).take (j + 1)).map (growB ((i : Int) + 1) base) = ((cs.map (·.2)).take j).map (growB ((i : Int) + 1) base) ++ [growB ((i : Int) + 1) base (cs.getD j (0, [])).2] := by
            rw [← er, List.take_succ, List.map_append, List.getD_eq_getElem?_getD, List.getElem?_eq_getElem (by rw [List.length_map]; exact jl)]
            rfl
          have lsl : ls.length ≤ 100 := by
            have := congrArg List.length el
            rw [List.length_map, List.length_map, List.length_take, List.length_map] at this
            omega
          generalize (cs.getD j (0, [])).2 = r at ej lj tk
          generalize (cs.getD j (0, [])).1 = ra at ej nj
          have ab : atI (base.map V.int) 0 = some (V.int (base.headD 0)) := by
            cases base with
            | nil => exact absurd bases.1 (by decide)
            | cons x _ => exact atI_nat (j := 0) rfl
          have ebg := g3 _ _ eb
          refine ⟨_, rfl, ga, _, _, _, rfl, rfl, SqL.of ebg, ab, _, rfl, ra, _, rfl, .inl (SqL.of ej), rfl, flat_ints _, ?_⟩
          refine ⟨_, rfl, ?_⟩
          show if inV (.int (base.headD 0)) (r.map V.int) = true then _ else _
          rw [inV_ints]
          refine and_goal (d := decide (base.length < r.length)) ?_ fun Q' q => ⟨_, rfl, ra, _, rfl, .inl (SqL.of ej), _, rfl, ga, _, rfl, .inl (SqL.of ebg), _, _, rfl, rfl, ?_⟩
          · rw [show (decide (base.headD 0 ∈ r) && decide (base.length < r.length)) = inB base r from Bool.and_comm _ _]
            refine ⟨_, rfl, .inl ⟨rfl, _, SqL.of rz.top⟩, _, rfl, _, rfl, ?_⟩
            refine if_goal (R := fun v G4 => ∃ rb, v = .ref rb ∧ Grows G' G4 ∧ G4 rb = some (.lst ((growB ((i : Int) + 1) base r).map V.int)) ∧ rb ≠ z) (fun v G4 ⟨rb, ev, g4, e4, nb⟩ => ?_) fun Q' hq => ?_
            · subst ev
              have z4 := g4 _ _ rz.top
              refine ⟨z, _, _, rfl, rfl, z4, ?_, ls ++ [(rb, growB ((i : Int) + 1) base r)], _, _, rfl, fun b o e => ?_, ⟨?_, fun c hc => ?_⟩, fun c hc => ?_, ?_⟩
              · rw [List.length_map]
                exact Nat.lt_of_le_of_lt lsl (by decide)
              · rw [upd_ne (ne_of_none e hz)]
                exact g4 _ _ (g3 _ _ e)
              · rw [upd_same, List.map_append]
                rfl
              · rcases List.mem_append.mp hc with h | h
                · rw [upd_ne (nz c h)]
                  exact g4 _ _ (rz.each c h)
                · rw [List.mem_singleton.mp h, upd_ne nb]
                  exact e4
              · rcases List.mem_append.mp hc with h | h
                · exact nz c h
                · rw [List.mem_singleton.mp h]
                  exact nb
              · rw [List.map_append, el, tk]
                rfl
            · unfold growB at hq
              cases c : inB base r with
              | false =>
                rw [c] at hq
                exact iteF ⟨_, rfl, hq _ _ ⟨ra, rfl, .refl, ej, nj⟩⟩
              | true =>
                rw [c] at hq
                refine iteT ⟨_, rfl, _, rfl, _, _, rfl, rfl, (by show 1 ≤ sizeLine; decide), fun z1 hz1 => ⟨ra, z1, _, _, rfl, rfl, Grows.new hz1 _ _ ej, upd_same, ?_, fun z2 hz2 => hq _ _ ⟨z2, rfl, (Grows.new hz1).trans (Grows.new hz2), ?_, ?_⟩⟩⟩
                · rw [List.length_map]
                  show r.length + 1 ≤ sizeLine
                  exact Nat.le_trans (show r.length + 1 ≤ 100 by omega) (by decide)
                · rw [upd_same, if_pos rfl, List.map_append, Int.zero_add]
                  rfl
                · exact fun h => by
                    rw [h] at hz2
                    rw [Grows.new hz1 _ _ rz.top] at hz2
                    cases hz2
          · rw [List.length_map, List.length_map]
            have : decide ((base.length : Int) < (r.length : Int)) = decide (base.length < r.length) := decide_eq_decide.mpr (by omega)
            show Q' (.bl (decide ((base.length : Int) < (r.length : Int)))) G'
            rw [this]
            exact q
        · subst e
          rw [List.length_map] at el
          rw [show (cs.map (·.2)).take cs.length = cs.map (·.2) from List.take_of_length_le (by rw [List.length_map]; exact Nat.le_refl _), ec] at el
          have ebg := g3 _ _ eb
          have lsl : ls.length = i := by
            have := congrArg List.length el
            rw [List.length_map, List.length_map, fl] at this
            exact this
          refine ⟨_, rfl, _, rfl, _, rfl, _, _, rfl, rfl, (by show 1 ≤ sizeLine; decide), fun z1 hz1 => ⟨ga, z1, _, _, rfl, rfl, Grows.new hz1 _ _ ebg, upd_same, ?_, fun z2 hz2 => ⟨(by show 1 ≤ sizeLine; decide), fun z3 hz3 => ⟨z, z3, ls.map (fun c => V.ref c.1), _, rfl, rfl, ?_, upd_same, ?_, fun z4 hz4 => ?_⟩⟩⟩⟩
          · rw [List.length_map]
            show base.length + 1 ≤ sizeLine
            exact Nat.le_trans (show base.length + 1 ≤ 101 by omega) (by decide)
          · exact (((Grows.new hz1).trans (Grows.new hz2)).trans (Grows.new hz3)) _ _ rz.top
          · rw [List.length_map]
            show ls.length + 1 ≤ sizeLine
            exact Nat.le_trans (show ls.length + 1 ≤ 101 by omega) (by decide)
          · have t2 := (Grows.new (o := .lst [V.ref z2]) hz3).trans (Grows.new (o := .lst (ls.map (fun c => V.ref c.1) ++ [V.ref z2])) hz4)
            have t1 := ((Grows.new (o := .lst [V.int (0 + (i : Nat) + 1)]) hz1).trans (Grows.new (o := .lst (base.map V.int ++ [V.int (0 + (i : Nat) + 1)])) hz2)).trans t2
            refine ⟨z4, ls ++ [(z2, base ++ [(i : Int) + 1])], _, _, _, _, _, rfl, ((g.trans g1).trans g3).trans t1, ⟨?_, fun c hc => ?_⟩, ?_⟩
            · rw [upd_same, List.map_append]
              rfl
            · rcases List.mem_append.mp hc with h | h
              · exact t1 _ _ (rz.each c h)
              · rw [List.mem_singleton.mp h]
                refine t2 _ _ ?_
                rw [upd_same, List.map_append, Int.zero_add]
                rfl
            · rw [List.map_append, el, step]
              unfold stepB
              rw [fl, ebb]
              rfl
      · unfold baseB at hq
        by_cases c : 0 ≤ item
        · rw [decide_eq_true c]
          rw [if_pos c] at hq
          refine iteT ⟨_, rfl, _, rfl, a, _, _, _, rfl, rfl, g.seq hS, ai, (by show 1 ≤ sizeLine; decide), fun z hz => hq _ _ ⟨z, rfl, Grows.new hz, upd_same⟩⟩
        · rw [decide_eq_false c]
          rw [if_neg c] at hq
          have lt : (0 - item - 1).toNat < cs.length := by omega
          refine iteF ⟨_, rfl, _, rfl, _, rfl, a, _, _, _, rfl, rfl, g.seq hS, ai, _, _, rfl, rfl, _, _, rfl, rfl, m, _, _, V.ref (cs.getD (0 - item - 1).toNat (0, [])).1, rfl, rfl, SqL.of rl.top, ?_, hq _ _ ⟨_, rfl, .refl, ?_⟩⟩
          · rw [show (0 - item - 1) = (((0 - item - 1).toNat : Nat) : Int) by omega]
            refine atI_nat ?_
            rw [Int.toNat_natCast, List.getElem?_map, List.getElem?_eq_getElem lt, List.getD_eq_getElem?_getD, List.getElem?_eq_getElem lt]
            rfl
          · rw [rl.at lt, ← ec]
            congr 3
            rw [List.getD_eq_getElem?_getD, List.getD_eq_getElem?_getD, List.getElem?_map, List.getElem?_eq_getElem lt]
            rfl
    · subst e
      rw [List.length_map] at ec
      refine ⟨_, rfl, m, cs, rfl, SqL.of rl.top, fun b hb => SqL.of (rl.each b hb), fun p hp => ?_⟩
      refine k p (cs.mergeSort rowLe) _ ?_ (g.trans (Grows.new hp)) ⟨upd_same, fun c hc => Grows.new hp _ _ (rl.each c (List.mem_mergeSort.mp hc))⟩
      rw [sort_rows, ec]
      rfl
end
end K50

namespace K50
open PySem PySem.Spec PyProof.Rows L2 SortR LcM RepA TL
/-! ### the law's own text of a group -/
def PFL (rs : List (List Int)) (g A : List Int) : Prop := A = [g.getD 0 0] ∨ (A ∈ rs ∧ g.getD 0 0 ∈ A ∧ A.length < g.length)
/-- the greatest part that has the least person is the first one -/
theorem pfl_fir {rs : List (List Int)} (R : Par rs) {g A : List Int} (hg : g ∈ rs) (h : PFL rs g A) (mx : ∀ r ∈ rs, g.getD 0 0 ∈ r → r.length < g.length → r.length ≤ A.length) : A = firR rs g := by
  have ug := R.up g hg
  have g0 : g.getD 0 0 ∈ g := by
    have := R.two g hg
    cases g with
    | nil => exact absurd this (by decide)
    | cons x _ => exact List.mem_cons_self
  have first : ∀ r ∈ rs, g.getD 0 0 ∈ r → r.length < g.length → r.getD 0 0 = g.getD 0 0 := fun r hr hq l => by
    have r0m : r.getD 0 0 ∈ r := hd_mem hq
    rcases R.nice r hr g hg with n | n | n
    · exact absurd g0 (n _ hq)
    · have z1 := hd_le ug (n _ r0m)
      have z2 := hd_le (R.up r hr) hq
      omega
    · have := len_sub (up_nodup ug) n
      omega
  refine (firR_eq R.two (A := A) ?_ fun r hr h1 h2 => ?_).symm
  · rcases h with h | ⟨h1, h2, h3⟩
    · exact .inl h
    · exact .inr ⟨h1, first A h1 h2 h3, h3⟩
  · have rm : g.getD 0 0 ∈ r := by
      rw [← h1]
      have := R.two r hr
      cases r with
      | nil => exact absurd this (by decide)
      | cons x _ => exact List.mem_cons_self
    have le := mx r hr rm h2
    refine ⟨le, fun e => ?_⟩
    rcases h with h | ⟨a1, a2, a3⟩
    · have := R.two r hr
      rw [h] at e
      have : r.length = 1 := e
      omega
    · have ur := R.up r hr
      have ua := R.up A a1
      rcases R.nice r hr A a1 with n | n | n
      · exact absurd a2 (n _ rm)
      · exact up_same ur ua fun z => ⟨n z, sub_back (up_nodup ur) n (by omega) z⟩
      · exact up_same ur ua fun z => ⟨sub_back (up_nodup ua) n (by omega) z, n z⟩
theorem filtB {α : Type} (d : α) (p : α → Bool) (cs : List α) : ((List.range cs.length).filter fun i => p (cs.getD i d)).map (fun i => cs.getD i d) = cs.filter p := by
  have e : (fun i => p (cs.getD i d)) = p ∘ (fun i => cs.getD i d) := rfl
  rw [e, ← List.filter_map]
  congr 1
  refine List.ext_getElem (by rw [List.length_map, List.length_range]) fun i h1 h2 => ?_
  rw [List.getElem_map, List.getElem_range, List.getD_eq_getElem?_getD, List.getElem?_eq_getElem h2]
  rfl
def TxInv (K : PySem.W.Frag) (H : Hp) (a c : Addr) (bs : List (Addr × List Int)) (g : List Int) (i : Nat) (σ : L2.St) (G : Hp) : Prop := ∃ (fa : Addr) (F : List Int) (o3 : Option V), σ = [some (.ref a), some (.ref c), some (.ref fa), o3, none, none] ∧ Grows H G ∧ SqL K G fa (F.map V.int) ∧ PFL (bs.map (·.2)) g F ∧
  ∀ j, j < i → g.getD 0 0 ∈ (bs.getD j (0, [])).2 → (bs.getD j (0, [])).2.length < g.length → (bs.getD j (0, [])).2.length ≤ F.length
section
variable {P : Program} {w : World} {K : PySem.W.Frag} {mg : Str → Option Value} {base : Heap}
theorem scTextL : FnScope ["lot", "one", "first", "other", "x", "rest"] ["lot", "one"] (defScope sTextL) := ⟨rfl, rfl, rfl, by decide +kernel, rfl, by decide +kernel, by decide +kernel⟩
theorem text_body {sp0 : Sp} {k n : Nat} (W : LawG K mg) (T : TxtP mg) (T0 : Txt0 mg) (TS : mg "str" = none) (GText : FnOk P w K mg base CX0 k W.fText W.dText ["lot", "one"] sp0) (k1 : 1 ≤ k)
    (h0 : ∀ (a b : Addr) (bs : List (Addr × List Int)) (g : List Int) (H : Hp) (Q : VK), Rw K H a bs → Par (bs.map (·.2)) → bs.length ≤ 19 → SqL K H b (g.map V.int) → Half (bs.map (·.2)) g → g.length ≤ n → n ≤ 20 → (∀ H', Grows H H' → Q (.str (trG (bs.map (·.2)) n g).txt) H') → sp0 [.ref a, .ref b] H Q E0) :
    FnOk P w K mg base CX0 (k + 1) W.fText W.dText ["lot", "one"] (spPart K (n + 1)) := by
  refine W.FText.ok scTextL (fun vs H Q E h => ?_) (fun cdv A outer s H vs Q E hr h => ?_)
  · obtain ⟨a, b, bs, g, rfl, _⟩ := h
    rfl
  · obtain ⟨a, c, bs, g, rfl, hB, R, few, hb, hh, gl, n20, kq⟩ := h
    refine ⟨_, (pss_cons (ps_if (pt_cmpR op_eq (pe_callB call_len_seq (by rfl) T.len (by decide +kernel) (pa_cons (pv 1) pa_nil)) pe_int (nomark _)) (pss_one (ps_ret (pe_callTy call_str_int (by rfl) TS (by decide +kernel) (pa_cons (pe_ix (r := rIxL K) ix_list (pv 1) pe_int (fun _ _ => rfl)) pa_nil)))) pss_nil)
      (pss_cons (ps_set (i := 2) scTextL.nd rfl (.inr rfl) (pe_lst (pa_cons (pe_ix (r := rIxL K) ix_list (pv 1) pe_int (fun _ _ => rfl)) pa_nil)))
      (pss_cons (ps_for PassesOwn.never rfl (pi_list (pv 0)) (pg_name (i := 3) scTextL.nd rfl (.inl rfl))
      (pss_one (ps_if (PW.pt (pw_and (pt_cmpR (r := rIn K false) (by exact op_in_seq) (pe_ix (r := rIxL K) ix_list (pv 1) pe_int (fun _ _ => rfl)) (pv 3) (by rfl)) (pw_and1 (pt_chain op_lt op_lt (pe_callB call_len_seq (by rfl) T.len (by decide +kernel) (pa_cons (pv 2) pa_nil)) (pe_callB call_len_seq (by rfl) T.len (by decide +kernel) (pa_cons (pv 3) pa_nil)) (pe_callB call_len_seq (by rfl) T.len (by decide +kernel) (pa_cons (pv 1) pa_nil)))))) (pss_one (ps_set (i := 2) scTextL.nd rfl (.inr rfl) (pv 3))) pss_nil)))
      (pss_cons (ps_setLc (i := 5) (own := [("x", 4)]) (g := gName 4) rfl scTextL.nd rfl rfl (sw_true rfl rfl rfl (by decide +kernel)) (pi_list (pv 1)) (blkOk_by (own := [("x", 4)]) (N := ["lot", "one", "first", "other", "x", "rest"]) (sc := defScope sTextL) (by decide +kernel)) (fun _ _ _ _ _ => pg_name (i := 4) scTextL.nd rfl (Or.inl rfl)) (fun _ _ _ _ _ => (pts_one (pt_cmpR (r := rIn K true) (by exact op_notIn_seq) (pv 4) (pv 2) (by rfl)))) (fun _ _ _ _ _ => (pv 4)))
      (pss_one (ps_ret (pe_op op_add_str (pe_op op_add_str (pe_op op_add_str (pe_op op_add_str pe_str (pe_call GText (hr.mono (by omega)) rfl W.gText W.FText.kp W.bText .nil pass0 (pa_cons (pv 0) (pa_cons (pv 2) pa_nil)))) pe_str) (pe_call GText (hr.mono (by omega)) rfl W.gText W.FText.kp W.bText .nil pass0 (pa_cons (pv 0) (pa_cons (pv 5) pa_nil)))) pe_str))))))), ?_⟩
    have hal := half_len R few hh
    by_cases c1 : g.length = 1
    · have hp : ∃ p : Int, g = [p] ∧ 0 ≤ p ∧ p ≤ 19 := by
        rcases hh with h | ⟨p, e, p0, p1⟩
        · have := R.two g h
          omega
        · rw [List.length_map] at p1
          exact ⟨p, e, p0, by omega⟩
      obtain ⟨p, rfl, p0, p1⟩ := hp
      have lg : p.natAbs.log2 < 1920 := PySem.Flt.log2_lt_of (by decide) (Nat.lt_of_lt_of_le (show p.natAbs < 1024 by omega) (by decide))
      have kq := kq H .refl
      unfold trG at kq
      rw [if_pos (show [p].length = 1 from rfl)] at kq
      refine ⟨_, rfl, c, _, rfl, .inl hb, rfl, _, rfl, iteT ⟨_, rfl, c, _, _, _, rfl, rfl, hb, atI_nat (j := 0) rfl, p, rfl, lg, kq⟩⟩
    · have hg : g ∈ bs.map (·.2) := by
        rcases hh with h | ⟨p, e, _⟩
        · exact h
        · rw [e] at c1
          exact absurd rfl c1
      have kq := kq
      unfold trG at kq
      rw [if_neg c1] at kq
      have cc := R.halves hg
      have la := (R.parts_lt hg).1
      have lb' := (R.parts_lt hg).2
      have a0 : atI (g.map V.int) 0 = some (V.int (g.getD 0 0)) := by
        cases g with
        | nil => exact absurd hal (by decide)
        | cons x _ => exact atI_nat (j := 0) rfl
      refine ⟨_, rfl, c, _, rfl, .inl hb, rfl, _, rfl, ?_⟩
      rw [decide_eq_false (show ¬ V.int (((g.map V.int).length : Nat) : Int) = V.int 1 from fun z => by have := L2.V.int.inj z; rw [List.length_map] at this; omega)]
      refine iteF ⟨_, rfl, c, _, _, _, rfl, rfl, hb, a0, (by show 1 ≤ sizeLine; decide), fun f0 hf0 => ?_⟩
      have g0 : Grows H (upd H f0 (.lst [V.int (g.getD 0 0)])) := Grows.new hf0
      refine ⟨_, rfl, a, rfl, ⟨_, (hB.keep g0).top⟩, for_list (K := K) (xs := bs.map fun b => V.ref b.1) (TxInv K H a c bs g)
        ⟨f0, [g.getD 0 0], none, rfl, g0, SqL.of upd_same, .inl rfl, fun j hj => absurd hj (Nat.not_lt_zero j)⟩ (fun i σ G _ ⟨_, _, _, _, g, _⟩ => (hB.keep g).top) (fun i x σ G hx ⟨fa, F, o3, e, gG, hF, pf, mx⟩ => ?_) fun σ G ⟨fa, F, o3, e, gG, hF, pf, mx⟩ => ?_⟩
      · subst e
        have il := (List.getElem?_eq_some_iff.mp hx).1
        rw [List.length_map] at il
        obtain rfl := at_map (d := (0, [])) hx
        have hr1 := (hB.keep gG).at il
        have hm := mem_at il
        have stay : (g.getD 0 0 ∈ (bs.getD i (0, [])).2 → (bs.getD i (0, [])).2.length < g.length → (bs.getD i (0, [])).2.length ≤ F.length) → TxInv K H a c bs g (i + 1) [some (.ref a), some (.ref c), some (.ref fa), some (.ref (bs.getD i (0, [])).1), none, none] G := fun no => by
          refine ⟨fa, F, _, rfl, gG, hF, pf, fun j hj h1 h2 => ?_⟩
          rcases Nat.lt_or_ge j i with lt | ge
          · exact mx j lt h1 h2
          · obtain rfl : j = i := by omega
            exact no h1 h2
        have hg' := gG.seq hb
        refine ⟨_, rfl, c, _, _, _, rfl, rfl, hg', a0, _, rfl, (bs.getD i (0, [])).1, _, rfl, .inl hr1, rfl, flat_ints _, _, rfl, ?_⟩
        show if inV (.int (g.getD 0 0)) ((bs.getD i (0, [])).2.map V.int) = true then _ else _
        rw [inV_ints]
        by_cases h1 : g.getD 0 0 ∈ (bs.getD i (0, [])).2
        · rw [decide_eq_true h1]
          refine iteT ⟨_, rfl, fa, _, rfl, .inl hF, _, rfl, (bs.getD i (0, [])).1, _, rfl, .inl hr1, _, _, rfl, rfl, _, rfl, ?_⟩
          by_cases h2 : ((F.map V.int).length : Int) < (((bs.getD i (0, [])).2.map V.int).length : Int)
          · rw [if_pos (decide_eq_true h2)]
            refine ⟨_, rfl, c, _, rfl, .inl hg', _, _, rfl, rfl, _, rfl, ?_⟩
            rw [List.length_map, List.length_map] at h2
            show if decide ((((bs.getD i (0, [])).2.map V.int).length : Int) < ((g.map V.int).length : Int)) = true then _ else _
            rw [List.length_map, List.length_map]
            by_cases h3 : ((bs.getD i (0, [])).2.length : Int) < (g.length : Int)
            · rw [decide_eq_true h3]
              refine iteT ⟨_, rfl, ?_⟩
              show TxInv K H a c bs g (i + 1) _ _
              refine ⟨(bs.getD i (0, [])).1, (bs.getD i (0, [])).2, _, rfl, gG, hr1, .inr ⟨hm, h1, by omega⟩, fun j hj h4 h5 => ?_⟩
              rcases Nat.lt_or_ge j i with lt | ge
              · have := mx j lt h4 h5
                omega
              · obtain rfl : j = i := by omega
                exact Nat.le_refl _
            · rw [decide_eq_false h3]
              exact iteF (stay fun _ h => by omega)
          · rw [if_neg (fun z => h2 (of_decide_eq_true z))]
            rw [List.length_map, List.length_map] at h2
            exact ⟨_, rfl, iteF (stay fun _ _ => by omega)⟩
        · rw [decide_eq_false h1]
          exact iteF (stay fun h => absurd h h1)
      · subst e
        rw [List.length_map] at mx
        have eF : F = firR (bs.map (·.2)) g := pfl_fir R hg pf fun r hr h1 h2 => by
          obtain ⟨b, hb, rfl⟩ := List.mem_map.mp hr
          obtain ⟨j, jl, rfl⟩ := List.getElem_of_mem hb
          have eb : bs.getD j (0, []) = bs[j] := by rw [List.getD_eq_getElem?_getD, List.getElem?_eq_getElem jl]; rfl
          have := mx j jl
          rw [eb] at this
          exact this h1 h2
        have hg' := gG.seq hb
        refine ⟨_, rfl, c, rfl, ⟨_, hg'⟩, fun D hD => lc_listT (K := K) (fun j => decide (g.getD j 0 ∉ F)) (fun j => V.int (g.getD j 0)) hD hg' (by rw [List.length_map]; omega) (fun j y H2 Ry Rn hy sm ky kn => ?_) fun H2 g2 e2 => ?_⟩
        · obtain rfl := at_map (d := 0) hy
          refine ⟨rfl, _, rfl, _, rfl, fa, _, rfl, .inl (sm.seq hF), rfl, flat_ints _, _, rfl, ?_⟩
          show if (!inV (.int (g.getD j 0)) (F.map V.int)) = true then _ else _
          rw [inV_ints]
          by_cases h : g.getD j 0 ∈ F
          · rw [decide_eq_true h]
            exact iteF (kn (decide_eq_false fun z => z h) _ .refl)
          · rw [decide_eq_false h]
            exact iteT ⟨_, rfl, ky (decide_eq_true h) _ .refl⟩
        · have es : kept (fun j => decide (g.getD j 0 ∉ F)) (fun j => V.int (g.getD j 0)) g.length = (secR (bs.map (·.2)) g).map V.int := by
            have := filtB 0 (fun x => decide (x ∉ F)) g
            unfold kept secR
            rw [← eF, ← this, List.map_map]
            rfl
          rw [List.length_map, es] at e2
          rw [eF] at hF
          have few' : (bs.map (·.2)).length ≤ 19 := by rw [List.length_map]; exact few
          have sa := (tr_ok R few' n _ cc.ha (by omega)).short
          have sb := (tr_ok R few' n _ cc.hb (by omega)).short
          have h5 := h0 a fa bs (firR (bs.map (·.2)) g)
          have h6 := h0 a D bs (secR (bs.map (·.2)) g)
          generalize trG (bs.map (·.2)) n (firR (bs.map (·.2)) g) = ta at sa h5 kq
          generalize trG (bs.map (·.2)) n (secR (bs.map (·.2)) g) = tb at sb h6 kq
          have z1 : (Str.ofString "(").length = 1 := by decide
          have z2 : (Str.ofString " ").length = 1 := by decide
          have z3 : (Str.ofString ")").length = 1 := by decide
          have big : 1000 ≤ sizeLine := by decide
          have B2 := hB.keep (gG.trans g2)
          refine ⟨_, rfl, _, rfl, h5 H2 _ B2 R few (g2.seq hF) cc.ha (by omega) (by omega) fun H3 g3 => ⟨_, _, rfl, rfl, by omega, _, _, rfl, rfl, by rw [app_len]; omega, ?_⟩⟩
          refine ⟨_, rfl, _, rfl, h6 H3 _ (B2.keep g3) R few (SqL.of (g3 _ _ e2)) cc.hb (by omega) (by omega) fun H4 g4 => ⟨_, _, rfl, rfl, by rw [app_len, app_len]; omega, _, _, rfl, rfl, by rw [app_len, app_len, app_len]; omega, kq H4 (((gG.trans g2).trans g3).trans g4)⟩⟩
theorem ok_text (W : LawG K mg) (T : TxtP mg) (T0 : Txt0 mg) (TS : mg "str" = none) : ∀ n, FnOk P w K mg base CX0 (n + 2) W.fText W.dText ["lot", "one"] (spPart K (n + 1))
  | 0 => text_body (n := 0) (k := 1) (sp0 := fun _ _ _ _ => False) W T T0 TS ⟨fun _ _ _ _ h => h.elim, fun _ _ _ _ _ _ _ _ _ _ _ _ _ h => h.elim⟩ (by decide) fun a b bs g H Q _ R few _ h l _ _ => by
    have := half_len R few h
    omega
  | n + 1 => text_body (n := n + 1) W T T0 TS (ok_text W T T0 TS n) (by omega) fun a b bs g H Q h1 h2 h3 h4 h5 h6 h7 h8 => ⟨a, b, bs, g, rfl, h1, h2, h3, h4, h5, h6, h7, h8⟩
end
end K50

namespace K50
open PySem PySem.Spec PyProof.Rows L2 LcM
/-- an int, a bool or a text -/
def Sc (x : L2.V) : Prop := (∃ i : Int, x = .int i) ∨ (∃ b : Bool, x = .bl b) ∨ ∃ y : Str, x = .str y
theorem Sc.scal {x : L2.V} (h : Sc x) : scal x x = true := by
  rcases h with ⟨i, rfl⟩ | ⟨b, rfl⟩ | ⟨y, rfl⟩ <;> rfl
def scT : L2.V → Value
  | .int _ => .type "int"
  | .str _ => .type "str"
  | _ => .type "bool"
def isI : L2.V → Bool
  | .str _ => false
  | _ => true
def isS : L2.V → Bool
  | .str _ => true
  | _ => false
def isB : L2.V → Bool
  | .bl _ => true
  | _ => false
theorem Sc.ty {K : PySem.W.Frag} {H : Hp} {x : L2.V} (h : Sc x) : TyX K H x (scT x) := by
  rcases h with ⟨i, rfl⟩ | ⟨b, rfl⟩ | ⟨y, rfl⟩
  · exact .base (.int i)
  · exact .base (.bl b)
  · exact .base (.str y)
theorem Sc.kSeq {K : PySem.W.Frag} {x : L2.V} (h : Sc x) : PySem.W.kitAny K (scT x) [.type "list", .type "tuple"] = some false := by
  rcases h with ⟨i, rfl⟩ | ⟨b, rfl⟩ | ⟨y, rfl⟩
  · exact kitAny_cons (b := false) (kit_ty (by decide +kernel)) (fun _ => kitAny_cons (b := false) (kit_ty (by decide +kernel)) (fun _ => kitAny_nil) (fun z => nomatch z)) (fun z => nomatch z)
  · exact kitAny_cons (b := false) (kit_ty (by decide +kernel)) (fun _ => kitAny_cons (b := false) (kit_ty (by decide +kernel)) (fun _ => kitAny_nil) (fun z => nomatch z)) (fun z => nomatch z)
  · exact kitAny_cons (b := false) (kit_ty (by decide +kernel)) (fun _ => kitAny_cons (b := false) (kit_ty (by decide +kernel)) (fun _ => kitAny_nil) (fun z => nomatch z)) (fun z => nomatch z)
theorem kList {K : PySem.W.Frag} : PySem.W.kitAny K (.type "list") [.type "list", .type "tuple"] = some true := kitAny_cons (b := true) (kit_ty (by decide +kernel)) (fun z => nomatch z) (fun _ => rfl)
theorem kTup {K : PySem.W.Frag} : PySem.W.kitAny K (.type "tuple") [.type "list", .type "tuple"] = some true := kitAny_cons (b := false) (kit_ty (by decide +kernel)) (fun _ => kitAny_cons (b := true) (kit_ty (by decide +kernel)) (fun z => nomatch z) (fun _ => rfl)) (fun z => nomatch z)
theorem Sc.kB {K : PySem.W.Frag} {x : L2.V} (h : Sc x) : PySem.W.kitOne K (scT x) (.type "bool") = some (isB x) := by
  rcases h with ⟨i, rfl⟩ | ⟨b, rfl⟩ | ⟨y, rfl⟩
  · exact kit_ty (show kitB "int" "bool" = some false by decide +kernel)
  · exact kit_ty (show kitB "bool" "bool" = some true by decide +kernel)
  · exact kit_ty (show kitB "str" "bool" = some false by decide +kernel)
theorem Sc.kI {K : PySem.W.Frag} {x : L2.V} (h : Sc x) : PySem.W.kitOne K (scT x) (.type "int") = some (isI x) := by
  rcases h with ⟨i, rfl⟩ | ⟨b, rfl⟩ | ⟨y, rfl⟩
  · exact kit_ty (show kitB "int" "int" = some true by decide +kernel)
  · exact kit_ty (show kitB "bool" "int" = some true by decide +kernel)
  · exact kit_ty (show kitB "str" "int" = some false by decide +kernel)
theorem Sc.kS {K : PySem.W.Frag} {x : L2.V} (h : Sc x) : PySem.W.kitOne K (scT x) (.type "str") = some (isS x) := by
  rcases h with ⟨i, rfl⟩ | ⟨b, rfl⟩ | ⟨y, rfl⟩
  · exact kit_ty (show kitB "int" "str" = some false by decide +kernel)
  · exact kit_ty (show kitB "bool" "str" = some false by decide +kernel)
  · exact kit_ty (show kitB "str" "str" = some true by decide +kernel)
/-- a[i] of a list or a tuple -/
def rIxB (K : PySem.W.Frag) : R2 := fun x y H Q => rIxL K x y H Q ∨ rIxT K x y H Q
theorem ix_both {X : Cx} : IxR X (rIxB X.K) := fun value slice pins s σ H x y v u Q I rx ry h hs => h.elim (fun h => ix_list value slice pins s σ H x y v u Q I rx ry h hs) fun h => ix_tup value slice pins s σ H x y v u Q I rx ry h hs
/-- the same data, to a depth -/
def Alk (H : Hp) : Nat → V → V → Prop
  | 0, x, y => Sc x ∧ x = y
  | n + 1, x, y => (Sc x ∧ x = y) ∨ ∃ (a b : Addr) (xs ys : List V), x = .ref a ∧ y = .ref b ∧ ((H a = some (.lst xs) ∧ H b = some (.lst ys)) ∨ (H a = some (.tup xs) ∧ H b = some (.tup ys))) ∧ ys.length = xs.length ∧ xs.length ≤ 100 ∧
      ∀ (i : Nat) (x y : V), xs[i]? = some x → ys[i]? = some y → Alk H n x y
theorem Alk.keep {H H' : Hp} (g : Grows H H') : ∀ {n : Nat} {x y : V}, Alk H n x y → Alk H' n x y
  | 0, _, _, h => h
  | n + 1, x, y, .inl h => .inl h
  | n + 1, x, y, .inr ⟨a, b, xs, ys, ex, ey, h, l, l2, k⟩ => .inr ⟨a, b, xs, ys, ex, ey, h.imp (fun z => ⟨g _ _ z.1, g _ _ z.2⟩) fun z => ⟨g _ _ z.1, g _ _ z.2⟩, l, l2, fun i x y h1 h2 => Alk.keep g (k i x y h1 h2)⟩
def spAlk (n : Nat) : Sp := fun vs H Q _ => ∃ x y : V, vs = [x, y] ∧ Alk H n x y ∧ ∀ H', Grows H H' → Q (.bl true) H'
theorem sameU {H : Hp} {p : Addr} {o : HO} (h : H p = none) : Grows H (upd H p o) := fun b x e => by
  rw [upd_ne (ne_of_none e h)]
  exact e
theorem iteP {c A B : Prop} [Decidable c] (hc : c) (h : A) : if (decide c) = true then A else B := by
  rw [decide_eq_true hc]
  exact iteT h
structure TxtA (mg : Str → Option Value) (fA : Addr) : Prop extends Txt0 mg where
  isi : mg "isinstance" = none
  lst : mg "list" = none
  tup : mg "tuple" = none
  all : mg "all" = none
  bool : mg "bool" = none
  str : mg "str" = none
  gA : mg "_law_alike" = some (.ref fA)
section
variable {P : Program} {w : World} {K : PySem.W.Frag} {mg : Str → Option Value} {base : Heap}
theorem scAlike : FnScope ["found", "due", "k"] ["found", "due"] (defScope sAlike) := ⟨rfl, rfl, rfl, by decide +kernel, rfl, by decide +kernel, by decide +kernel⟩
theorem alike_body {f : Addr} {fd : FuncData} {n : Nat} {sp0 sp : Sp} (F : Fun K "_law_alike" "_law_alike" sAlike f fd) (T : TxtA mg f) (bA : Binds K fd ["found", "due"] []) (G : FnOk P w K mg base CX0 n f fd ["found", "due"] sp0)
    (len : ∀ vs H Q E, sp vs H Q E → vs.length = 2) (hsp : ∀ vs H Q E, sp vs H Q E → (∃ x : V, vs = [x, x] ∧ Sc x ∧ ∀ H', Grows H H' → Q (.bl true) H') ∨
      ∃ (a b : Addr) (xs ys : List V), vs = [.ref a, .ref b] ∧ ((H a = some (.lst xs) ∧ H b = some (.lst ys)) ∨ (H a = some (.tup xs) ∧ H b = some (.tup ys))) ∧ ys.length = xs.length ∧ xs.length ≤ 100 ∧ (∀ H', Grows H H' → Q (.bl true) H') ∧
        ∀ (i : Nat) (x y : V) (H' : Hp) (Q' : VK), xs[i]? = some x → ys[i]? = some y → Grows H H' → (∀ H2, Grows H' H2 → Q' (.bl true) H2) → sp0 [x, y] H' Q' E0) :
    FnOk P w K mg base CX0 (n + 1) f fd ["found", "due"] sp := by
  refine F.ok scAlike len (fun cdv A outer s H vs Q E hr h => ?_)
  refine ⟨_, (pss_cons (ps_if (pt_val (pe_callB call_isiT (by rfl) T.isi (by decide +kernel) (pa_cons (pv 1) (pa_cons (pe_tup (pa_cons (pe_bltn (v := .ty "list") (u := .type "list") (by rfl) T.lst (by decide +kernel) rfl) (pa_cons (pe_bltn (v := .ty "tuple") (u := .type "tuple") (by rfl) T.tup (by decide +kernel) rfl) pa_nil))) pa_nil))))
      (pss_cons (ps_if (PW.pt (pw_or (pt_not (pt_val (pe_callB call_isiT (by rfl) T.isi (by decide +kernel) (pa_cons (pv 0) (pa_cons (pe_tup (pa_cons (pe_bltn (v := .ty "list") (u := .type "list") (by rfl) T.lst (by decide +kernel) rfl) (pa_cons (pe_bltn (v := .ty "tuple") (u := .type "tuple") (by rfl) T.tup (by decide +kernel) rfl) pa_nil))) pa_nil))))) (pw_or1 (pt_cmpR op_ne (pe_callB call_isi (by rfl) T.isi (by decide +kernel) (pa_cons (pv 0) (pa_cons (pe_bltn (v := .ty "list") (u := .type "list") (by rfl) T.lst (by decide +kernel) rfl) pa_nil))) (pe_callB call_isi (by rfl) T.isi (by decide +kernel) (pa_cons (pv 1) (pa_cons (pe_bltn (v := .ty "list") (u := .type "list") (by rfl) T.lst (by decide +kernel) rfl) pa_nil))) (nomark _))))) (pss_one (ps_ret pe_bl)) pss_nil)
      (pss_cons (ps_if (pt_cmpR op_ne (pe_callB call_len_seq (by rfl) T.len boot_len (pa_cons (pv 0) pa_nil)) (pe_callB call_len_seq (by rfl) T.len boot_len (pa_cons (pv 1) pa_nil)) (nomark _)) (pss_one (ps_ret pe_bl)) pss_nil)
      (pss_one (ps_ret (pe_callB (cr_all rfl) (by rfl) T.all (by decide +kernel) (pa_cons (pe_lc (own := [("k", 2)]) (g := gName 2) (tt := tYes) rfl scAlike.nd (pi_range1 (by rfl) T.range (pa_cons (pe_callB call_len_seq (by rfl) T.len boot_len (pa_cons (pv 1) pa_nil)) pa_nil)) (blkOk_by (N := ["found", "due", "k"]) (sc := defScope sAlike) (by decide +kernel)) (fun _ _ _ _ _ => pg_name (i := 2) scAlike.nd rfl (Or.inl rfl)) (fun _ _ _ _ _ => pts_nil) (fun _ _ _ _ _ => pe_call G hr rfl T.gA F.kp bA .nil pass0 (pa_cons (pe_ix (r := rIxB K) (by exact ix_both) (pv 0) (pv 2) (fun _ _ => rfl)) (pa_cons (pe_ix (r := rIxB K) (by exact ix_both) (pv 1) (pv 2) (fun _ _ => rfl)) pa_nil)))) pa_nil))))))
      pss_nil)
      (pss_cons (ps_if (PW.pt (pw_or (pt_cmpR op_ne (pe_callB call_isi (by rfl) T.isi (by decide +kernel) (pa_cons (pv 0) (pa_cons (pe_bltn (v := .ty "bool") (u := .type "bool") (by rfl) T.bool (by decide +kernel) rfl) pa_nil))) (pe_callB call_isi (by rfl) T.isi (by decide +kernel) (pa_cons (pv 1) (pa_cons (pe_bltn (v := .ty "bool") (u := .type "bool") (by rfl) T.bool (by decide +kernel) rfl) pa_nil))) (nomark _)) (pw_or1 (pt_cmpR op_ne (pe_callB call_isi (by rfl) T.isi (by decide +kernel) (pa_cons (pv 0) (pa_cons (pe_bltn (v := .ty "int") (u := .type "int") (by rfl) T.int (by decide +kernel) rfl) pa_nil))) (pe_callB call_isi (by rfl) T.isi (by decide +kernel) (pa_cons (pv 1) (pa_cons (pe_bltn (v := .ty "int") (u := .type "int") (by rfl) T.int (by decide +kernel) rfl) pa_nil))) (nomark _))))) (pss_one (ps_ret pe_bl)) pss_nil)
      (pss_one (ps_ret (pe_and (pe_cmpR op_eq (pe_callB call_isi (by rfl) T.isi (by decide +kernel) (pa_cons (pv 0) (pa_cons (pe_bltn (v := .ty "str") (u := .type "str") (by rfl) T.str (by decide +kernel) rfl) pa_nil))) (pe_callB call_isi (by rfl) T.isi (by decide +kernel) (pa_cons (pv 1) (pa_cons (pe_bltn (v := .ty "str") (u := .type "str") (by rfl) T.str (by decide +kernel) rfl) pa_nil))) (nomark _)) (pe_one (pe_cmpR op_eq (pv 0) (pv 1) (nomark _)))))))), ?_⟩
  have pr : Paired ClsV [V.ty "list", V.ty "tuple"] [Value.type "list", Value.type "tuple"] := Paired.cons (ClsV.ty _) (Paired.cons (ClsV.ty _) Paired.nil)
  rcases hsp _ _ _ _ h with ⟨x, rfl, hx, k⟩ | ⟨a, b, xs, ys, rfl, hab, hly, hl, k, k0⟩
  · refine ⟨_, rfl, (by show 2 ≤ sizeLine; decide), fun t nt => ⟨x, t, _, _, _, false, rfl, upd_same, pr, hx.ty, hx.kSeq, _, rfl, iteF ?_⟩⟩
    refine ⟨_, rfl, x, .ty "bool", _, _, isB x, rfl, .ty _, hx.ty, hx.kB, _, rfl, x, .ty "bool", _, _, isB x, rfl, .ty _, hx.ty, hx.kB, rfl, _, rfl, iteNS rfl ?_⟩
    refine ⟨_, rfl, x, .ty "int", _, _, isI x, rfl, .ty _, hx.ty, hx.kI, _, rfl, x, .ty "int", _, _, isI x, rfl, .ty _, hx.ty, hx.kI, rfl, _, rfl, iteNS rfl ?_⟩
    refine ⟨_, rfl, x, .ty "str", _, _, isS x, rfl, .ty _, hx.ty, hx.kS, _, rfl, x, .ty "str", _, _, isS x, rfl, .ty _, hx.ty, hx.kS, rfl, _, rfl, iteP rfl ?_⟩
    refine ⟨_, rfl, _, rfl, hx.scal, ?_⟩
    have e : decide (x = x) = true := decide_eq_true rfl
    show Q (.bl (decide (x = x))) _
    rw [e]
    exact k _ (sameU nt)
  · obtain ⟨ta, ka, kl, tya, tyb, sa, sb, ia, ib⟩ : ∃ ta : String, PySem.W.kitAny K (.type ta) [.type "list", .type "tuple"] = some true ∧ PySem.W.kitOne K (.type ta) (.type "list") = some (decide (ta = "list")) ∧ (∀ H', Grows H H' → TyX K H' (.ref a) (.type ta)) ∧ (∀ H', Grows H H' → TyX K H' (.ref b) (.type ta)) ∧
        (∀ H', Grows H H' → SqL K H' a xs ∨ SqT K H' a xs) ∧ (∀ H', Grows H H' → SqL K H' b ys ∨ SqT K H' b ys) ∧
        (∀ (i : Int) (v : V) (H' : Hp) (R : VK), Grows H H' → atI xs i = some v → R v H' → rIxB K (.ref a) (.int i) H' R) ∧ (∀ (i : Int) (v : V) (H' : Hp) (R : VK), Grows H H' → atI ys i = some v → R v H' → rIxB K (.ref b) (.int i) H' R) := by
      rcases hab with ⟨ha, hb⟩ | ⟨ha, hb⟩
      · exact ⟨"list", kList, kit_ty (by decide +kernel), fun H' g => .base (.lst (g _ _ ha)), fun H' g => .base (.lst (g _ _ hb)), fun H' g => .inl (SqL.of (g _ _ ha)), fun H' g => .inl (SqL.of (g _ _ hb)),
          fun i v H' R g e r => .inl ⟨a, xs, i, v, rfl, rfl, SqL.of (g _ _ ha), e, r⟩, fun i v H' R g e r => .inl ⟨b, ys, i, v, rfl, rfl, SqL.of (g _ _ hb), e, r⟩⟩
      · exact ⟨"tuple", kTup, kit_ty (by decide +kernel), fun H' g => .base (.tup (g _ _ ha)), fun H' g => .base (.tup (g _ _ hb)), fun H' g => .inr (SqT.of (g _ _ ha)), fun H' g => .inr (SqT.of (g _ _ hb)),
          fun i v H' R g e r => .inr ⟨a, xs, i, v, rfl, rfl, SqT.of (g _ _ ha), e, r⟩, fun i v H' R g e r => .inr ⟨b, ys, i, v, rfl, rfl, SqT.of (g _ _ hb), e, r⟩⟩
    refine ⟨_, rfl, (by show 2 ≤ sizeLine; decide), fun t nt => ⟨.ref b, t, _, _, _, true, rfl, upd_same, pr, tyb _ (sameU nt), ka, _, rfl, iteT ?_⟩⟩
    have s1 : Grows H (upd H t (.tup [V.ty "list", V.ty "tuple"])) := sameU nt
    refine ⟨_, rfl, (by show 2 ≤ sizeLine; decide), fun u nu => ⟨.ref a, u, _, _, _, true, rfl, upd_same, pr, tya _ (s1.trans (sameU nu)), ka, _, rfl, iteF ?_⟩⟩
    have s2 := s1.trans (sameU (o := .tup [V.ty "list", V.ty "tuple"]) nu)
    refine ⟨_, rfl, .ref a, .ty "list", _, _, decide (ta = "list"), rfl, .ty _, tya _ s2, kl, _, rfl, .ref b, .ty "list", _, _, decide (ta = "list"), rfl, .ty _, tyb _ s2, kl, rfl, _, rfl, iteNS rfl ?_⟩
    refine ⟨_, rfl, a, xs, rfl, sa _ s2, _, rfl, b, ys, rfl, sb _ s2, rfl, _, rfl, iteNS (by rw [hly]) ?_⟩
    refine ⟨_, rfl, b, ys, rfl, sb _ s2, _, rfl, by omega, by omega, fun D hD => ?_⟩
    have s3 := s2.trans (sameU (o := .lst []) hD)
    refine lc_range (n := ys.length) (fun i H2 => Grows H H2 ∧ H2 D = some (.lst ((List.replicate i true).map V.bl))) ⟨s3, upd_same⟩ ?_ ?_
    · rintro i H2 hi ⟨sm, eD⟩
      have g : xs[i]? = some xs[i] := List.getElem?_eq_getElem (by omega)
      have gy : ys[i]? = some ys[i] := List.getElem?_eq_getElem hi
      refine ⟨rfl, ?_⟩
      unfold tYes
      dsimp only
      rw [if_pos rfl]
      refine ⟨_, rfl, _, rfl, ia _ _ _ _ sm (by rw [Int.zero_add]; exact atI_nat g) ⟨_, rfl, _, rfl, ib _ _ _ _ sm (by rw [Int.zero_add]; exact atI_nat gy) ?_⟩⟩
      refine k0 i _ _ _ _ g gy sm fun H3 sm3 => ⟨_, sm3 _ _ eD, ?_, ?_, ?_⟩
      · rw [List.length_map, List.length_replicate]
        exact small1000 (by omega)
      · intro q o e
        have nq : q ≠ D := ne_of_none e (none_back s2 hD)
        rw [upd_ne nq]
        exact sm3 _ _ (sm _ _ e)
      · rw [upd_same, List.replicate_succ', List.map_append]
        rfl
    · rintro H2 ⟨sm, eD⟩
      refine ⟨D, _, rfl, SqL.of eD, ?_⟩
      rw [show (List.replicate ys.length true).all id = true by simp]
      exact k _ sm
theorem ok_alk {f : Addr} {fd : FuncData} (F : Fun K "_law_alike" "_law_alike" sAlike f fd) (T : TxtA mg f) (bA : Binds K fd ["found", "due"] []) : ∀ n, FnOk P w K mg base CX0 (n + 1) f fd ["found", "due"] (spAlk n)
  | 0 => by
    refine alike_body F T bA (sp0 := fun _ _ _ _ => False) (n := 0) ⟨fun _ _ _ _ h => h.elim, fun _ _ _ _ _ _ _ _ _ _ _ _ _ h => h.elim⟩ (fun vs H Q E h => ?_) (fun vs H Q E h => .inl ?_)
    · obtain ⟨x, y, rfl, _⟩ := h
      rfl
    · obtain ⟨x, y, rfl, ⟨hx, rfl⟩, k⟩ := h
      exact ⟨x, rfl, hx, k⟩
  | n + 1 => by
    refine alike_body F T bA (ok_alk F T bA n) (fun vs H Q E h => ?_) (fun vs H Q E h => ?_)
    · obtain ⟨x, y, rfl, _⟩ := h
      rfl
    · obtain ⟨x, y, rfl, hx, k⟩ := h
      rcases hx with ⟨hx, rfl⟩ | ⟨a, b, xs, ys, rfl, rfl, h, l, l2, kk⟩
      · exact .inl ⟨x, rfl, hx, k⟩
      · exact .inr ⟨a, b, xs, ys, rfl, h, l, l2, k, fun i x y H' Q' h1 h2 g k2 => ⟨x, y, rfl, (kk i x y h1 h2).keep g, k2⟩⟩
end
end K50

namespace K50
open PySem PySem.Spec PyProof.Rows L2 SortR LcM RepA
structure Tx (n w : Nat) (d : PyData) : Prop where
  sh : d.showable = true
  dp : d.depth ≤ n
  lv : PyData.leavesShort 40 d = true
  wt : d.weight ≤ w
theorem Tx.le {n w m v : Nat} {d : PyData} (h : Tx n w d) (a : n ≤ m) (b : w ≤ v) : Tx m v d := ⟨h.sh, Nat.le_trans h.dp a, h.lv, Nat.le_trans h.wt b⟩
theorem dp_mem {K : PySem.W.Frag} {H : Hp} : ∀ {xs : List L2.V} {ds : List PyData}, DpAll K H xs ds → ∀ x ∈ xs, ∃ d ∈ ds, Dp K H x d
  | _, _, .nil, _, h => nomatch h
  | _, _, .cons a b, x, h => by
    rcases List.mem_cons.mp h with e | e
    · rw [e]
      exact ⟨_, List.mem_cons_self, a⟩
    · obtain ⟨d, hd, q⟩ := dp_mem b x e
      exact ⟨d, List.mem_cons_of_mem _ hd, q⟩
/-! ### texts that are not too long -/
def txB (n w : Nat) (d : PyData) : Bool := d.showable && decide (d.depth ≤ n) && PyData.leavesShort 40 d && decide (d.weight ≤ w)
theorem tx_of {n w : Nat} {d : PyData} (h : txB n w d = true) : Tx n w d := by
  unfold txB at h
  simp only [Bool.and_eq_true, decide_eq_true_eq] at h
  exact ⟨h.1.1.1, h.1.1.2, h.1.2, h.2⟩
theorem tx_all {n w : Nat} : ∀ ds : List PyData, (∀ d ∈ ds, Tx n w d) → PyData.showableAll ds = true ∧ PyData.depthAll ds ≤ n ∧ PyData.leavesShortAll 40 ds = true ∧ PyData.weightAll ds ≤ ds.length * (w + 1)
  | [], _ => by simp only [PyData.showableAll, PyData.depthAll, PyData.leavesShortAll, PyData.weightAll]; exact ⟨trivial, Nat.zero_le _, trivial, Nat.zero_le _⟩
  | d :: ds, h => by
    obtain ⟨a1, a3, a4, a5⟩ := tx_all ds fun e m => h e (List.mem_cons_of_mem _ m)
    obtain ⟨b1, b3, b4, b5⟩ := h d List.mem_cons_self
    refine ⟨?_, ?_, ?_, ?_⟩
    · simp only [PyData.showableAll, a1, b1, Bool.and_self]
    · simp only [PyData.depthAll]; omega
    · simp only [PyData.leavesShortAll, a4, b4, Bool.and_self]
    · simp only [PyData.weightAll, List.length_cons]
      rw [Nat.add_mul]
      omega
theorem tx_list {n w m : Nat} {ds : List PyData} (h : ∀ d ∈ ds, Tx n w d) (l : ds.length ≤ m) : Tx (n + 1) (m * (w + 1)) (.list ds) := by
  obtain ⟨a1, a3, a4, a5⟩ := tx_all ds h
  refine ⟨?_, ?_, ?_, ?_⟩
  · simp only [PyData.showable, a1]
  · simp only [PyData.depth]; omega
  · simp only [PyData.leavesShort, a4]
  · simp only [PyData.weight]; exact Nat.le_trans a5 (Nat.mul_le_mul_right _ l)
theorem tx_tuple {n w m : Nat} {ds : List PyData} (h : ∀ d ∈ ds, Tx n w d) (l : ds.length ≤ m) : Tx (n + 1) (m * (w + 1)) (.tuple ds) := by
  obtain ⟨a1, a3, a4, a5⟩ := tx_all ds h
  refine ⟨?_, ?_, ?_, ?_⟩
  · simp only [PyData.showable, a1]
  · simp only [PyData.depth]; omega
  · simp only [PyData.leavesShort, a4]
  · simp only [PyData.weight]; exact Nat.le_trans a5 (Nat.mul_le_mul_right _ l)
theorem tx_int {i : Int} (h : i.natAbs < 10 ^ 12) : Tx 0 110 (.int i) := by
  have s := show_ints [i] (fun x hx => by rw [List.mem_singleton.mp hx]; exact h)
  have w := weight_ints [i] (fun x hx => by rw [List.mem_singleton.mp hx]; exact h)
  have l := PyData.intsShortAll_ints [i] (fun x hx => by rw [List.mem_singleton.mp hx]; exact h)
  refine ⟨?_, ?_, ?_, ?_⟩
  · simpa [PyData.showableAll] using s
  · simp only [PyData.depth]; omega
  · have l2 : PyData.intsShort 13 (.int i) = true := by simpa [PyData.intsShortAll] using l
    have l3 := PyData.leavesShort_of_canLay0 13 (.int i) (by simp only [PyData.canLay0]) l2
    rw [PyData.leavesShort] at l3 ⊢
    exact decide_eq_true (Nat.le_trans (of_decide_eq_true l3) (by decide))
  · simp only [List.map_cons, List.map_nil, PyData.weightAll, List.length_cons, List.length_nil] at w
    omega
/-- rows of persons -/
abbrev rowD (r : List Int) : PyData := .list (r.map .int)
abbrev rowsD (rs : List (List Int)) : List PyData := rs.map rowD
def Sm (r : List Int) : Prop := r.length ≤ 25 ∧ ∀ x ∈ r, 0 ≤ x ∧ x ≤ 1000
theorem tx_row {r : List Int} (h : Sm r) : Tx 1 2775 (rowD r) := tx_list (n := 0) (w := 110) (m := 25) (fun d hd => by
  obtain ⟨x, hx, rfl⟩ := List.mem_map.mp hd
  have := h.2 x hx
  exact tx_int (by omega)) (by rw [List.length_map]; exact h.1)
theorem tx_rows {rs : List (List Int)} {m : Nat} (h : ∀ r ∈ rs, Sm r) (l : rs.length ≤ m) : Tx 2 (m * 2776) (.list (rowsD rs)) := tx_list (n := 1) (w := 2775) (m := m) (fun d hd => by
  obtain ⟨r, hr, rfl⟩ := List.mem_map.mp hd
  exact tx_row (h r hr)) (by rw [List.length_map]; exact l)
theorem tx_shown {d : PyData} (h : Tx 20 100000 d) : d.shown.length ≤ sizeLine := by
  have q := PyData.shown_le 40 (by decide) d h.lv
  have w := h.wt
  rw [sizeLine_eq]
  omega
/-- repr of data that are not too long -/
def rReprD (K : PySem.W.Frag) : List V → Hp → VK → Prop := fun xs H Q => ∃ (x : V) (d : PyData), xs = [x] ∧ Dd K H x d ∧ Tx 20 100000 d ∧ Q (.str d.shown) H
theorem cr_reprD {X : Cx} (hg : X.A.guards = some []) (hu : X.A.units + 64 < cLine) : CallR X (.builtin "repr") (rReprD X.K) := by
  intro pins s σ H xs us Q I r h
  obtain ⟨x, d, e, hd, tx, q⟩ := h
  exact call_reprV hg hu pins s σ H xs us Q I r ⟨x, d, e, .inl hd, tx.sh, Nat.le_trans tx.dp (by decide), tx_shown tx, q⟩
theorem tx_big {n w : Nat} {d : PyData} (h : Tx n w d) (a : n ≤ 20) (b : w ≤ 100000) : Tx 20 100000 d := h.le a b
/-- a tuple of two ints that stands -/
theorem dp_two {K : PySem.W.Frag} {H : Hp} {t : Addr} {u v : Int} (h : H t = some (.tup [.int u, .int v])) : Dp K H (.ref t) (.tuple [.int u, .int v]) := .tup (SqT.of h) (.cons (.int u) (.cons (.int v) .nil))
theorem tx_two {u v : Int} (a : u.natAbs < 10 ^ 12) (b : v.natAbs < 10 ^ 12) : Tx 20 100000 (.tuple [.int u, .int v]) :=
  tx_big (tx_tuple (n := 0) (w := 110) (m := 2) (fun d hd => by
    rcases List.mem_cons.mp hd with e | e
    · rw [e]
      exact tx_int a
    · rw [List.mem_singleton.mp e]
      exact tx_int b) (Nat.le_refl 2)) (by decide) (by decide)
end K50

namespace K50
open PySem PySem.Spec PyProof.Rows L2 SortR LcM RepA TL
def spLaw (K : PySem.W.Frag) : Sp := fun vs H Q _ => ∃ (a : Addr) (ns : List Int), vs = [.ref a] ∧ SqL K H a (ns.map L2.V.int) ∧ ns.length ≤ 63 ∧ ∀ H', Q (.bl true) H'
/-- the arguments, by place or by name -/
def selL {α : Type} : List α → List α → List α
  | [], ws => ws
  | us, [] => us
  | _, _ => []
theorem Alk.up {H : Hp} : ∀ {n : Nat} {x y : V}, Alk H n x y → Alk H (n + 1) x y
  | 0, _, _, h => .inl h
  | n + 1, x, y, .inl h => .inl h
  | n + 1, x, y, .inr ⟨a, b, xs, ys, ex, ey, h, l, l2, k⟩ => .inr ⟨a, b, xs, ys, ex, ey, h, l, l2, fun i x y h1 h2 => Alk.up (k i x y h1 h2)⟩
theorem alk_ints {H : Hp} {a b : Addr} {xs : List Int} (ha : H a = some (.lst (xs.map V.int))) (hb : H b = some (.lst (xs.map V.int))) (l : xs.length ≤ 100) : Alk H 1 (.ref a) (.ref b) :=
  .inr ⟨a, b, _, _, rfl, rfl, .inl ⟨ha, hb⟩, rfl, by rw [List.length_map]; exact l, fun i x y h1 h2 => by
    rw [h1] at h2
    obtain rfl := Option.some.inj h2
    obtain rfl := at_map (d := 0) h1
    exact ⟨.inl ⟨_, rfl⟩, rfl⟩⟩
theorem alk_rows {H : Hp} {a b : Addr} {cs ds : List (Addr × List Int)} (ha : Rl H a cs) (hb : Rl H b ds) (e : cs.map (·.2) = ds.map (·.2)) (l : cs.length ≤ 100) (l2 : ∀ r ∈ cs.map (·.2), r.length ≤ 100) : Alk H 2 (.ref a) (.ref b) := by
  have el : ds.length = cs.length := by
    have := congrArg List.length e
    rw [List.length_map, List.length_map] at this
    exact this.symm
  refine .inr ⟨a, b, _, _, rfl, rfl, .inl ⟨ha.top, hb.top⟩, by rw [List.length_map, List.length_map, el], by rw [List.length_map]; exact l, fun i x y h1 h2 => ?_⟩
  have il := (List.getElem?_eq_some_iff.mp h1).1
  rw [List.length_map] at il
  obtain rfl := at_map (d := (0, [])) h1
  obtain rfl := at_map (d := (0, [])) h2
  have e1 := ha.at il
  have e2 := hb.at (i := i) (by omega)
  have e3 : (cs.getD i (0, [])).2 = (ds.getD i (0, [])).2 := by
    rw [← snd_at cs i, ← snd_at ds i, e]
  rw [← e3] at e2
  exact alk_ints e1 e2 (l2 _ (mem_at il))
theorem alk_two {H : Hp} {n : Nat} {a b : Addr} {x1 x2 y1 y2 : V} (ha : H a = some (.lst [x1, x2])) (hb : H b = some (.lst [y1, y2])) (h1 : Alk H n x1 y1) (h2 : Alk H n x2 y2) : Alk H (n + 1) (.ref a) (.ref b) :=
  .inr ⟨a, b, _, _, rfl, rfl, .inl ⟨ha, hb⟩, rfl, by simp, fun i x y e1 e2 => by
    match i, e1, e2 with
    | 0, e1, e2 =>
      obtain rfl := Option.some.inj e1
      obtain rfl := Option.some.inj e2
      exact h1
    | 1, e1, e2 =>
      obtain rfl := Option.some.inj e1
      obtain rfl := Option.some.inj e2
      exact h2
    | n + 2, e1, _ => cases e1⟩
theorem alk_same {H : Hp} {a b : Addr} {xs : List V} (ha : H a = some (.lst xs)) (hb : H b = some (.lst xs)) (l : xs.length ≤ 100) (sc : ∀ x ∈ xs, Sc x) : Alk H 1 (.ref a) (.ref b) :=
  .inr ⟨a, b, _, _, rfl, rfl, .inl ⟨ha, hb⟩, rfl, l, fun i x y h1 h2 => by
    rw [h1] at h2
    obtain rfl := Option.some.inj h2
    exact ⟨sc _ (List.mem_of_getElem? h1), rfl⟩⟩
theorem rows_dpd {K : PySem.W.Frag} {H : Hp} {a : Addr} {cs : List (Addr × List Int)} (r : Rl H a cs) : Dp K H (.ref a) (.list (rowsD (cs.map (·.2)))) := by
  refine .lst (SqL.of r.top) ?_
  have f : ∀ ds : List (Addr × List Int), (∀ c ∈ ds, H c.1 = some (.lst (c.2.map V.int))) → DpAll K H (ds.map fun c => V.ref c.1) (rowsD (ds.map (·.2))) := fun ds => by
    induction ds with
    | nil => exact fun _ => .nil
    | cons d ds ih => exact fun h => .cons (.lst (SqL.of (h d List.mem_cons_self)) (rows_dp d.2)) (ih fun c hc => h c (List.mem_cons_of_mem _ hc))
  exact f cs r.each
theorem tx_both {is : List Int} (b : Bnd is) (l : is.length ≤ 19) : Tx 20 100000 (.list [rowD is, .list (rowsD (lotR is))]) := by
  have t1 : Tx 1 2220 (rowD is) := tx_list (n := 0) (w := 110) (m := 20) (fun d hd => by
    obtain ⟨x, hx, rfl⟩ := List.mem_map.mp hd
    obtain ⟨j, jl, rfl⟩ := List.getElem_of_mem hx
    have := b j _ (List.getElem?_eq_getElem jl)
    exact tx_int (by omega)) (by rw [List.length_map]; omega)
  have L := lam_fam b (Nat.le_refl is.length)
  have t2 : Tx 2 42199 (.list (rowsD (lotR is))) := tx_list (n := 1) (w := 2220) (m := 19) (fun d hd => by
    obtain ⟨r, hr, rfl⟩ := List.mem_map.mp hd
    have lr := lot_row b hr
    exact tx_list (n := 0) (w := 110) (m := 20) (fun d hd => by
      obtain ⟨x, hx, rfl⟩ := List.mem_map.mp hd
      have := L.rng r (lot_mem.mp hr) x hx
      exact tx_int (by omega)) (by rw [List.length_map]; omega)) (by rw [List.length_map, lot_len]; exact l)
  exact (tx_list (n := 2) (w := 42199) (m := 2) (fun d hd => by
    rcases List.mem_cons.mp hd with e | e
    · rw [e]
      exact t1.le (by decide) (by decide)
    · rw [List.mem_singleton.mp e]
      exact t2) (show [rowD is, PyData.list (rowsD (lotR is))].length ≤ 2 from Nat.le_refl 2)).le (by decide) (by decide)
section
variable {P : Program} {w : World} {K : PySem.W.Frag} {mg : Str → Option Value} {base : Heap}
theorem scLaw : FnScope ["script", "bag", "turn", "row", "lot", "kept", "due", "c", "told"] ["script"] (defScope sLaw) := ⟨rfl, rfl, rfl, by decide +kernel, rfl, by decide +kernel, by decide +kernel⟩
theorem ok_law {f : Addr} {fd : FuncData} (F : Fun K "law" "law" sLaw f fd) (Z : ProgF K mg) (U : TextF K mg) (W : LawG K mg) (T : TxtP mg) (T0 : Txt0 mg) (TA : TxtA mg W.fAlike) (TS : mg "str" = none) (gRepr : mg "repr" = none)
    (kbWr : KBinds K U.dWr ["parting"] ["parting"] selL selL) (kbWC : KBinds K U.dWC ["coming"] ["coming"] selL selL) (kbRd : KBinds K U.dRd ["text"] ["text"] selL selL) (kbRC : KBinds K U.dRC ["text"] ["text"] selL selL) : FnG P w K mg base CX0 30 f fd ["script"] (spLaw K) := by
  have GBag : FnOk P w K mg base CX0 1 W.fBag W.dBag ["script"] (spBag K) := ok_bag W.FBag T0
  have GDraw := W.draw2 (P := P) (w := w) (base := base) T0
  have GRow : FnOk P w K mg base CX0 3 W.fRow W.dRow ["bag", "wide"] spRow := ok_row W T T0
  have GBy : FnOk P w K mg base CX0 1 W.fBy W.dBy ["row"] (spByL K) := ok_by W T T0
  have GText : FnOk P w K mg base CX0 21 W.fText W.dText ["lot", "one"] (spPart K 20) := ok_text W T T0 TS 19
  have GAlike : FnOk P w K mg base CX0 4 W.fAlike W.dAlike ["found", "due"] (spAlk 3) := ok_alk W.FAlike TA W.bAlike 3
  have GWr : FnOk P w K mg base CX0 22 U.fWr U.dWr ["parting"] (spWr K) := ok_wr T TS U
  have GWC : FnOk P w K mg base CX0 2 U.fWC U.dWC ["coming"] (spWC K) := ok_wc T TS U
  have GRC : FnOk P w K mg base CX0 1 U.fRC U.dRC ["text"] spRC := ok_rc Z T TS U
  have GRd : TokF.FnT P w K mg base CX0 23 U.fRd U.dRd ["text"] (spRd K) := ok_rd Z T TS U
  refine okG F scLaw (fun vs H Q E h => ?_) (fun cdv A outer s H vs Q E hr noG h => ?_)
  · obtain ⟨a, ns, rfl, _⟩ := h
    rfl
  · obtain ⟨sa, ns, rfl, hS, hl, kq⟩ := h
    refine ⟨_, (pss_cons (ps_set (i := 1) scLaw.nd rfl (.inl rfl) (pe_call GBag (hr.mono (by decide)) rfl W.gBag W.FBag.kp W.bBag .nil pass0 (pa_cons (pv 0) pa_nil)))
      (pss_cons (ps_for PassesOwn.never rfl (pi_range1 (by rfl) T.range (pa_cons pe_int pa_nil)) (pg_name (i := 2) scLaw.nd rfl (.inl rfl))
      (pss_cons (ps_set (i := 3) scLaw.nd rfl (.inl rfl) (pe_call GRow (hr.mono (by decide)) rfl W.gRow W.FRow.kp W.bRow .nil pass0 (pa_cons (pv 1) (pa_cons (pe_ix (r := rIxL K) ix_list (pe_lst (pa_cons (pe_op op_add pe_int (pe_call GDraw (hr.mono (by decide)) rfl W.gDraw W.FDraw.kp W.bDraw .nil pass0 (pa_cons (pv 1) (pa_cons pe_int pa_nil)))) (pa_cons pe_int pa_nil))) (pe_callTy call_int1 (by rfl) T.int (by decide +kernel) (pa_cons (pe_cmpR op_gt (pv 2) pe_int (nomark _)) pa_nil)) (fun _ _ => rfl)) pa_nil))))
      (pss_cons (ps_set (i := 4) scLaw.nd rfl (.inl rfl) (pe_call GBy (hr.mono (by decide)) rfl W.gBy W.FBy.kp W.bBy .nil pass0 (pa_cons (pv 3) pa_nil)))
      (pss_cons (ps_set (i := 5) scLaw.nd rfl (.inl rfl) (pe_callB (id := "repr") (r := rReprD K) (by exact cr_reprD noG hr.units) (by rfl) gRepr (by decide +kernel) (pa_cons (pe_lst (pa_cons (pv 3) (pa_cons (pv 4) pa_nil))) pa_nil)))
      (TokF.pss_k (TokF.psk_set (i := 6) (TokF.pek_lst (TokF.pak_cons (pe_call GText (hr.mono (by decide)) rfl W.gText W.FText.kp W.bText .nil pass0 (pa_cons (pv 4) (pa_cons (pe_listRg rfl (by rfl) T.list (prg_1 (by rfl) T.range (pe_op op_add (pe_callB call_len_seq (by rfl) T.len (by decide +kernel) (pa_cons (pv 3) pa_nil)) pe_int))) pa_nil))) (TokF.pak_one (TokF.pek_if (pt_cmpR (op_neD hr.units) (pv 3) (pe_lst pa_nil) (nomark _)) (TokF.pek_join TokF.pek_str (pe_lc (own := [("c", 7)]) (g := gName 7) (tt := tYes) rfl scLaw.nd (pi_list (pv 3)) (blkOk_by (own := [("c", 7)]) (N := ["script", "bag", "turn", "row", "lot", "kept", "due", "c", "told"]) (sc := defScope sLaw) (by decide +kernel)) (fun _ _ _ _ _ => pg_name (i := 7) scLaw.nd rfl (Or.inl rfl)) (fun _ _ _ _ _ => pts_nil) (fun _ _ _ _ _ => (pe_callTy call_str_int (by rfl) TS (by decide +kernel) (pa_cons (pv 7) pa_nil))))) TokF.pek_str)))) scLaw.nd rfl (.inl rfl))
      (psst_cons (PST.of (ps_if (PW.pt (pw_or (pt_not (pt_val (pe_call GAlike (hr.mono (by decide)) rfl W.gAlike W.FAlike.kp W.bAlike .nil pass0 (pa_cons (pe_lst (pa_cons (LcM.pe_callKw GWr (hr.mono (by decide)) rfl U.gWr U.FWr.kp kbWr pass0 (pk_cons (pv 4) pk_nil)) (pa_cons (LcM.pe_callKw GWC (hr.mono (by decide)) rfl U.gWC U.FWC.kp kbWC pass0 (pk_cons (pv 3) pk_nil)) pa_nil))) (pa_cons (pv 6) pa_nil))))) (pw_or1 (pt_cmpR op_ne (pe_callB (id := "repr") (r := rReprD K) (by exact cr_reprD noG hr.units) (by rfl) gRepr (by decide +kernel) (pa_cons (pe_lst (pa_cons (pv 3) (pa_cons (pv 4) pa_nil))) pa_nil)) (pv 5) (nomark _))))) (pss_one (ps_ret pe_bl)) pss_nil))
      (psst_cons (TokF.pst_set (i := 8) (pet_lst (pat_cons (TokF.pet_callKwT GRd (hr.mono (by decide)) rfl U.gRd U.FRd.kp kbRd pass0 (pk_cons (pe_ix (r := rIxL K) ix_list (pv 6) pe_int (fun _ _ => rfl)) pk_nil)) (pat_cons (CwR.PET.of (LcM.pe_callKw GRC (hr.mono (by decide)) rfl U.gRC U.FRC.kp kbRC pass0 (pk_cons (pe_ix (r := rIxL K) ix_list (pv 6) pe_int (fun _ _ => rfl)) pk_nil))) pat_nil))) scLaw.nd rfl (.inl rfl))
      (psst_cons (PST.of (ps_if (pt_not (pt_val (pe_call GAlike (hr.mono (by decide)) rfl W.gAlike W.FAlike.kp W.bAlike .nil pass0 (pa_cons (pv 8) (pa_cons (pe_lst (pa_cons (pv 4) (pa_cons (pv 3) pa_nil))) pa_nil))))) (pss_one (ps_ret pe_bl)) pss_nil))
      (psst_cons (PST.of (ps_expr (pe_bm PySem.F.plainAttrs_list PySem.F.slot_list_append PySem.F.type_list_append mt_append (pe_ix (r := rIxL K) ix_list (pv 8) pe_int (fun _ _ => rfl)) (pa_cons (pe_lst pa_nil) pa_nil))))
      (psst_cons (PST.of (ps_expr (pe_bm PySem.F.plainAttrs_list PySem.F.slot_list_append PySem.F.type_list_append mt_append (pe_ix (r := rIxL K) ix_list (pe_ix (r := rIxL K) ix_list (pv 8) pe_int (fun _ _ => rfl)) pe_int (fun _ _ => rfl)) (pa_cons pe_int pa_nil))))
      (psst_cons (PST.of (ps_expr (pe_bm PySem.F.plainAttrs_list PySem.F.slot_list_append PySem.F.type_list_append mt_append (pe_ix (r := rIxL K) ix_list (pv 8) pe_int (fun _ _ => rfl)) (pa_cons pe_non pa_nil))))
      (CwR.psst_one (TokF.pst_ifT (TokF.ptt_not (TokF.ptt_val (TokF.pet_call GAlike (hr.mono (by decide)) rfl W.gAlike W.FAlike.kp W.bAlike .nil pass0 (pat_cons (pet_lst (pat_cons (TokF.pet_callT GRd (hr.mono (by decide)) rfl U.gRd U.FRd.kp U.bRd .nil pass0 (pa_cons (pe_ix (r := rIxL K) ix_list (pv 6) pe_int (fun _ _ => rfl)) pa_nil)) (pat_cons (CwR.PET.of (pe_call GRC (hr.mono (by decide)) rfl U.gRC U.FRC.kp U.bRC .nil pass0 (pa_cons (pe_ix (r := rIxL K) ix_list (pv 6) pe_int (fun _ _ => rfl)) pa_nil))) pat_nil))) (pat_cons (CwR.PET.of (pe_lst (pa_cons (pv 4) (pa_cons (pv 3) pa_nil)))) pat_nil))))) (pss_one (ps_ret pe_bl)) pss_nil)))))))))))))
      (pss_cons (ps_set (i := 8) scLaw.nd rfl (.inl rfl) (pe_lst (pa_cons (pe_call GWr (hr.mono (by decide)) rfl U.gWr U.FWr.kp U.bWr .nil pass0 (pa_cons (pe_lst (pa_cons (pe_lst (pa_cons pe_int (pa_cons pe_int (pa_cons pe_int pa_nil)))) (pa_cons (pe_lst (pa_cons pe_int (pa_cons pe_int pa_nil))) pa_nil))) pa_nil)) (pa_cons (pe_call GWC (hr.mono (by decide)) rfl U.gWC U.FWC.kp U.bWC .nil pass0 (pa_cons (pe_lst (pa_cons pe_int (pa_cons (pe_un un_neg pe_int) (pa_cons pe_int pa_nil)))) pa_nil)) (pa_cons (pe_call GWr (hr.mono (by decide)) rfl U.gWr U.FWr.kp U.bWr .nil pass0 (pa_cons (pe_lst pa_nil) pa_nil)) (pa_cons (pe_call GWC (hr.mono (by decide)) rfl U.gWC U.FWC.kp U.bWC .nil pass0 (pa_cons (pe_lst pa_nil) pa_nil)) pa_nil))))))
      (pss_cons (ps_set (i := 8) scLaw.nd rfl (.inl rfl) (pe_op op_cat (pv 8) (pe_lst (pa_cons (TokF.pe_callT GRd (hr.mono (by decide)) rfl U.gRd U.FRd.kp U.bRd .nil pass0 (TokF.pak_one TokF.pek_str)) (pa_cons (TokF.pe_callT GRd (hr.mono (by decide)) rfl U.gRd U.FRd.kp U.bRd .nil pass0 (TokF.pak_one TokF.pek_str)) (pa_cons (pe_call GRC (hr.mono (by decide)) rfl U.gRC U.FRC.kp U.bRC .nil pass0 (pa_cons pe_str pa_nil)) (pa_cons (pe_call GRC (hr.mono (by decide)) rfl U.gRC U.FRC.kp U.bRC .nil pass0 (pa_cons pe_str pa_nil)) pa_nil)))))))
      (pss_cons (ps_set (i := 8) scLaw.nd rfl (.inl rfl) (pe_op op_cat (pv 8) (pe_lst (pa_cons (pe_call GRC (hr.mono (by decide)) rfl U.gRC U.FRC.kp U.bRC .nil pass0 (pa_cons pe_str pa_nil)) pa_nil))))
      (pss_cons (ps_set (i := 6) scLaw.nd rfl (.inl rfl) (pe_lst (pa_cons pe_str (pa_cons pe_str (pa_cons pe_str (pa_cons pe_str (pa_cons (pe_lst (pa_cons (pe_lst (pa_cons pe_int (pa_cons pe_int pa_nil))) (pa_cons (pe_lst (pa_cons pe_int (pa_cons pe_int (pa_cons pe_int (pa_cons pe_int pa_nil))))) (pa_cons (pe_lst (pa_cons pe_int (pa_cons pe_int pa_nil))) pa_nil)))) (pa_cons (pe_lst pa_nil) (pa_cons (pe_lst pa_nil) (pa_cons (pe_lst (pa_cons pe_int pa_nil)) (pa_cons (pe_lst (pa_cons pe_int (pa_cons (pe_un un_neg pe_int) pa_nil))) pa_nil)))))))))))
      (pss_one (ps_ret (pe_call GAlike (hr.mono (by decide)) rfl W.gAlike W.FAlike.kp W.bAlike .nil pass0 (pa_cons (pv 8) (pa_cons (pv 6) pa_nil))))))))))), ?_⟩
    refine ⟨_, rfl, sa, ns, rfl, hS, hl, fun H1 p _ _ hBag => ?_⟩
    obtain ⟨c, hB⟩ := hBag.b
    refine ⟨_, rfl, by decide, by decide, for_range (n := 8) (fun i σ G => ∃ o2 o3 o4 o5 o6 o8 : Option V, σ = [some (.ref sa), some (.ref p), o2, o3, o4, o5, o6, none, o8] ∧ BagB G p c) ⟨none, none, none, none, none, none, rfl, hB⟩ (fun i σ G il ⟨o2, o3, o4, o5, o6, o8, e, hB⟩ => ?_) fun σ G ⟨o2, o3, o4, o5, o6, o8, e, hB⟩ => ?_⟩
    · subst e
      refine ⟨_, rfl, _, rfl, p, c, _, rfl, hB, by decide, by decide, fun v H2 v0 v1 hB2 bu2 => ⟨_, _, rfl, rfl, (by show 2 ≤ sizeLine; decide), fun z1 hz1 => ?_⟩⟩
      have hB3 := hB2.keepG (Grows.new (o := .lst [V.int (1 + v), V.int 20]) hz1)
      have ez1 := upd_same (H := H2) (a := z1) (o := .lst [V.int (1 + v), V.int 20])
      generalize upd H2 z1 (.lst [V.int (1 + v), V.int 20]) = H3 at hB3 ez1
      obtain ⟨n, n1, n20, en⟩ : ∃ n : Int, 1 ≤ n ∧ n ≤ 20 ∧ atI [V.int (1 + v), V.int 20] (if decide ((6 : Int) < 0 + (i : Nat)) = true then 1 else 0) = some (V.int n) := by
        split
        · exact ⟨20, by decide, by decide, rfl⟩
        · exact ⟨1 + v, by omega, by omega, rfl⟩
      refine ⟨_, rfl, _, _, rfl, rfl, .inr ⟨_, rfl, z1, _, _, _, rfl, rfl, SqL.of ez1, en, p, c, n, rfl, hB3, n1, n20, fun q is H4 il' b hB4 gr eq hq0 => ?_⟩⟩
      clear hB2 bu2 hz1 hB3 ez1 gr hq0 en
      refine ⟨_, rfl, q, is, rfl, SqL.of eq, b, by omega, fun lt cs H5 ec g5 rl => ?_⟩
      have hB5 := hB4.keepG g5
      have eq := g5 _ _ eq
      have l19 : is.length ≤ 19 := by omega
      have cl : cs.length = is.length := by rw [← lot_len is, ← ec, List.length_map]
      have itm : ∀ x ∈ is, -99 ≤ x ∧ x ≤ 99 := fun x hx => by
        obtain ⟨j, jl, rfl⟩ := List.getElem_of_mem hx
        have := b j _ (List.getElem?_eq_getElem jl)
        omega
      have tx := tx_both b l19
      rw [← ec] at tx
      -- kept
      refine ⟨_, rfl, _, rfl, (by show 2 ≤ sizeLine; decide), fun z2 hz2 => ?_⟩
      have w2 := Grows.new (o := .lst [V.ref q, V.ref lt]) hz2
      refine ⟨_, .list [rowD is, .list (rowsD (cs.map (·.2)))], rfl, .inl (.lst (SqL.of upd_same) (.cons (.lst (SqL.of (w2 _ _ eq)) (rows_dp is)) (.cons (rows_dpd (rl.keep w2)) .nil))), tx, ?_⟩
      have hB6 := hB5.keepG w2
      have eq := w2 _ _ eq
      have rl := rl.keep w2
      generalize upd H5 z2 (.lst [V.ref q, V.ref lt]) = H6 at hB6 eq rl
      clear hB4 g5 hB5 hz2 w2
      -- due
      have tt : TrOk (lotR is) (upto (is.length + 1)) (treeL is) := tree_ok b l19
      have R := lot_par b
      have few : cs.length ≤ 19 := by omega
      refine ⟨_, rfl, _, rfl, q, _, rfl, .inl (SqL.of eq), _, _, rfl, rfl, _, rfl, RgOk.of_le (by decide) (by rw [List.length_map]; omega) (by decide) (by omega), fun u hu => ?_⟩
      rw [List.length_map]
      have wu := Grows.new (o := .lst (rgV 0 ((is.length : Int) + 1))) hu
      have eu : upd H6 u (.lst (rgV 0 ((is.length : Int) + 1))) u = some (.lst ((upto (is.length + 1)).map V.int)) := by
        rw [upd_same, show (is.length : Int) + 1 = ((is.length + 1 : Nat) : Int) by omega, rg_upto]
      refine ⟨lt, u, cs, upto (is.length + 1), rfl, (rl.keep wu).rw, by rw [ec]; exact R, few, SqL.of eu, by rw [ec]; exact lot_all b, by rw [upto_ln]; omega, by decide, fun H7 g7 => ?_⟩
      rw [show (trG (cs.map (·.2)) 20 (upto (is.length + 1))) = treeL is by rw [ec]; rfl]
      have w7 := wu.trans g7
      have hB7 := hB6.keepG w7
      have eq := w7 _ _ eq
      have rl := rl.keep w7
      clear hB6 wu eu g7 w7 hu
      refine ⟨_, rfl, (by show 0 ≤ sizeLine; decide), fun z4 hz4 => ?_⟩
      have w4 := Grows.new (o := .lst []) hz4
      refine ⟨.list (is.map .int), .list [], .lst (SqL.of (w4 _ _ eq)) (rows_dp is), .lst (SqL.of upd_same) .nil, shaped_ints is, shaped_ints [], _, rfl, ?_⟩
      rw [show PyData.eqv (.list (is.map .int)) (.list []) = decide (is = []) from eqv_ints is []]
      have hB8 := hB7.keepG w4
      have eq := w4 _ _ eq
      have rl := rl.keep w4
      generalize upd H7 z4 (.lst []) = H8 at hB8 eq rl
      clear hB7 w4 hz4
      refine if_goal (R := fun v G4 => v = .str (comS is) ∧ Grows H8 G4) (fun v G4 ⟨ev, g4⟩ => ?_) fun Q' hq => ?_
      · subst ev
        have hB9 := hB8.keepG g4
        have eq := g4 _ _ eq
        have rl := rl.keep g4
        refine ⟨(by show 2 ≤ sizeLine; decide), fun z5 hz5 => ?_⟩
        have w5 := Grows.new (o := .lst [V.str (treeL is).txt, V.str (comS is)]) hz5
        have ed := upd_same (H := G4) (a := z5) (o := .lst [V.str (treeL is).txt, V.str (comS is)])
        have hB10 := hB9.keepG w5
        have eq := w5 _ _ eq
        have rl := rl.keep w5
        generalize upd G4 z5 (.lst [V.str (treeL is).txt, V.str (comS is)]) = H10 at ed hB10 eq rl
        clear hB8 hB9 g4 w5 hz5
        have ew : trG (cs.map (·.2)) 20 (upto (cs.length + 1)) = treeL is := by rw [ec, cl]; rfl
        -- the texts are alike
        refine ⟨_, rfl, lt, cs, rfl, rl.rw, by rw [ec]; exact R, few, by rw [ec, cl]; exact lot_all b, fun H11 g11 => ?_⟩
        rw [ew]
        refine ⟨_, rfl, q, is, rfl, SqL.of (g11 _ _ eq), by omega, itm, fun H12 g12 => ⟨(by show 2 ≤ sizeLine; decide), fun z6 hz6 => ?_⟩⟩
        have w6 := Grows.new (o := .lst [V.str (treeL is).txt, V.str (comS is)]) hz6
        have g13 := (g11.trans g12).trans w6
        refine ⟨_, rfl, _, _, rfl, ((alk_same (upd_same (H := H12) (a := z6) (o := .lst [V.str (treeL is).txt, V.str (comS is)])) (g13 _ _ ed) (by simp) fun x hx => ?_).up).up, fun H14 g14 => ⟨_, rfl, iteF ?_⟩⟩
        · rcases List.mem_cons.mp hx with e | e
          · exact .inr (.inr ⟨_, e⟩)
          · exact .inr (.inr ⟨_, List.mem_singleton.mp e⟩)
        have g15 := g13.trans g14
        have hB15 := hB10.keepG g15
        have eq := g15 _ _ eq
        have rl := rl.keep g15
        have ed := g15 _ _ ed
        clear hB10 g11 g12 w6 g13 g14 g15 hz6
        refine ⟨_, rfl, _, rfl, (by show 2 ≤ sizeLine; decide), fun z7 hz7 => ?_⟩
        have w7 := Grows.new (o := .lst [V.ref q, V.ref lt]) hz7
        refine ⟨_, .list [rowD is, .list (rowsD (cs.map (·.2)))], rfl, .inl (.lst (SqL.of upd_same) (.cons (.lst (SqL.of (w7 _ _ eq)) (rows_dp is)) (.cons (rows_dpd (rl.keep w7)) .nil))), tx, _, rfl, rfl, _, rfl, ?_⟩
        rw [decide_eq_true rfl]
        refine iteF ?_
        have hB16 := hB15.keepG w7
        have eq := w7 _ _ eq
        have rl := rl.keep w7
        have ed := w7 _ _ ed
        generalize upd H14 z7 (.lst [V.ref q, V.ref lt]) = Hb at hB16 eq rl ed
        clear hB15 w7 hz7
        -- they are read
        refine ⟨_, rfl, z5, _, _, _, rfl, rfl, SqL.of ed, atI_nat (j := 0) rfl, is, rfl, b, l19, fun rq rcs H15 rec' g15 nrq trq rows => ?_⟩
        refine ⟨_, rfl, z5, _, _, _, rfl, rfl, SqL.of (g15 _ _ ed), atI_nat (j := 1) rfl, is, rfl, b, l19, fun D H16 g16 nD eD => ⟨(by show 2 ≤ sizeLine; decide), fun z8 hz8 => ?_⟩⟩
        have w8 := Grows.new (o := .lst [V.ref rq, V.ref D]) hz8
        have gb := g15.trans (g16.trans w8)
        have nDb : Hb D = none := none_back g15 nD
        have nz8 : Hb z8 = none := none_back (g15.trans g16) hz8
        have e8 := upd_same (H := H16) (a := z8) (o := .lst [V.ref rq, V.ref D])
        have n1 : z8 ≠ rq := fun e => by rw [e, g16 _ _ trq] at hz8; cases hz8
        have n2 : z8 ≠ D := fun e => by rw [e, eD] at hz8; cases hz8
        have n3 : ∀ c ∈ rcs, z8 ≠ c.1 := fun c hc e => by rw [e, g16 _ _ (rows c hc).1] at hz8; cases hz8
        have n4 : D ≠ rq := fun e => by rw [e, trq] at nD; cases nD
        have trq := (g16.trans w8) _ _ trq
        have rows : ∀ c ∈ rcs, (upd H16 z8 (.lst [V.ref rq, V.ref D])) c.1 = some (.lst (c.2.map V.int)) ∧ Hb c.1 = none ∧ c.1 ≠ rq := fun c hc => ⟨(g16.trans w8) _ _ (rows c hc).1, (rows c hc).2⟩
        have eD := w8 _ _ eD
        generalize upd H16 z8 (.lst [V.ref rq, V.ref D]) = H17 at gb e8 trq rows eD
        clear g15 g16 w8 hz8 nD
        have rcl : rcs.length = is.length := by rw [← lot_len is, ← rec', List.length_map]
        refine ⟨_, rfl, _, rfl, _, rfl, (by show 2 ≤ sizeLine; decide), fun z9 hz9 => ?_⟩
        have w9 := Grows.new (o := .lst [V.ref lt, V.ref q]) hz9
        have rsm : ∀ r ∈ rcs.map (·.2), r.length ≤ 100 := by
          rw [rec']
          exact fun r hr => by have := lot_row b hr; omega
        refine ⟨_, _, rfl, alk_two (n := 2) (w9 _ _ e8) upd_same (alk_rows (ds := cs) ⟨w9 _ _ trq, fun c hc => w9 _ _ (rows c hc).1⟩ (rl.keep (gb.trans w9)) (by rw [rec', ec]) (by omega) rsm) (alk_ints (w9 _ _ eD) ((gb.trans w9) _ _ eq) (by omega)).up, fun H18 g18 => ⟨_, rfl, iteF ?_⟩⟩
        have w18 := w9.trans g18
        have gb := gb.trans w18
        have e8 := w18 _ _ e8
        have trq := w18 _ _ trq
        have rows : ∀ c ∈ rcs, H18 c.1 = some (.lst (c.2.map V.int)) ∧ Hb c.1 = none ∧ c.1 ≠ rq := fun c hc => ⟨w18 _ _ (rows c hc).1, (rows c hc).2⟩
        have eD := w18 _ _ eD
        clear w9 g18 w18 hz9
        have big : (1000 : Nat) < sizeLine := by decide
        -- what was read is changed
        refine ⟨_, rfl, z8, _, _, _, rfl, rfl, SqL.of e8, atI_nat (j := 0) rfl, .inl ⟨rfl, _, SqL.of trq⟩, (by show 0 ≤ sizeLine; decide), fun z10 hz10 => ⟨rq, _, _, rfl, rfl, Grows.new hz10 _ _ trq, by rw [List.length_map]; omega, ?_⟩⟩
        have nrz : rq ≠ z10 := fun e => by rw [← e, trq] at hz10; cases hz10
        have nbz : Hb z10 = none := none_back gb hz10
        have n5 : z8 ≠ z10 := fun e => by rw [← e, e8] at hz10; cases hz10
        have gb2 : Grows Hb (upd (upd H18 z10 (.lst [])) rq (.lst ((rcs.map fun c => V.ref c.1) ++ [V.ref z10]))) := fun b o e => by
          rw [upd_ne (ne_of_none e nrq), upd_ne (ne_of_none e nbz)]
          exact gb _ _ e
        have e8' : (upd (upd H18 z10 (.lst [])) rq (.lst ((rcs.map fun c => V.ref c.1) ++ [V.ref z10]))) z8 = some (.lst [V.ref rq, V.ref D]) := by
          rw [upd_ne n1, upd_ne n5]
          exact e8
        have eD' : (upd (upd H18 z10 (.lst [])) rq (.lst ((rcs.map fun c => V.ref c.1) ++ [V.ref z10]))) D = some (.lst (is.map V.int)) := by
          rw [upd_ne n4, upd_ne fun e => by rw [← e, eD] at hz10; cases hz10]
          exact eD
        obtain ⟨y0, ys, a0, ey, yl, nb0, ny8⟩ : ∃ (y0 : Addr) (ys : List V), atI ((rcs.map fun c => V.ref c.1) ++ [V.ref z10]) 0 = some (.ref y0) ∧ (upd (upd H18 z10 (.lst [])) rq (.lst ((rcs.map fun c => V.ref c.1) ++ [V.ref z10]))) y0 = some (.lst ys) ∧ ys.length ≤ 100 ∧ Hb y0 = none ∧ z8 ≠ y0 := by
          cases hr : rcs with
          | nil => exact ⟨z10, [], atI_nat (j := 0) rfl, by rw [upd_ne nrz.symm, upd_same], by simp, nbz, n5⟩
          | cons c0 rest =>
            have m : c0 ∈ rcs := by rw [hr]; exact List.mem_cons_self
            obtain ⟨h1, h2, h3⟩ := rows c0 m
            refine ⟨c0.1, c0.2.map V.int, atI_nat (j := 0) rfl, ?_, ?_, h2, n3 c0 m⟩
            · rw [upd_ne h3, upd_ne fun e => by rw [← e, h1] at hz10; cases hz10]
              exact h1
            · rw [List.length_map]
              exact rsm _ (List.mem_map.mpr ⟨_, m, rfl⟩)
        have erq := upd_same (H := upd H18 z10 (.lst [])) (a := rq) (o := .lst ((rcs.map fun c => V.ref c.1) ++ [V.ref z10]))
        generalize upd (upd H18 z10 (.lst [])) rq (.lst ((rcs.map fun c => V.ref c.1) ++ [V.ref z10])) = H19 at gb2 e8' eD' ey erq
        clear e8 trq rows eD hz10 gb
        refine ⟨_, rfl, z8, _, _, _, rfl, rfl, SqL.of e8', atI_nat (j := 0) rfl, rq, _, _, _, rfl, rfl, SqL.of erq, a0, .inl ⟨rfl, _, SqL.of ey⟩, y0, _, _, rfl, rfl, ey, by omega, ?_⟩
        have gb3 : Grows Hb (upd H19 y0 (.lst (ys ++ [V.int 0]))) := fun b o e => by
          rw [upd_ne (ne_of_none e nb0)]
          exact gb2 _ _ e
        have e8'' : (upd H19 y0 (.lst (ys ++ [V.int 0]))) z8 = some (.lst [V.ref rq, V.ref D]) := by
          rw [upd_ne ny8]
          exact e8'
        obtain ⟨xs, ex, xl⟩ : ∃ xs : List V, (upd H19 y0 (.lst (ys ++ [V.int 0]))) D = some (.lst xs) ∧ xs.length ≤ 200 := by
          by_cases e : D = y0
          · rw [e]
            exact ⟨_, upd_same, by rw [List.length_append, List.length_singleton]; omega⟩
          · exact ⟨_, by rw [upd_ne e]; exact eD', by rw [List.length_map]; omega⟩
        generalize upd H19 y0 (.lst (ys ++ [V.int 0])) = H20 at gb3 e8'' ex
        clear gb2 e8' eD' ey erq
        refine ⟨_, rfl, z8, _, _, _, rfl, rfl, SqL.of e8'', atI_nat (j := 1) rfl, .inl ⟨rfl, _, SqL.of ex⟩, D, _, _, rfl, rfl, ex, by omega, ?_⟩
        have gb4 : Grows Hb (upd H20 D (.lst (xs ++ [V.non]))) := fun b o e => by
          rw [upd_ne (ne_of_none e nDb)]
          exact gb3 _ _ e
        generalize upd H20 D (.lst (xs ++ [V.non])) = H21 at gb4
        clear gb3 e8'' ex
        have hB21 := hB16.keepG gb4
        have eq := gb4 _ _ eq
        have rl := rl.keep gb4
        have ed := gb4 _ _ ed
        clear hB16 gb4
        -- and read again
        refine ⟨_, rfl, z5, _, _, _, rfl, rfl, SqL.of ed, atI_nat (j := 0) rfl, is, rfl, b, l19, fun rq2 rcs2 H22 rec2 g22 _ trq2 rows2 => ?_⟩
        refine ⟨_, rfl, z5, _, _, _, rfl, rfl, SqL.of (g22 _ _ ed), atI_nat (j := 1) rfl, is, rfl, b, l19, fun D2 H23 g23 _ eD2 => ⟨(by show 2 ≤ sizeLine; decide), fun z11 hz11 => ?_⟩⟩
        have w11 := Grows.new (o := .lst [V.ref rq2, V.ref D2]) hz11
        have e11 := upd_same (H := H23) (a := z11) (o := .lst [V.ref rq2, V.ref D2])
        have rl2 : Rl (upd H23 z11 (.lst [V.ref rq2, V.ref D2])) rq2 rcs2 := ⟨(g23.trans w11) _ _ trq2, fun c hc => (g23.trans w11) _ _ (rows2 c hc).1⟩
        have eD2 := w11 _ _ eD2
        have g24 := g22.trans (g23.trans w11)
        have hB24 := hB21.keepG g24
        have eq := g24 _ _ eq
        have rl := rl.keep g24
        generalize upd H23 z11 (.lst [V.ref rq2, V.ref D2]) = H24 at e11 rl2 eD2 hB24 eq rl
        have rcl2 : rcs2.length = is.length := by rw [← lot_len is, ← rec2, List.length_map]
        have rsm2 : ∀ r ∈ rcs2.map (·.2), r.length ≤ 100 := by
          rw [rec2]
          exact fun r hr => by have := lot_row b hr; omega
        refine ⟨_, rfl, _, rfl, (by show 2 ≤ sizeLine; decide), fun z12 hz12 => ?_⟩
        have w12 := Grows.new (o := .lst [V.ref lt, V.ref q]) hz12
        refine ⟨_, _, rfl, alk_two (n := 2) (w12 _ _ e11) upd_same (alk_rows (ds := cs) (rl2.keep w12) (rl.keep w12) (by rw [rec2, ec]) (by omega) rsm2) (alk_ints (w12 _ _ eD2) (w12 _ _ eq) (by omega)).up, fun H25 g25 => ⟨_, rfl, iteF ?_⟩⟩
        exact ⟨_, _, _, _, _, _, rfl, hB24.keepG (w12.trans g25)⟩
      · unfold comS at hq
        by_cases em : is = []
        · rw [decide_eq_true em]
          rw [if_pos em] at hq
          exact iteF (hq _ _ ⟨rfl, .refl⟩)
        · rw [decide_eq_false em]
          rw [if_neg em] at hq
          refine iteT ⟨⟨_, rfl⟩, _, rfl, q, rfl, ⟨_, SqL.of eq⟩, fun D hD => lc_listM (K := K) (fun i => V.str (numS (is.getD i 0))) hD (SqL.of eq) (by rw [List.length_map]; omega) (fun i x H' R hx sm kR => ?_) fun H1 g1 e1 => ?_⟩
          · have il := (List.getElem?_eq_some_iff.mp hx).1
            rw [List.length_map] at il
            obtain rfl := at_map (d := 0) hx
            have m : is.getD i 0 ∈ is := by
              rw [List.getD_eq_getElem?_getD, List.getElem?_eq_getElem il]
              exact List.getElem_mem il
            have := itm _ m
            exact ⟨rfl, _, rfl, _, rfl, PySem.Flt.log2_lt_of (by decide) (Nat.lt_of_lt_of_le (show (is.getD i 0).natAbs < 1024 by omega) (by decide)), kR _ .refl⟩
          · have e1 : H1 D = some (.lst ((is.map numS).map V.str)) := by
              rw [e1, List.length_map, List.map_map]
              congr 2
              exact rngM is 0 fun x => V.str (numS x)
            refine ⟨_, D, is.map numS, rfl, rfl, .inl (SqL.of e1), ?_, hq _ _ ⟨rfl, g1⟩⟩
            have := sum_len itm
            rw [List.length_map, show (Str.ofString " ").length = 1 by decide]
            omega
    · subst e
      clear hB hS
      have pa : Par [[0, 1, 2], [0, 2]] := by rw [← lot_a]; exact lot_par bnd_a
      have ha : Half [[0, 1, 2], [0, 2]] (upto 3) := by
        have := lot_all bnd_a
        rw [lot_a] at this
        exact this
      have ta : trG [[0, 1, 2], [0, 2]] 20 (upto 3) = treeL [0, 0] := by unfold treeL; rw [lot_a]; rfl
      have p0 : Par [] := by rw [← lot_0]; exact lot_par bnd_0
      have h0 : Half [] (upto 1) := by
        have := lot_all bnd_0
        rw [lot_0] at this
        exact this
      have t0 : trG [] 20 (upto 1) = treeL [] := by unfold treeL; rw [lot_0]; rfl
      refine ⟨(by show 3 ≤ sizeLine; decide), fun r1 hr1 => ⟨(by show 2 ≤ sizeLine; decide), fun r2 hr2 => ⟨(by show 2 ≤ sizeLine; decide), fun l1 hl1 => ?_⟩⟩⟩
      have v1 := Grows.new (o := .lst [V.int 0, V.int 1, V.int 2]) hr1
      have v2 := Grows.new (o := .lst [V.int 0, V.int 2]) hr2
      have v3 := Grows.new (o := .lst [V.ref r1, V.ref r2]) hl1
      refine ⟨l1, [(r1, [0, 1, 2]), (r2, [0, 2])], rfl, ⟨SqL.of upd_same, fun b hb => ?_⟩, pa, (show 2 ≤ 19 by decide), ha, fun G1 g1 => ?_⟩
      · rcases List.mem_cons.mp hb with e | e
        · rw [e]
          exact SqL.of ((v2.trans v3) _ _ upd_same)
        · rw [List.mem_singleton.mp e]
          exact SqL.of (v3 _ _ upd_same)
      rw [show trG ([(r1, [0, 1, 2]), (r2, [0, 2])].map (·.2)) 20 (upto ([(r1, [0, 1, 2]), (r2, ([0, 2] : List Int))].length + 1)) = treeL [0, 0] from ta, txt_a]
      refine ⟨_, rfl, (by show 3 ≤ sizeLine; decide), fun l2 hl2 => ⟨l2, [0, -1, 2], rfl, SqL.of upd_same, by decide, by decide, fun G2 g2 => ?_⟩⟩
      rw [com_a]
      refine ⟨(by show 0 ≤ sizeLine; decide), fun l3 hl3 => ⟨l3, [], rfl, ⟨SqL.of upd_same, fun _ h => nomatch h⟩, p0, by decide, h0, fun G3 g3 => ?_⟩⟩
      rw [show trG (([] : List (Addr × List Int)).map (·.2)) 20 (upto (([] : List (Addr × List Int)).length + 1)) = treeL [] from t0, txt_0]
      refine ⟨(by show 0 ≤ sizeLine; decide), fun l4 hl4 => ⟨l4, [], rfl, SqL.of upd_same, by decide, by decide, fun G4 g4 => ?_⟩⟩
      rw [com_0]
      refine ⟨(by show 4 ≤ sizeLine; decide), fun t1 ht1 => ?_⟩
      have e1 := upd_same (H := G4) (a := t1) (o := .lst [V.str (Str.ofString "((0 2) 1)"), V.str (Str.ofString "0 -1 2"), V.str (Str.ofString "0"), V.str (Str.ofString "-")])
      generalize upd G4 t1 (.lst [V.str (Str.ofString "((0 2) 1)"), V.str (Str.ofString "0 -1 2"), V.str (Str.ofString "0"), V.str (Str.ofString "-")]) = G5 at e1
      clear v1 v2 v3 g1 g2 g3 g4 hl1 hl2 hl3 hl4 hr1 hr2 ht1
      refine ⟨_, rfl, [0, -1, 2], (by rw [txt_b]; rfl), bnd_b, by decide, fun qa ca H6 eca ga _ tqa ra => ⟨[], (by rw [txt_0]; rfl), bnd_0, by decide, fun qb cb H7 ecb gb _ tqb rb => ⟨[], (by rw [com_0]; rfl), bnd_0, by decide, fun dc H8 gc _ edc => ⟨[0], (by rw [com_b]; rfl), bnd_1, by decide, fun dd H9 gd _ edd => ⟨(by show 4 ≤ sizeLine; decide), fun t2 ht2 => ?_⟩⟩⟩⟩⟩
      have v2 := Grows.new (o := .lst [V.ref qa, V.ref qb, V.ref dc, V.ref dd]) ht2
      refine ⟨t1, t2, _, _, rfl, rfl, (((ga.trans gb).trans gc).trans (gd.trans v2)) _ _ e1, upd_same, (by show 4 + 4 ≤ sizeLine; decide), fun t3 ht3 => ?_⟩
      have v3 := Grows.new (o := .lst ([V.str (Str.ofString "((0 2) 1)"), V.str (Str.ofString "0 -1 2"), V.str (Str.ofString "0"), V.str (Str.ofString "-")] ++ [V.ref qa, V.ref qb, V.ref dc, V.ref dd])) ht3
      refine ⟨_, rfl, [0, -1], (by rw [com_c]; rfl), bnd_2, by decide, fun de H10 ge _ ede => ⟨(by show 1 ≤ sizeLine; decide), fun t4 ht4 => ?_⟩⟩
      have v4 := Grows.new (o := .lst [V.ref de]) ht4
      refine ⟨t3, t4, _, _, rfl, rfl, (ge.trans v4) _ _ upd_same, upd_same, (by show 8 + 1 ≤ sizeLine; decide), fun t5 ht5 => ?_⟩
      have v5 := Grows.new (o := .lst (([V.str (Str.ofString "((0 2) 1)"), V.str (Str.ofString "0 -1 2"), V.str (Str.ofString "0"), V.str (Str.ofString "-")] ++ [V.ref qa, V.ref qb, V.ref dc, V.ref dd]) ++ [V.ref de])) ht5
      have w5 := v3.trans (ge.trans (v4.trans v5))
      have w7 := gb.trans (gc.trans (gd.trans (v2.trans w5)))
      have rA : Rl _ qa ca := ⟨w7 _ _ tqa, fun c hc => w7 _ _ (ra c hc).1⟩
      have rB : Rl _ qb cb := ⟨(gc.trans (gd.trans (v2.trans w5))) _ _ tqb, fun c hc => (gc.trans (gd.trans (v2.trans w5))) _ _ (rb c hc).1⟩
      have eC := (gd.trans (v2.trans w5)) _ _ edc
      have eDd := (v2.trans w5) _ _ edd
      have eE := (v4.trans v5) _ _ ede
      have e5 := upd_same (H := upd H10 t4 (.lst [V.ref de])) (a := t5) (o := .lst (([V.str (Str.ofString "((0 2) 1)"), V.str (Str.ofString "0 -1 2"), V.str (Str.ofString "0"), V.str (Str.ofString "-")] ++ [V.ref qa, V.ref qb, V.ref dc, V.ref dd]) ++ [V.ref de]))
      generalize upd (upd H10 t4 (.lst [V.ref de])) t5 _ = H11 at rA rB eC eDd eE e5
      dsimp only [List.cons_append, List.nil_append] at e5
      refine ⟨(by show 2 ≤ sizeLine; decide), fun x1 h1 => ⟨(by show 4 ≤ sizeLine; decide), fun x2 h2 => ⟨(by show 2 ≤ sizeLine; decide), fun x3 h3 => ⟨(by show 3 ≤ sizeLine; decide), fun x4 h4 => ⟨(by show 0 ≤ sizeLine; decide), fun x5 h5 => ⟨(by show 0 ≤ sizeLine; decide), fun x6 h6 => ⟨(by show 1 ≤ sizeLine; decide), fun x7 h7 => ⟨_, rfl, (by show 2 ≤ sizeLine; decide), fun x8 h8 => ⟨(by show 9 ≤ sizeLine; decide), fun t6 h9 => ?_⟩⟩⟩⟩⟩⟩⟩⟩⟩
      have k1 := Grows.new (o := .lst [V.int 0, V.int 1]) h1
      have k2 := Grows.new (o := .lst [V.int 0, V.int 1, V.int 2, V.int 3]) h2
      have k3 := Grows.new (o := .lst [V.int 2, V.int 3]) h3
      have k4 := Grows.new (o := .lst [V.ref x1, V.ref x2, V.ref x3]) h4
      have k5 := Grows.new (o := .lst []) h5
      have k6 := Grows.new (o := .lst []) h6
      have k7 := Grows.new (o := .lst [V.int 0]) h7
      have k8 := Grows.new (o := .lst [V.int 0, V.int (-1)]) h8
      have k9 := Grows.new (o := .lst [V.str (Str.ofString "((0 2) 1)"), V.str (Str.ofString "0 -1 2"), V.str (Str.ofString "0"), V.str (Str.ofString "-"), V.ref x4, V.ref x5, V.ref x6, V.ref x7, V.ref x8]) h9
      have j8 := k8.trans k9
      have j7 := k7.trans j8
      have j6 := k6.trans j7
      have j5 := k5.trans j6
      have j4 := k4.trans j5
      have j3 := k3.trans j4
      have j2 := k2.trans j3
      have j1 := k1.trans j2
      have rD : Rl _ x4 [(x1, [0, 1]), (x2, [0, 1, 2, 3]), (x3, [2, 3])] := ⟨j5 _ _ upd_same, fun c hc => by
        simp only [List.mem_cons, List.not_mem_nil, or_false] at hc
        rcases hc with e | e | e
        · rw [e]
          exact j2 _ _ upd_same
        · rw [e]
          exact j3 _ _ upd_same
        · rw [e]
          exact j4 _ _ upd_same⟩
      have f5 := j6 x5 _ upd_same
      have f6 := j7 x6 _ upd_same
      have f7 := j8 x7 _ upd_same
      have f8 := k9 x8 _ upd_same
      have ca0 : cb = [] := by
        rw [lot_0] at ecb
        exact List.map_eq_nil_iff.mp ecb
      have rA := rA.keep j1
      have rB := (rB.keep j1).top
      rw [ca0] at rB
      have eC := j1 _ _ eC
      have eDd := j1 _ _ eDd
      have eE := j1 _ _ eE
      have e5 := j1 _ _ e5
      rw [lot_b] at eca
      have cal : ca.length = 3 := by
        have := congrArg List.length eca
        rw [List.length_map] at this
        exact this
      refine ⟨_, rfl, _, rfl, _, _, rfl, .inr ⟨t5, t6, _, _, rfl, rfl, .inl ⟨e5, upd_same⟩, rfl, (by show 9 ≤ 100; decide), fun i x y g1 g2 => ?_⟩, fun H' _ => kq H'⟩
      match i, g1, g2 with
      | 0, g1, g2 => cases g1; cases g2; exact .inl ⟨.inr (.inr ⟨_, rfl⟩), rfl⟩
      | 1, g1, g2 => cases g1; cases g2; exact .inl ⟨.inr (.inr ⟨_, rfl⟩), rfl⟩
      | 2, g1, g2 => cases g1; cases g2; exact .inl ⟨.inr (.inr ⟨_, rfl⟩), rfl⟩
      | 3, g1, g2 => cases g1; cases g2; exact .inl ⟨.inr (.inr ⟨_, rfl⟩), rfl⟩
      | 4, g1, g2 => cases g1; cases g2; exact alk_rows rA rD (by rw [eca]; rfl) (by omega) (by rw [eca]; decide)
      | 5, g1, g2 => cases g1; cases g2; exact (alk_ints (xs := []) rB f5 (by decide)).up
      | 6, g1, g2 => cases g1; cases g2; exact (alk_ints (xs := []) eC f6 (by decide)).up
      | 7, g1, g2 => cases g1; cases g2; exact (alk_ints (xs := [0]) eDd f7 (by decide)).up
      | 8, g1, g2 => cases g1; cases g2; exact (alk_ints (xs := [0, -1]) eE f8 (by decide)).up
      | n + 9, g1, _ => cases g1
end
end K50

namespace K50
open PySem PySem.Spec PyProof.Rows L2 SortR LcM RepA
theorem kb_one {K : PySem.W.Frag} {fd : FuncData} {x : Str} (h2 : ∀ (s : Shared) (a : Value), BindsTo s fd ⟨[], [(x, a)]⟩ [(x, a)]) (h0 : ∀ (s : Shared) (a : Value), BindsTo s fd ⟨[a], []⟩ [(x, a)]) :
    KBinds K fd [x] [x] selL selL := by
  refine ⟨fun s us ws _ h => ?_, fun r r2 => ?_⟩
  · match us, ws, h with
    | [], [_], _ => exact h2 _ _
    | [_], [], _ => exact h0 _ _
    | [], [], e => cases e
    | [], _ :: _ :: _, e => cases e
    | _ :: _ :: _, [], e => cases e
    | _ :: _, _ :: _, e => cases e
  · cases r with
    | nil => exact r2
    | cons a b =>
      cases r2 with
      | nil => exact .cons a b
      | cons c d => exact .nil

theorem all_mk {l : PySem.W.OpenLaw} {w : World} {K : PySem.W.Frag} {h : Heap} {mg : Str → Option Value} {fa fNum fPer fAsc fPL fGr fMask fCross fAny fIs fBoth fPart fWr fGB fRd fNT fWC fRC fwBag fwStir fwDraw fwAlike fwRow fwBy fwText fL : Addr} (X : K.In h) (G : h.Ns mainGlobals mg) (hfa : mg "law" = some (.ref fa))
    {odNum anNum odPer anPer odAsc anAsc odPL anPL odGr anGr odMask anMask odCross anCross odAny anAny odIs anIs odBoth anBoth odPart anPart odWr anWr odGB anGB odRd anRd odNT anNT odWC anWC odRC anRC odwBag anwBag odwStir anwStir odwDraw anwDraw odwAlike anwAlike odwRow anwRow odwBy anwBy odwText anwText odL anL : Option Addr} {slNum slPer slAsc slPL slGr slMask slCross slAny slIs slBoth slPart slWr slGB slRd slNT slWC slRC slwBag slwStir slwDraw slwAlike slwRow slwBy slwText slL : Array (Option Value)} {ocNum kVNum dcNum pmNum cvNum ctNum ocPer kVPer dcPer pmPer cvPer ctPer ocAsc kVAsc dcAsc pmAsc cvAsc ctAsc ocPL kVPL dcPL pmPL cvPL ctPL ocGr kVGr dcGr pmGr cvGr ctGr ocMask kVMask dcMask pmMask cvMask ctMask ocCross kVCross dcCross pmCross cvCross ctCross ocAny kVAny dcAny pmAny cvAny ctAny ocIs kVIs dcIs pmIs cvIs ctIs ocBoth kVBoth dcBoth pmBoth cvBoth ctBoth ocPart kVPart dcPart pmPart cvPart ctPart ocWr kVWr dcWr pmWr cvWr ctWr ocGB kVGB dcGB pmGB cvGB ctGB ocRd kVRd dcRd pmRd cvRd ctRd ocNT kVNT dcNT pmNT cvNT ctNT ocWC kVWC dcWC pmWC cvWC ctWC ocRC kVRC dcRC pmRC cvRC ctRC ocwBag kVwBag dcwBag pmwBag cvwBag ctwBag ocwStir kVwStir dcwStir pmwStir cvwStir ctwStir ocwDraw kVwDraw dcwDraw pmwDraw cvwDraw ctwDraw ocwAlike kVwAlike dcwAlike pmwAlike cvwAlike ctwAlike ocwRow kVwRow dcwRow pmwRow cvwRow ctwRow ocwBy kVwBy dcwBy pmwBy cvwBy ctwBy ocwText kVwText dcwText pmwText cvwText ctwText ocL kVL dcL pmL cvL ctL : Value} {mtok : Tok}
    (aNum : PySem.W.nsIn K mainGlobals "is_number" = some (some (.ref fNum))) (lNum : K.lookup fNum = some ⟨ocNum, odNum, .func (PySem.W.fnOf "is_number" "is_number" (defArgs sNumber) (defBody sNumber) (defScope sNumber) .none kVNum dcNum pmNum anNum cvNum ctNum), slNum⟩) (xNum : PySem.W.codeIn K cvNum "is_number" = true) (kNum : PySem.W.keepIn K (.ref fNum) = true)
    (aPer : PySem.W.nsIn K mainGlobals "is_person" = some (some (.ref fPer))) (lPer : K.lookup fPer = some ⟨ocPer, odPer, .func (PySem.W.fnOf "is_person" "is_person" (defArgs sPerson) (defBody sPerson) (defScope sPerson) .none kVPer dcPer pmPer anPer cvPer ctPer), slPer⟩) (xPer : PySem.W.codeIn K cvPer "is_person" = true) (kPer : PySem.W.keepIn K (.ref fPer) = true)
    (aAsc : PySem.W.nsIn K mainGlobals "is_ascending" = some (some (.ref fAsc))) (lAsc : K.lookup fAsc = some ⟨ocAsc, odAsc, .func (PySem.W.fnOf "is_ascending" "is_ascending" (defArgs sAsc) (defBody sAsc) (defScope sAsc) .none kVAsc dcAsc pmAsc anAsc cvAsc ctAsc), slAsc⟩) (xAsc : PySem.W.codeIn K cvAsc "is_ascending" = true) (kAsc : PySem.W.keepIn K (.ref fAsc) = true)
    (aPL : PySem.W.nsIn K mainGlobals "is_person_list" = some (some (.ref fPL))) (lPL : K.lookup fPL = some ⟨ocPL, odPL, .func (PySem.W.fnOf "is_person_list" "is_person_list" (defArgs sPList) (defBody sPList) (defScope sPList) .none kVPL dcPL pmPL anPL cvPL ctPL), slPL⟩) (xPL : PySem.W.codeIn K cvPL "is_person_list" = true) (kPL : PySem.W.keepIn K (.ref fPL) = true)
    (aGr : PySem.W.nsIn K mainGlobals "is_group" = some (some (.ref fGr))) (lGr : K.lookup fGr = some ⟨ocGr, odGr, .func (PySem.W.fnOf "is_group" "is_group" (defArgs sGroup) (defBody sGroup) (defScope sGroup) .none kVGr dcGr pmGr anGr cvGr ctGr), slGr⟩) (xGr : PySem.W.codeIn K cvGr "is_group" = true) (kGr : PySem.W.keepIn K (.ref fGr) = true)
    (aMask : PySem.W.nsIn K mainGlobals "mask_of" = some (some (.ref fMask))) (lMask : K.lookup fMask = some ⟨ocMask, odMask, .func (PySem.W.fnOf "mask_of" "mask_of" (defArgs sMask) (defBody sMask) (defScope sMask) .none kVMask dcMask pmMask anMask cvMask ctMask), slMask⟩) (xMask : PySem.W.codeIn K cvMask "mask_of" = true) (kMask : PySem.W.keepIn K (.ref fMask) = true)
    (aCross : PySem.W.nsIn K mainGlobals "masks_cross" = some (some (.ref fCross))) (lCross : K.lookup fCross = some ⟨ocCross, odCross, .func (PySem.W.fnOf "masks_cross" "masks_cross" (defArgs sCross) (defBody sCross) (defScope sCross) .none kVCross dcCross pmCross anCross cvCross ctCross), slCross⟩) (xCross : PySem.W.codeIn K cvCross "masks_cross" = true) (kCross : PySem.W.keepIn K (.ref fCross) = true)
    (aAny : PySem.W.nsIn K mainGlobals "any_cross" = some (some (.ref fAny))) (lAny : K.lookup fAny = some ⟨ocAny, odAny, .func (PySem.W.fnOf "any_cross" "any_cross" (defArgs sAny) (defBody sAny) (defScope sAny) .none kVAny dcAny pmAny anAny cvAny ctAny), slAny⟩) (xAny : PySem.W.codeIn K cvAny "any_cross" = true) (kAny : PySem.W.keepIn K (.ref fAny) = true)
    (aIs : PySem.W.nsIn K mainGlobals "is_parting" = some (some (.ref fIs))) (lIs : K.lookup fIs = some ⟨ocIs, odIs, .func (PySem.W.fnOf "is_parting" "is_parting" (defArgs sParting) (defBody sParting) (defScope sParting) .none kVIs dcIs pmIs anIs cvIs ctIs), slIs⟩) (xIs : PySem.W.codeIn K cvIs "is_parting" = true) (kIs : PySem.W.keepIn K (.ref fIs) = true)
    (aBoth : PySem.W.nsIn K mainGlobals "both_parts" = some (some (.ref fBoth))) (lBoth : K.lookup fBoth = some ⟨ocBoth, odBoth, .func (PySem.W.fnOf "both_parts" "both_parts" (defArgs sBoth) (defBody sBoth) (defScope sBoth) .none kVBoth dcBoth pmBoth anBoth cvBoth ctBoth), slBoth⟩) (xBoth : PySem.W.codeIn K cvBoth "both_parts" = true) (kBoth : PySem.W.keepIn K (.ref fBoth) = true)
    (aPart : PySem.W.nsIn K mainGlobals "part_text" = some (some (.ref fPart))) (lPart : K.lookup fPart = some ⟨ocPart, odPart, .func (PySem.W.fnOf "part_text" "part_text" (defArgs sPart) (defBody sPart) (defScope sPart) .none kVPart dcPart pmPart anPart cvPart ctPart), slPart⟩) (xPart : PySem.W.codeIn K cvPart "part_text" = true) (kPart : PySem.W.keepIn K (.ref fPart) = true)
    (aWr : PySem.W.nsIn K mainGlobals "write_parting" = some (some (.ref fWr))) (lWr : K.lookup fWr = some ⟨ocWr, odWr, .func (PySem.W.fnOf "write_parting" "write_parting" (defArgs sWr) (defBody sWr) (defScope sWr) .none kVWr dcWr pmWr anWr cvWr ctWr), slWr⟩) (xWr : PySem.W.codeIn K cvWr "write_parting" = true) (kWr : PySem.W.keepIn K (.ref fWr) = true)
    (aGB : PySem.W.nsIn K mainGlobals "groups_between" = some (some (.ref fGB))) (lGB : K.lookup fGB = some ⟨ocGB, odGB, .func (PySem.W.fnOf "groups_between" "groups_between" (defArgs sGB) (defBody sGB) (defScope sGB) .none kVGB dcGB pmGB anGB cvGB ctGB), slGB⟩) (xGB : PySem.W.codeIn K cvGB "groups_between" = true) (kGB : PySem.W.keepIn K (.ref fGB) = true)
    (aRd : PySem.W.nsIn K mainGlobals "read_parting" = some (some (.ref fRd))) (lRd : K.lookup fRd = some ⟨ocRd, odRd, .func (PySem.W.fnOf "read_parting" "read_parting" (defArgs sRd) (defBody sRd) (defScope sRd) .none kVRd dcRd pmRd anRd cvRd ctRd), slRd⟩) (xRd : PySem.W.codeIn K cvRd "read_parting" = true) (kRd : PySem.W.keepIn K (.ref fRd) = true)
    (aNT : PySem.W.nsIn K mainGlobals "numbers_text" = some (some (.ref fNT))) (lNT : K.lookup fNT = some ⟨ocNT, odNT, .func (PySem.W.fnOf "numbers_text" "numbers_text" (defArgs sNT) (defBody sNT) (defScope sNT) .none kVNT dcNT pmNT anNT cvNT ctNT), slNT⟩) (xNT : PySem.W.codeIn K cvNT "numbers_text" = true) (kNT : PySem.W.keepIn K (.ref fNT) = true)
    (aWC : PySem.W.nsIn K mainGlobals "write_coming" = some (some (.ref fWC))) (lWC : K.lookup fWC = some ⟨ocWC, odWC, .func (PySem.W.fnOf "write_coming" "write_coming" (defArgs sWC) (defBody sWC) (defScope sWC) .none kVWC dcWC pmWC anWC cvWC ctWC), slWC⟩) (xWC : PySem.W.codeIn K cvWC "write_coming" = true) (kWC : PySem.W.keepIn K (.ref fWC) = true)
    (aRC : PySem.W.nsIn K mainGlobals "read_coming" = some (some (.ref fRC))) (lRC : K.lookup fRC = some ⟨ocRC, odRC, .func (PySem.W.fnOf "read_coming" "read_coming" (defArgs sRC) (defBody sRC) (defScope sRC) .none kVRC dcRC pmRC anRC cvRC ctRC), slRC⟩) (xRC : PySem.W.codeIn K cvRC "read_coming" = true) (kRC : PySem.W.keepIn K (.ref fRC) = true)
    (awBag : PySem.W.nsIn K mainGlobals "_law_bag" = some (some (.ref fwBag))) (lwBag : K.lookup fwBag = some ⟨ocwBag, odwBag, .func (PySem.W.fnOf "_law_bag" "_law_bag" (defArgs sBag) (defBody sBag) (defScope sBag) .none kVwBag dcwBag pmwBag anwBag cvwBag ctwBag), slwBag⟩) (xwBag : PySem.W.codeIn K cvwBag "_law_bag" = true) (kwBag : PySem.W.keepIn K (.ref fwBag) = true)
    (awStir : PySem.W.nsIn K mainGlobals "_law_stirred" = some (some (.ref fwStir))) (lwStir : K.lookup fwStir = some ⟨ocwStir, odwStir, .func (PySem.W.fnOf "_law_stirred" "_law_stirred" (defArgs sStir) (defBody sStir) (defScope sStir) .none kVwStir dcwStir pmwStir anwStir cvwStir ctwStir), slwStir⟩) (xwStir : PySem.W.codeIn K cvwStir "_law_stirred" = true) (kwStir : PySem.W.keepIn K (.ref fwStir) = true)
    (awDraw : PySem.W.nsIn K mainGlobals "_law_draw" = some (some (.ref fwDraw))) (lwDraw : K.lookup fwDraw = some ⟨ocwDraw, odwDraw, .func (PySem.W.fnOf "_law_draw" "_law_draw" (defArgs sDraw) (defBody sDraw) (defScope sDraw) .none kVwDraw dcwDraw pmwDraw anwDraw cvwDraw ctwDraw), slwDraw⟩) (xwDraw : PySem.W.codeIn K cvwDraw "_law_draw" = true) (kwDraw : PySem.W.keepIn K (.ref fwDraw) = true)
    (awAlike : PySem.W.nsIn K mainGlobals "_law_alike" = some (some (.ref fwAlike))) (lwAlike : K.lookup fwAlike = some ⟨ocwAlike, odwAlike, .func (PySem.W.fnOf "_law_alike" "_law_alike" (defArgs sAlike) (defBody sAlike) (defScope sAlike) .none kVwAlike dcwAlike pmwAlike anwAlike cvwAlike ctwAlike), slwAlike⟩) (xwAlike : PySem.W.codeIn K cvwAlike "_law_alike" = true) (kwAlike : PySem.W.keepIn K (.ref fwAlike) = true)
    (awRow : PySem.W.nsIn K mainGlobals "_law_row" = some (some (.ref fwRow))) (lwRow : K.lookup fwRow = some ⟨ocwRow, odwRow, .func (PySem.W.fnOf "_law_row" "_law_row" (defArgs sRowL) (defBody sRowL) (defScope sRowL) .none kVwRow dcwRow pmwRow anwRow cvwRow ctwRow), slwRow⟩) (xwRow : PySem.W.codeIn K cvwRow "_law_row" = true) (kwRow : PySem.W.keepIn K (.ref fwRow) = true)
    (awBy : PySem.W.nsIn K mainGlobals "_law_by" = some (some (.ref fwBy))) (lwBy : K.lookup fwBy = some ⟨ocwBy, odwBy, .func (PySem.W.fnOf "_law_by" "_law_by" (defArgs sByL) (defBody sByL) (defScope sByL) .none kVwBy dcwBy pmwBy anwBy cvwBy ctwBy), slwBy⟩) (xwBy : PySem.W.codeIn K cvwBy "_law_by" = true) (kwBy : PySem.W.keepIn K (.ref fwBy) = true)
    (awText : PySem.W.nsIn K mainGlobals "_law_text" = some (some (.ref fwText))) (lwText : K.lookup fwText = some ⟨ocwText, odwText, .func (PySem.W.fnOf "_law_text" "_law_text" (defArgs sTextL) (defBody sTextL) (defScope sTextL) .none kVwText dcwText pmwText anwText cvwText ctwText), slwText⟩) (xwText : PySem.W.codeIn K cvwText "_law_text" = true) (kwText : PySem.W.keepIn K (.ref fwText) = true)
    (aL : PySem.W.nsIn K mainGlobals "law" = some (some (.ref fL))) (lL : K.lookup fL = some ⟨ocL, odL, .func (PySem.W.fnOf "law" "law" (defArgs sLaw) (defBody sLaw) (defScope sLaw) .none kVL dcL pmL anL cvL ctL), slL⟩) (xL : PySem.W.codeIn K cvL "law" = true) (kL : PySem.W.keepIn K (.ref fL) = true)
    (y_isinstance : PySem.W.nsIn K mainGlobals "isinstance" = some none)
    (y_int : PySem.W.nsIn K mainGlobals "int" = some none)
    (y_bool : PySem.W.nsIn K mainGlobals "bool" = some none)
    (y_list : PySem.W.nsIn K mainGlobals "list" = some none)
    (y_len : PySem.W.nsIn K mainGlobals "len" = some none)
    (y_all : PySem.W.nsIn K mainGlobals "all" = some none)
    (y_any : PySem.W.nsIn K mainGlobals "any" = some none)
    (y_sum : PySem.W.nsIn K mainGlobals "sum" = some none)
    (y_zip : PySem.W.nsIn K mainGlobals "zip" = some none)
    (y_sorted : PySem.W.nsIn K mainGlobals "sorted" = some none)
    (y_tuple : PySem.W.nsIn K mainGlobals "tuple" = some none)
    (y_range : PySem.W.nsIn K mainGlobals "range" = some none)
    (y_enumerate : PySem.W.nsIn K mainGlobals "enumerate" = some none)
    (y_abs : PySem.W.nsIn K mainGlobals "abs" = some none)
    (y_max : PySem.W.nsIn K mainGlobals "max" = some none)
    (y_min : PySem.W.nsIn K mainGlobals "min" = some none)
    (y_str : PySem.W.nsIn K mainGlobals "str" = some none)
    (y_repr : PySem.W.nsIn K mainGlobals "repr" = some none)
    (zComb : PySem.W.nsIn K mainGlobals "combinations" = some (some (.type "itertools.combinations"))) (zMost : PySem.W.nsIn K mainGlobals "MOST_PERSONS" = some (some (.int 20 mtok))) :
    ∃ fd : FuncData, (∀ (s : Shared) (v : Value), BindsTo s fd ⟨[v], []⟩ [("script", v)]) ∧ ∀ base : Heap, K.In base → base.Ns mainGlobals mg → FnG l.prog w K mg base CX0 30 fa fd ["script"] (spLaw K) := by
  have e := hfa.symm.trans (PySem.W.mg_of X G aL)
  cases e
  have FNum := fun_mk (st := sNumber) lNum xNum kNum
  have bNum := FNum.binds (ps := ["thing"]) fun _ _ _ _ _ _ us hl => match us, hl with | [_], _ => rfl
  have FPer := fun_mk (st := sPerson) lPer xPer kPer
  have bPer := FPer.binds (ps := ["thing", "persons"]) fun _ _ _ _ _ _ us hl => match us, hl with | [_, _], _ => rfl
  have FAsc := fun_mk (st := sAsc) lAsc xAsc kAsc
  have bAsc := FAsc.binds (ps := ["items"]) fun _ _ _ _ _ _ us hl => match us, hl with | [_], _ => rfl
  have FPL := fun_mk (st := sPList) lPL xPL kPL
  have bPL := FPL.binds (ps := ["thing", "persons"]) fun _ _ _ _ _ _ us hl => match us, hl with | [_, _], _ => rfl
  have FGr := fun_mk (st := sGroup) lGr xGr kGr
  have bGr := FGr.binds (ps := ["thing", "persons"]) fun _ _ _ _ _ _ us hl => match us, hl with | [_, _], _ => rfl
  have FMask := fun_mk (st := sMask) lMask xMask kMask
  have bMask := FMask.binds (ps := ["group"]) fun _ _ _ _ _ _ us hl => match us, hl with | [_], _ => rfl
  have FCross := fun_mk (st := sCross) lCross xCross kCross
  have bCross := FCross.binds (ps := ["one", "other"]) fun _ _ _ _ _ _ us hl => match us, hl with | [_, _], _ => rfl
  have FAny := fun_mk (st := sAny) lAny xAny kAny
  have bAny := FAny.binds (ps := ["groups"]) fun _ _ _ _ _ _ us hl => match us, hl with | [_], _ => rfl
  have FIs := fun_mk (st := sParting) lIs xIs kIs
  have bIs := FIs.binds (ps := ["thing"]) fun _ _ _ _ _ _ us hl => match us, hl with | [_], _ => rfl
  have FBoth := fun_mk (st := sBoth) lBoth xBoth kBoth
  have bBoth := FBoth.binds (ps := ["parting", "group"]) fun _ _ _ _ _ _ us hl => match us, hl with | [_, _], _ => rfl
  have FPart := fun_mk (st := sPart) lPart xPart kPart
  have bPart := FPart.binds (ps := ["parting", "part"]) fun _ _ _ _ _ _ us hl => match us, hl with | [_, _], _ => rfl
  have FWr := fun_mk (st := sWr) lWr xWr kWr
  have bWr := FWr.binds (ps := ["parting"]) fun _ _ _ _ _ _ us hl => match us, hl with | [_], _ => rfl
  have FGB := fun_mk (st := sGB) lGB xGB kGB
  have bGB := FGB.binds (ps := ["words"]) fun _ _ _ _ _ _ us hl => match us, hl with | [_], _ => rfl
  have FRd := fun_mk (st := sRd) lRd xRd kRd
  have bRd := FRd.binds (ps := ["text"]) fun _ _ _ _ _ _ us hl => match us, hl with | [_], _ => rfl
  have FNT := fun_mk (st := sNT) lNT xNT kNT
  have bNT := FNT.binds (ps := ["numbers"]) fun _ _ _ _ _ _ us hl => match us, hl with | [_], _ => rfl
  have FWC := fun_mk (st := sWC) lWC xWC kWC
  have bWC := FWC.binds (ps := ["coming"]) fun _ _ _ _ _ _ us hl => match us, hl with | [_], _ => rfl
  have FRC := fun_mk (st := sRC) lRC xRC kRC
  have bRC := FRC.binds (ps := ["text"]) fun _ _ _ _ _ _ us hl => match us, hl with | [_], _ => rfl
  have FwBag := fun_mk (st := sBag) lwBag xwBag kwBag
  have bwBag := FwBag.binds (ps := ["script"]) fun _ _ _ _ _ _ us hl => match us, hl with | [_], _ => rfl
  have FwStir := fun_mk (st := sStir) lwStir xwStir kwStir
  have bwStir := FwStir.binds (ps := ["bag", "wide"]) fun _ _ _ _ _ _ us hl => match us, hl with | [_, _], _ => rfl
  have FwDraw := fun_mk (st := sDraw) lwDraw xwDraw kwDraw
  have bwDraw := FwDraw.binds (ps := ["bag", "wide"]) fun _ _ _ _ _ _ us hl => match us, hl with | [_, _], _ => rfl
  have FwAlike := fun_mk (st := sAlike) lwAlike xwAlike kwAlike
  have bwAlike := FwAlike.binds (ps := ["found", "due"]) fun _ _ _ _ _ _ us hl => match us, hl with | [_, _], _ => rfl
  have FwRow := fun_mk (st := sRowL) lwRow xwRow kwRow
  have bwRow := FwRow.binds (ps := ["bag", "wide"]) fun _ _ _ _ _ _ us hl => match us, hl with | [_, _], _ => rfl
  have FwBy := fun_mk (st := sByL) lwBy xwBy kwBy
  have bwBy := FwBy.binds (ps := ["row"]) fun _ _ _ _ _ _ us hl => match us, hl with | [_], _ => rfl
  have FwText := fun_mk (st := sTextL) lwText xwText kwText
  have bwText := FwText.binds (ps := ["lot", "one"]) fun _ _ _ _ _ _ us hl => match us, hl with | [_, _], _ => rfl
  have FL := fun_mk (st := sLaw) lL xL kL
  have bL := FL.binds (ps := ["script"]) fun _ _ _ _ _ _ us hl => match us, hl with | [_], _ => rfl
  have T : TxtP mg := ⟨PySem.W.mg_none_of X G y_isinstance, PySem.W.mg_none_of X G y_int, PySem.W.mg_none_of X G y_bool, PySem.W.mg_none_of X G y_list, PySem.W.mg_none_of X G y_len, PySem.W.mg_none_of X G y_all, PySem.W.mg_none_of X G y_any, PySem.W.mg_none_of X G y_sum, PySem.W.mg_none_of X G y_zip, PySem.W.mg_none_of X G y_sorted, PySem.W.mg_none_of X G y_tuple, PySem.W.mg_none_of X G y_range, PySem.W.mg_none_of X G y_enumerate⟩
  have T0 : Txt0 mg := ⟨PySem.W.mg_none_of X G y_int, PySem.W.mg_none_of X G y_range, PySem.W.mg_none_of X G y_len, PySem.W.mg_none_of X G y_abs, PySem.W.mg_none_of X G y_max, PySem.W.mg_none_of X G y_min⟩
  have TA : TxtA mg fwAlike := ⟨T0, PySem.W.mg_none_of X G y_isinstance, PySem.W.mg_none_of X G y_list, PySem.W.mg_none_of X G y_tuple, PySem.W.mg_none_of X G y_all, PySem.W.mg_none_of X G y_bool, PySem.W.mg_none_of X G y_str, PySem.W.mg_of X G awAlike⟩
  have Z : ProgF K mg := { fNum := fNum, dNum := _, FNum := FNum, gNum := PySem.W.mg_of X G aNum, bNum := bNum, fPer := fPer, dPer := _, FPer := FPer, gPer := PySem.W.mg_of X G aPer, bPer := bPer, fAsc := fAsc, dAsc := _, FAsc := FAsc, gAsc := PySem.W.mg_of X G aAsc, bAsc := bAsc, fPL := fPL, dPL := _, FPL := FPL, gPL := PySem.W.mg_of X G aPL, bPL := bPL, fGr := fGr, dGr := _, FGr := FGr, gGr := PySem.W.mg_of X G aGr, bGr := bGr, fMask := fMask, dMask := _, FMask := FMask, gMask := PySem.W.mg_of X G aMask, bMask := bMask, fCross := fCross, dCross := _, FCross := FCross, gCross := PySem.W.mg_of X G aCross, bCross := bCross, fAny := fAny, dAny := _, FAny := FAny, gAny := PySem.W.mg_of X G aAny, bAny := bAny, fIs := fIs, dIs := _, FIs := FIs, gIs := PySem.W.mg_of X G aIs, bIs := bIs, gComb := PySem.W.mg_of X G zComb, mostT := _, gMost := PySem.W.mg_of X G zMost }
  refine ⟨PySem.W.fnOf "law" "law" (defArgs sLaw) (defBody sLaw) (defScope sLaw) .none kVL dcL pmL anL cvL ctL, fun s v => .of_eq rfl, fun base _ _ => ?_⟩
  have kb1 : KBinds K ({ fBoth := fBoth, dBoth := _, FBoth := FBoth, gBoth := PySem.W.mg_of X G aBoth, bBoth := bBoth, fPart := fPart, dPart := _, FPart := FPart, gPart := PySem.W.mg_of X G aPart, bPart := bPart, fWr := fWr, dWr := _, FWr := FWr, gWr := PySem.W.mg_of X G aWr, bWr := bWr, fGB := fGB, dGB := _, FGB := FGB, gGB := PySem.W.mg_of X G aGB, bGB := bGB, fRd := fRd, dRd := _, FRd := FRd, gRd := PySem.W.mg_of X G aRd, bRd := bRd, fNT := fNT, dNT := _, FNT := FNT, gNT := PySem.W.mg_of X G aNT, bNT := bNT, fWC := fWC, dWC := _, FWC := FWC, gWC := PySem.W.mg_of X G aWC, bWC := bWC, fRC := fRC, dRC := _, FRC := FRC, gRC := PySem.W.mg_of X G aRC, bRC := bRC } : TextF K mg).dWr ["parting"] ["parting"] selL selL := kb_one (fun s a => .of_eq rfl) (fun s a => .of_eq rfl)
  have kb2 : KBinds K ({ fBoth := fBoth, dBoth := _, FBoth := FBoth, gBoth := PySem.W.mg_of X G aBoth, bBoth := bBoth, fPart := fPart, dPart := _, FPart := FPart, gPart := PySem.W.mg_of X G aPart, bPart := bPart, fWr := fWr, dWr := _, FWr := FWr, gWr := PySem.W.mg_of X G aWr, bWr := bWr, fGB := fGB, dGB := _, FGB := FGB, gGB := PySem.W.mg_of X G aGB, bGB := bGB, fRd := fRd, dRd := _, FRd := FRd, gRd := PySem.W.mg_of X G aRd, bRd := bRd, fNT := fNT, dNT := _, FNT := FNT, gNT := PySem.W.mg_of X G aNT, bNT := bNT, fWC := fWC, dWC := _, FWC := FWC, gWC := PySem.W.mg_of X G aWC, bWC := bWC, fRC := fRC, dRC := _, FRC := FRC, gRC := PySem.W.mg_of X G aRC, bRC := bRC } : TextF K mg).dWC ["coming"] ["coming"] selL selL := kb_one (fun s a => .of_eq rfl) (fun s a => .of_eq rfl)
  have kb3 : KBinds K ({ fBoth := fBoth, dBoth := _, FBoth := FBoth, gBoth := PySem.W.mg_of X G aBoth, bBoth := bBoth, fPart := fPart, dPart := _, FPart := FPart, gPart := PySem.W.mg_of X G aPart, bPart := bPart, fWr := fWr, dWr := _, FWr := FWr, gWr := PySem.W.mg_of X G aWr, bWr := bWr, fGB := fGB, dGB := _, FGB := FGB, gGB := PySem.W.mg_of X G aGB, bGB := bGB, fRd := fRd, dRd := _, FRd := FRd, gRd := PySem.W.mg_of X G aRd, bRd := bRd, fNT := fNT, dNT := _, FNT := FNT, gNT := PySem.W.mg_of X G aNT, bNT := bNT, fWC := fWC, dWC := _, FWC := FWC, gWC := PySem.W.mg_of X G aWC, bWC := bWC, fRC := fRC, dRC := _, FRC := FRC, gRC := PySem.W.mg_of X G aRC, bRC := bRC } : TextF K mg).dRd ["text"] ["text"] selL selL := kb_one (fun s a => .of_eq rfl) (fun s a => .of_eq rfl)
  have kb4 : KBinds K ({ fBoth := fBoth, dBoth := _, FBoth := FBoth, gBoth := PySem.W.mg_of X G aBoth, bBoth := bBoth, fPart := fPart, dPart := _, FPart := FPart, gPart := PySem.W.mg_of X G aPart, bPart := bPart, fWr := fWr, dWr := _, FWr := FWr, gWr := PySem.W.mg_of X G aWr, bWr := bWr, fGB := fGB, dGB := _, FGB := FGB, gGB := PySem.W.mg_of X G aGB, bGB := bGB, fRd := fRd, dRd := _, FRd := FRd, gRd := PySem.W.mg_of X G aRd, bRd := bRd, fNT := fNT, dNT := _, FNT := FNT, gNT := PySem.W.mg_of X G aNT, bNT := bNT, fWC := fWC, dWC := _, FWC := FWC, gWC := PySem.W.mg_of X G aWC, bWC := bWC, fRC := fRC, dRC := _, FRC := FRC, gRC := PySem.W.mg_of X G aRC, bRC := bRC } : TextF K mg).dRC ["text"] ["text"] selL selL := kb_one (fun s a => .of_eq rfl) (fun s a => .of_eq rfl)
  exact ok_law FL Z ({ fBoth := fBoth, dBoth := _, FBoth := FBoth, gBoth := PySem.W.mg_of X G aBoth, bBoth := bBoth, fPart := fPart, dPart := _, FPart := FPart, gPart := PySem.W.mg_of X G aPart, bPart := bPart, fWr := fWr, dWr := _, FWr := FWr, gWr := PySem.W.mg_of X G aWr, bWr := bWr, fGB := fGB, dGB := _, FGB := FGB, gGB := PySem.W.mg_of X G aGB, bGB := bGB, fRd := fRd, dRd := _, FRd := FRd, gRd := PySem.W.mg_of X G aRd, bRd := bRd, fNT := fNT, dNT := _, FNT := FNT, gNT := PySem.W.mg_of X G aNT, bNT := bNT, fWC := fWC, dWC := _, FWC := FWC, gWC := PySem.W.mg_of X G aWC, bWC := bWC, fRC := fRC, dRC := _, FRC := FRC, gRC := PySem.W.mg_of X G aRC, bRC := bRC } : TextF K mg) ({ fBag := fwBag, dBag := _, FBag := FwBag, gBag := PySem.W.mg_of X G awBag, bBag := bwBag, fStir := fwStir, dStir := _, FStir := FwStir, gStir := PySem.W.mg_of X G awStir, bStir := bwStir, fDraw := fwDraw, dDraw := _, FDraw := FwDraw, gDraw := PySem.W.mg_of X G awDraw, bDraw := bwDraw, fAlike := fwAlike, dAlike := _, FAlike := FwAlike, gAlike := PySem.W.mg_of X G awAlike, bAlike := bwAlike, fRow := fwRow, dRow := _, FRow := FwRow, gRow := PySem.W.mg_of X G awRow, bRow := bwRow, fBy := fwBy, dBy := _, FBy := FwBy, gBy := PySem.W.mg_of X G awBy, bBy := bwBy, fText := fwText, dText := _, FText := FwText, gText := PySem.W.mg_of X G awText, bText := bwText } : LawG K mg) T T0 TA (PySem.W.mg_none_of X G y_str) (PySem.W.mg_none_of X G y_repr) kb1 kb2 kb3 kb4
theorem walk {l : PySem.W.OpenLaw} {q : Program} {loose : List Str} {XP : (Str → Option Value) → Heap → Prop} {YP : World → Heap → Prop} {d : DefRec} {K : Params → PySem.W.Frag} (hn : l.most = some 63) (hdf : d.params.defaults = [])
    (hY : ∀ (w : World) (h : Heap), YP w h → (K w.params).In h)
    (F : ∀ (w : World) (mg : Str → Option Value) (fa : Addr) (h : Heap), (K w.params).In h → h.Ns mainGlobals mg → mg d.name = some (.ref fa) →
      ∃ fd : FuncData, (∀ (s : Shared) (u : Value), BindsTo s fd ⟨[u], []⟩ [("script", u)]) ∧ ∀ base : Heap, (K w.params).In base → base.Ns mainGlobals mg → FnG l.prog w (K w.params) mg base CX0 30 fa fd ["script"] (spLaw (K w.params))) :
    PySem.W.WalkO q loose XP YP l.row.toRowW d [] (fun f vs => PySem.call f vs) :=
  walk_ofG (n := 63) (lv := 30) (x := "script") (cx := fun _ => CX0) (prom := fun w => spLaw (K w.params)) hn (by decide) hdf ⟨rfl, by decide, by decide⟩ hY F (fun _ _ a ns hl _ _ hS => ⟨a, ns, rfl, hS, hl, fun _ => rfl⟩) fun _ _ _ _ _ z => z
end K50


open PySem PySem.W PyProof.Rows in
set_option maxRecDepth 100000 in
set_option maxHeartbeats 0 in
theorem PySem.Challenge.cw_twopartings_k50_texts_written_and_read_holds : PySem.Challenge.rw_twopartings_k50_texts_written_and_read.Holds := by
  w_on; o_law; k_head; (case hw => w_witness2)
  k_fill
  refine K50.walk (l := PySem.Challenge.rw_twopartings_k50_texts_written_and_read) rfl rfl (fun w h Y => PySem.W.kIn_of Y) ?F
  case F =>
    intro w mg fa h KX G hmg
    refine' K50.all_mk KX G hmg ?aNum ?lNum ?xNum ?kNum ?aPer ?lPer ?xPer ?kPer ?aAsc ?lAsc ?xAsc ?kAsc ?aPL ?lPL ?xPL ?kPL ?aGr ?lGr ?xGr ?kGr ?aMask ?lMask ?xMask ?kMask ?aCross ?lCross ?xCross ?kCross ?aAny ?lAny ?xAny ?kAny ?aIs ?lIs ?xIs ?kIs ?aBoth ?lBoth ?xBoth ?kBoth ?aPart ?lPart ?xPart ?kPart ?aWr ?lWr ?xWr ?kWr ?aGB ?lGB ?xGB ?kGB ?aRd ?lRd ?xRd ?kRd ?aNT ?lNT ?xNT ?kNT ?aWC ?lWC ?xWC ?kWC ?aRC ?lRC ?xRC ?kRC ?awBag ?lwBag ?xwBag ?kwBag ?awStir ?lwStir ?xwStir ?kwStir ?awDraw ?lwDraw ?xwDraw ?kwDraw ?awAlike ?lwAlike ?xwAlike ?kwAlike ?awRow ?lwRow ?xwRow ?kwRow ?awBy ?lwBy ?xwBy ?kwBy ?awText ?lwText ?xwText ?kwText ?aL ?lL ?xL ?kL ?y_isinstance ?y_int ?y_bool ?y_list ?y_len ?y_all ?y_any ?y_sum ?y_zip ?y_sorted ?y_tuple ?y_range ?y_enumerate ?y_abs ?y_max ?y_min ?y_str ?y_repr ?zComb ?zMost
    (case aNum => k_is)
    (case lNum => k_is)
    (case xNum => k_is)
    (case kNum => k_is)
    (case aPer => k_is)
    (case lPer => k_is)
    (case xPer => k_is)
    (case kPer => k_is)
    (case aAsc => k_is)
    (case lAsc => k_is)
    (case xAsc => k_is)
    (case kAsc => k_is)
    (case aPL => k_is)
    (case lPL => k_is)
    (case xPL => k_is)
    (case kPL => k_is)
    (case aGr => k_is)
    (case lGr => k_is)
    (case xGr => k_is)
    (case kGr => k_is)
    (case aMask => k_is)
    (case lMask => k_is)
    (case xMask => k_is)
    (case kMask => k_is)
    (case aCross => k_is)
    (case lCross => k_is)
    (case xCross => k_is)
    (case kCross => k_is)
    (case aAny => k_is)
    (case lAny => k_is)
    (case xAny => k_is)
    (case kAny => k_is)
    (case aIs => k_is)
    (case lIs => k_is)
    (case xIs => k_is)
    (case kIs => k_is)
    (case aBoth => k_is)
    (case lBoth => k_is)
    (case xBoth => k_is)
    (case kBoth => k_is)
    (case aPart => k_is)
    (case lPart => k_is)
    (case xPart => k_is)
    (case kPart => k_is)
    (case aWr => k_is)
    (case lWr => k_is)
    (case xWr => k_is)
    (case kWr => k_is)
    (case aGB => k_is)
    (case lGB => k_is)
    (case xGB => k_is)
    (case kGB => k_is)
    (case aRd => k_is)
    (case lRd => k_is)
    (case xRd => k_is)
    (case kRd => k_is)
    (case aNT => k_is)
    (case lNT => k_is)
    (case xNT => k_is)
    (case kNT => k_is)
    (case aWC => k_is)
    (case lWC => k_is)
    (case xWC => k_is)
    (case kWC => k_is)
    (case aRC => k_is)
    (case lRC => k_is)
    (case xRC => k_is)
    (case kRC => k_is)
    (case awBag => k_is)
    (case lwBag => k_is)
    (case xwBag => k_is)
    (case kwBag => k_is)
    (case awStir => k_is)
    (case lwStir => k_is)
    (case xwStir => k_is)
    (case kwStir => k_is)
    (case awDraw => k_is)
    (case lwDraw => k_is)
    (case xwDraw => k_is)
    (case kwDraw => k_is)
    (case awAlike => k_is)
    (case lwAlike => k_is)
    (case xwAlike => k_is)
    (case kwAlike => k_is)
    (case awRow => k_is)
    (case lwRow => k_is)
    (case xwRow => k_is)
    (case kwRow => k_is)
    (case awBy => k_is)
    (case lwBy => k_is)
    (case xwBy => k_is)
    (case kwBy => k_is)
    (case awText => k_is)
    (case lwText => k_is)
    (case xwText => k_is)
    (case kwText => k_is)
    (case aL => k_is)
    (case lL => k_is)
    (case xL => k_is)
    (case kL => k_is)
    (case y_isinstance => k_is)
    (case y_int => k_is)
    (case y_bool => k_is)
    (case y_list => k_is)
    (case y_len => k_is)
    (case y_all => k_is)
    (case y_any => k_is)
    (case y_sum => k_is)
    (case y_zip => k_is)
    (case y_sorted => k_is)
    (case y_tuple => k_is)
    (case y_range => k_is)
    (case y_enumerate => k_is)
    (case y_abs => k_is)
    (case y_max => k_is)
    (case y_min => k_is)
    (case y_str => k_is)
    (case y_repr => k_is)
    (case zComb => k_is)
    (case zMost => k_is)
