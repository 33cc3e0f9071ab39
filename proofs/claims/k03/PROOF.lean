import PyProof.Rows.All
import Wide.All
import OpenK.AllK
import Wide.FinOn
import KE.KTypeName
import KE.KExcIs
import PyProof.FitsInt
import HandS.Base
import HandS.Call
import HandS.List
import HandS.Comp
import HandS.Ends
import HandS.Iter
import HandS.Wide
import HandS.WideBits
import HandS.Gcd
import HandS.Words
import HandS.WordsList
import HandS.WordsExc
import HandS.IsInst
import HandS.TupLe
import HandS.Exc
import HandS.ExcOwn
import HandS.ExcInit
import HandS.ExcField
import HandS.FStr
import KE.KNest
import PyProof.ReprRoads
import PyProof.StrLawsRepr
import PyProof.StrBlock2
import HandS.Nested
import HandS.AnyAll
import HandS.EndBits
import HandS.SetBool
import HandS.Deep
import HandS.Walk
import HandS.Set
import HandS.Strs
import PyProof.ListOps
import PyProof.Rows.SetFrom
import PyProof.SumAny
import HandS.TryOnly
import HandS.Conv
import HandS.GenOver
import HandS.RevRange
import PySem.Challenge.RW_unsaidsizes_k03_ranks_of_polynomials
set_option Elab.async false
set_option linter.all false
set_option maxRecDepth 100000
set_option maxHeartbeats 8000000
-- G
/-! calls under which no text of a list is being made (for repr of lists) -/
namespace LG
open PySem PySem.Spec PyProof.Rows L2
/-- as FnOk, for callers of which it is known that no guard stands -/
structure FnG (P : Program) (w : World) (K : PySem.W.Frag) (mg : Str → Option Value) (base : Heap) (CX : CXT) (k : Nat) (f : Addr) (fd : FuncData) (ps : List Str) (sp : Sp) : Prop where
  len : ∀ vs H Q E, sp vs H Q E → vs.length = ps.length
  run : ∀ (A : Around) (ou : List Env) (s : Shared) (H : Hp) (ar : Args) (us : List Value) (vs : List V) (Q : VK) (E : XK), Room k A → A.guards = some [] → Env0 P w K mg base A ou s H →
    BindsTo s fd ar (ps.zip us) → Vals vs us → sp vs H Q E → codeAny (model P w) A (.call (.ref f) ar) (CR CX ou P w H s Q E) s
section
variable {P : Program} {w : World} {K : PySem.W.Frag} {mg : Str → Option Value} {base : Heap} {CX : CXT} {k : Nat} {f : Addr} {fd : FuncData} {ps : List Str} {sp : Sp}
theorem deeper_guards {A : Around} (e : Env) (h : A.guards = some []) : (A.deeper e).guards = some [] := h
theorem g_of_ok (F : FnOk P w K mg base CX k f fd ps sp) : FnG P w K mg base CX k f fd ps sp := ⟨F.len, fun A ou s H ar us vs Q E hr _ => F.run A ou s H ar us vs Q E hr⟩

/-- a def's body keeps its promise, under known guards -/
theorem fnG_of {nm qu : Str} {pa : Arguments} {bo : List Stmt} {sc : Scope} {dv kv dc pm cd ct oc : Value} {an od : Option Addr} {sl : Array (Option Value)} {N : List Str}
    (hf : K.lookup f = some ⟨oc, od, .func (PySem.W.fnOf nm qu pa bo sc dv kv dc pm an cd ct), sl⟩) (hq : PySem.W.codeIn K cd qu = true) (S : FnScope N ps sc) (ln : ∀ vs H Q E, sp vs H Q E → vs.length = ps.length)
    (hb : ∀ (A : Around) (ou : List Env) (s : Shared) (H : Hp) (vs : List V) (Q : VK) (E : XK), Room k (A.deeper (envOfC qu sc s.heap.objs.size f cd)) → A.guards = some [] → sp vs H Q E →
      ∃ t, PSs (cxOf CX P w K mg base N qu sc f cd A ou s H E) bo t ∧ t { nx := fun _ G => Q .non G, rt := Q } (L2.start N vs) H) :
    FnG P w K mg base CX (k + 1) f (PySem.W.fnOf nm qu pa bo sc dv kv dc pm an cd ct) ps sp := by
  refine ⟨ln, fun A ou s H ar us vs Q E room gd en bd rel want => ?_⟩
  have there : K.In s.heap := en.mod.kin.keeps fun b o z => (en.bs b o z).1
  have nl : s.heap.NoLimit := en.mod.nolimit.keeps fun b o z => (en.bs b o z).1
  refine codeAny_call_function room.depth (there _ _ hf) rfl S.co S.gen rfl (PySem.W.codeRec_of there hq) (bd _ _ _ _ ?_)
  refine wpAny_newFunctionEnv_cells S.kind (fun y hy => ?_) fun env eenv s1 x => ?_
  · obtain ⟨n, v⟩ := y
    exact (S.par n (List.of_mem_zip hy).1).imp id fun q => ⟨q, PySem.W.cellsFrom_some _ _ _ (.inl q)⟩
  subst eenv
  refine ⟨nl.keeps x.toInCall.keep, codeAny_func ?_⟩
  obtain ⟨t, ht, hw⟩ := hb A ou s H vs Q E (room.deeper _) gd want
  have J0 := inv_start (CX := CX) (E := E) S room.hd en (ln _ _ _ _ want) rel x
  refine wpAny_mono (ht.run [] s1 (L2.start N vs) H _ J0 hw) (fun fl s' hs => ?_) fun e s' hs => hs
  cases fl with
  | brk => exact False.elim hs.choose_spec.choose_spec.2
  | cont => exact False.elim hs.choose_spec.choose_spec.2
  | ret u =>
    obtain ⟨v, _, G, J, rv, q⟩ := hs
    exact ⟨v, G, J.os, J.bare, J.base, J.hok, rv, q⟩
  | next =>
    obtain ⟨_, G, J, q⟩ := hs
    exact ⟨V.non, G, J.os, J.bare, J.base, J.hok, rfl, q⟩
/-- .. by the text -/
theorem fun_okG {x qual : Str} {st : Stmt} {N : List Str} (F : Fun K x qual st f fd) (S : FnScope N ps (defScope st)) (ln : ∀ vs H Q E, sp vs H Q E → vs.length = ps.length)
    (hb : ∀ (cd : Value) (A : Around) (ou : List Env) (s : Shared) (H : Hp) (vs : List V) (Q : VK) (E : XK), Room k (A.deeper (envOfC qual (defScope st) s.heap.objs.size f cd)) → A.guards = some [] → sp vs H Q E →
      ∃ t, PSs (cxOf CX0 P w K mg base N qual (defScope st) f cd A ou s H E).nox (defBody st) t ∧ t { nx := fun _ G => Q .non G, rt := Q } (L2.start N vs) H) : FnG P w K mg base CX0 (k + 1) f fd ps sp := by
  obtain ⟨oc, od, kV, doc, pm, an, cd, ct, osl, rfl, lk, hc⟩ := F.ex
  refine fnG_of lk hc S ln fun A ou s H vs Q E hr hg want => ?_
  obtain ⟨t, h, q⟩ := hb cd A ou s H vs Q E hr hg want
  exact ⟨t, h.nox, q⟩
end
section
variable {X : Cx} {CX : CXT} {k : Nat} {f : Addr} {fd : FuncData} {ps : List Str} {sp : Sp} {dvs : List V} {ds : List Value} {E : XK} {x : Str} {p pos : Pos} {e : Expr} {es : List Expr} {t : TA}
theorem pe_callG (F : FnG X.prog X.w X.K X.mg X.base CX k f fd ps sp) (hr : Room k X.A) (gd : X.A.guards = some []) (hg : Gl X x) (hm : X.mg x = some (.ref f)) (hk : PySem.W.keepIn X.K (.ref f) = true) (hb : Binds X.K fd ps ds) (hd : Vals dvs ds) (hx : Passes CX X E)
    (ha : PA X (e :: es) t) (hdb : (x == ("__debug__" : Str)) = false := by decide) (he : starEach (e :: es) X.env = (false, eval e X.env) :: starEach es X.env := by rfl) (hpl : (backTo pos (starEach es X.env)).any (·.1) = false := by rfl) :
    PE X (.Call (.Name x p) (e :: es) [] pos) (tCall sp dvs E t) := by
  refine ⟨fun pins s σ H Q I h => wpAny_Call_Name_kw (ld_glob I hg hm ?_ hdb)⟩
  refine PySem.W.callWith_K (h₀ := X.base) I.ok.mod.kin hk (thn (ha.run pos pins s σ H _ I h) fun us s1 ⟨vs, H1, J, r, q⟩ => ⟨J.kIn, ?_⟩) he hpl
  have r2 : Vals (vs ++ dvs) (us ++ ds) := r.append hd
  have ll : (us ++ ds).length = ps.length := by
    rw [← r2.length]
    exact F.len _ _ _ _ q
  refine wpAny_call (codeAny_mono (F.run X.A X.stack s1 H1 ⟨us, []⟩ (us ++ ds) (vs ++ dvs) Q E hr gd J.env0 (hb s1 us J.kIn ll) r2 q) fun r s' z => ?_)
  cases r with
  | error er => exact hx pins σ H1 s1 er s' J z
  | ok fl =>
    cases fl with
    | ret u => exact J.after z
    | next => exact False.elim z
    | brk => exact False.elim z
    | cont => exact False.elim z
/-- repr of nested data -/
theorem call_reprD (gd : X.A.guards = some []) (hu : X.A.units + 64 < cLine) : CallR X (.builtin "repr") (fun xs H Q => ∃ (a : Addr) (d : PyData), xs = [.ref a] ∧ Dp X.K H (.ref a) d ∧ d.showable = true ∧ d.hasDict = false ∧ d.depth ≤ 60 ∧ d.shown.length ≤ sizeLine ∧ Q (.str d.shown) H) := by
  intro pins s σ H xs us Q I r h
  obtain ⟨a, d, rfl, hd, h1, h2, h3, h4, q⟩ := h
  obtain ⟨u, rfl, e⟩ := vals1 r
  cases (show u = Value.ref a from e)
  obtain ⟨as, rd⟩ := Dp.reads I d (.ref a) (.ref a) hd rfl
  refine PySem.repr_of_reads' rd h1 (fun z => by rw [h2] at z; cases z) gd (by omega) (fun _ _ z => z) (fun h' u tk k => ?_) h4
  exact ⟨.str _, H, I.kept (t' := tk) k, ⟨u, rfl⟩, q⟩
end

/-! the law's own call -/
section
variable {P : Program} {w : World} {K : PySem.W.Frag} {mg mb : Str → Option Value} {k : Nat} {fa a : Addr} {fd : FuncData} {x : Str} {sp : Sp} {s₁ : Shared} {vs : List Value} {ns : List Int}
/-- from one abstract heap, in which the script alone may stand -/
theorem enter (KX : K.In s₁.heap) (gl : s₁.heap.Ns mainGlobals mg) (bl : s₁.heap.Ns builtinsNs mb) (bb : ∀ y : Str, y ≠ "__name__" → mb y = bootBuiltins y) (nl : s₁.heap.NoLimit) (g0 : s₁.gens = #[])
    (at_ : s₁.heap.get? a = some { cls := .type "list", data := .seq vs.toArray }) (room : Room k callerA) (bind : ∀ (s : Shared) (u : Value), BindsTo s fd ⟨[u], []⟩ [(x, u)])
    (F : ∀ base : Heap, K.In base → base.Ns mainGlobals mg → FnG P w K mg base CX0 k fa fd [x] sp) {H : Hp} (only : Only H) (ok : HOk P w H s₁.heap) (alone : ∀ b, H b ≠ none → b = a) (notK : H a ≠ none → K.lookup a = none)
    (want : sp [.ref a] H (fun v _ => v = .bl true) fun _ _ _ => False) :
    codeAny (model P w) callerA (.call (.ref fa) ⟨[.ref a], []⟩) (fun r s' => r = .ok (.ret (.bool true)) ∧ OldK s₁.heap s'.heap ∧ s'.os = s₁.os ∧ AllBare s'.gens) s₁ := by
  have free : ∀ {b : Addr} {o : Obj}, s₁.heap.get? b = some o → (∀ it n, o.data ≠ .seq it n) → H b = none := fun {b o} z nd => by
    cases q : H b with
    | none => rfl
    | some u =>
      obtain rfl := alone b (by rw [q]; exact fun y => nomatch y)
      rw [at_] at z
      cases z
      exact absurd rfl (nd vs.toArray _)
  have nsOf : ∀ {b : Addr} {m : Str → Option Value}, s₁.heap.Ns b m → (hidT s₁.heap H).Ns b m := fun {b m} ⟨o, es, ep, z, d, r⟩ =>
    ⟨o, es, ep, hidT_get z (free z fun it n y => by rw [d] at y; exact nomatch y), d, r⟩
  have inB : K.In (hidT s₁.heap H) := fun b o z => by
    refine hidT_get (KX b o z) ?_
    cases q : H b with
    | none => rfl
    | some u =>
      obtain rfl := alone b (by rw [q]; exact fun y => nomatch y)
      rw [notK (by rw [q]; exact fun y => nomatch y)] at z
      cases z
  have md : Mod K mg (hidT s₁.heap H) := ⟨inB, nsOf gl, ⟨mb, nsOf bl, bb⟩, let ⟨mc, y1, y2⟩ := nl; ⟨mc, nsOf y1, y2⟩⟩
  have en : Env0 P w K mg (hidT s₁.heap H) callerA [] s₁ H := ⟨rfl, md, fun b o z => of_hidT z, Nat.le_of_eq (hidT_size _ _), trivial, fun b z => absurd (show b ∈ ([] : List Addr) from z) (List.not_mem_nil), ok, .of_eq g0⟩
  refine codeAny_mono ((F _ inB (nsOf gl)).run callerA [] s₁ H ⟨[.ref a], []⟩ [.ref a] [.ref a] _ _ room rfl en (bind s₁ (.ref a)) (.cons rfl .nil) want) fun r s' h => ?_
  cases r with
  | error e => exact False.elim h
  | ok fl =>
    cases fl with
    | next => exact False.elim h
    | brk => exact False.elim h
    | cont => exact False.elim h
    | ret u =>
      obtain ⟨v, G, e1, e2, un, okG, rel, q⟩ := h
      obtain rfl : v = V.bl true := q
      obtain rfl : u = Value.bool true := rel
      refine ⟨rfl, OldK.of_keep fun b o z => ?_, e1, e2⟩
      cases q : H b with
      | none => exact un.keep b o z q (fun y => nomatch y) (fun y => nomatch y)
      | some u =>
        rcases only b with y | ⟨ob, xs, y⟩
        · rw [q] at y
          cases y
        · have z1 := (ok b _ y).1
          have z2 := (okG b _ (un.frzs b ob _ y)).1
          rw [z] at z1
          cases z1
          exact z2

theorem enter_all (KX : K.In s₁.heap) (gl : s₁.heap.Ns mainGlobals mg) (bl : s₁.heap.Ns builtinsNs mb) (bb : ∀ y : Str, y ≠ "__name__" → mb y = bootBuiltins y) (nl : s₁.heap.NoLimit) (g0 : s₁.gens = #[])
    (at_ : s₁.heap.get? a = some { cls := .type "list", data := .seq vs.toArray }) (ia : IntsAre vs ns) (small : ns.length ≤ sizeLine) (room : Room k callerA) (bind : ∀ (s : Shared) (u : Value), BindsTo s fd ⟨[u], []⟩ [(x, u)])
    (F : ∀ base : Heap, K.In base → base.Ns mainGlobals mg → FnG P w K mg base CX0 k fa fd [x] sp) (want : ∀ H : Hp, Only H → SqL K H a (ns.map V.int) → sp [.ref a] H (fun v _ => v = .bl true) fun _ _ _ => False) :
    codeAny (model P w) callerA (.call (.ref fa) ⟨[.ref a], []⟩) (fun r s' => r = .ok (.ret (.bool true)) ∧ OldK s₁.heap s'.heap ∧ s'.os = s₁.os ∧ AllBare s'.gens) s₁ := by
  have rel := vals_ints ia
  cases hk : K.lookup a with
  | some o =>
    have z := KX a o hk
    rw [at_] at z
    cases z
    have only : Only (fun _ => none) := fun _ => .inl rfl
    have len := ia.length
    exact enter KX gl bl bb nl g0 at_ room bind F only (fun b u z => by cases z) (fun b z => absurd rfl z) (fun z => absurd rfl z)
      (want _ only (.inr ⟨_, vs.toArray, _, hk, rfl, rfl, rfl, by rw [List.size_toArray, len]; exact small, by simpa using rel⟩))
  | none =>
    let ob : Obj := { cls := .type "list", data := .seq vs.toArray }
    let H : Hp := fun b => if b = a then some (.frz ob (.lst (ns.map V.int))) else none
    have hit : H a = some (.frz ob (.lst (ns.map V.int))) := if_pos rfl
    have one : ∀ b, H b ≠ none → b = a := fun b z => by
      by_cases e : b = a
      · exact e
      · exact absurd (if_neg e) z
    have only : Only H := fun b => by
      by_cases e : b = a
      · exact .inr ⟨ob, ns.map V.int, if_pos e⟩
      · exact .inl (if_neg e)
    refine enter KX gl bl bb nl g0 at_ room bind F only (fun b u z => ?_) one (fun _ => hk) (want H only (.inl (.inr ⟨ob, hit⟩)))
    obtain rfl := one b (by rw [z]; exact fun y => nomatch y)
    rw [hit] at z
    cases z
    exact ⟨at_, by rw [List.length_map]; exact small, vs, _, rel, at_⟩
end
/-- what k_head leaves, from the law's promise -/
theorem walkG {l : PySem.W.OpenLaw} {n k : Nat} {q : Program} {loose : List Str} {XP : (Str → Option Value) → Heap → Prop} {YP : World → Heap → Prop} {d : DefRec} {K : Params → PySem.W.Frag} {sp : PySem.W.Frag → Sp} {x : Str}
    (hn : l.most = some n) (hz : n ≤ sizeLine) (hdf : d.params.defaults = []) (room : Room k callerA) (hY : ∀ (w : World) (h : Heap), YP w h → (K w.params).In h)
    (F : ∀ (w : World) (mg : Str → Option Value) (fa : Addr) (h : Heap), (K w.params).In h → h.Ns mainGlobals mg → mg d.name = some (.ref fa) →
      ∃ fd : FuncData, (∀ (s : Shared) (u : Value), BindsTo s fd ⟨[u], []⟩ [(x, u)]) ∧ ∀ base : Heap, (K w.params).In base → base.Ns mainGlobals mg → FnG l.prog w (K w.params) mg base CX0 k fa fd [x] (sp (K w.params)))
    (want : ∀ (K : PySem.W.Frag) (H : Hp) (a : Addr) (ns : List Int), ns.length ≤ n → Only H → SqL K H a (ns.map V.int) → sp K [.ref a] H (fun v _ => v = .bl true) fun _ _ _ => False) :
    PySem.W.WalkO q loose XP YP l.row.toRowW d [] (fun f vs => PySem.call f vs) := by
  refine Att.attach_call hn hdf fun w s0 s1 mg mb fa o pm cd doc a vs ns G Y ho hd hcd hmg hobj ia len g0 => ?_
  obtain ⟨fd, bi, FF⟩ := F w mg fa _ (hY w _ Y) G.T.g hmg
  exact enter_all (hY w _ Y) G.T.g G.T.b G.T.builtins G.T.nolimit g0 hobj ia (Nat.le_trans len hz) room bi FF fun H only hs => want _ H a ns len only hs
end LG
-- EX
/-! errors of own classes whose __init__ tells the class's name: C.__name__, e.__class__, isinstance, the whole of a raise -/
namespace LX
open PySem PySem.W PySem.Calls PyProof.Rows Builtin Builtin.ObjectAttr Builtin.Getset_descriptor
section
variable {prog : Program} {w : World} {A : Around} {E : Value → Shared → Prop} {s : Shared} {K : Frag} {R : Result → Shared → Prop} {C : Addr}
/-- the name that a class keeps in its slots -/
theorem kept_name {tp v : Value} {o : Obj} (X : K.In s.heap) (tC : typeIn K (.ref C) = some (.type "type")) (ho : K.lookup C = some o) (hs : o.slots[2]? = some (some v)) (h : R (.ok (.ret v)) s) :
    codeAny (model prog w) A (.call (.builtin "getset_descriptor.__get__") ⟨[.builtin "type.__name__", .ref C, tp], []⟩) R s := by
  obtain ⟨hp, g, dr, tk, os⟩ := s
  have isTy : Looks (model prog w) hp (typeOf (.ref C)) (.type "type") := looks_typeIn X tC
  have same : Looks (model prog w) hp (isSubtype (.type "type") (.type "type")) true := .of_pure (by rw [isSubtype_type]; kernel_rfl)
  refine codeAny_call_builtin KF.slot_gs.plain KF.entry_gs (KF.slot_gs.check _ _ _ _ _ _ _ _ ktyn_type (KF.args_gs _ _ _) ?_)
  unfold Builtin.«getset_descriptor.__get__» descrGet
  rw [show descrGetArgs ⟨[.builtin "type.__name__", .ref C, tp], []⟩ = pure (.builtin "type.__name__", some (.ref C), given tp) by kernel_rfl]
  refine wpAny_bind (wpAny_pure ?_); unfold descrGetter descrCheckInstance descrNameAndClass isInstance
  simp only [ktyn_owner]; repeat lk
  refine ⟨Code.quiet_builtin _ (by decide +kernel), codeAny_builtin ktyn_entry ?_⟩
  unfold Builtin.«type.__name__» keptObject slotAt; dsimp only
  refine wpAny_bind (wpAny_bind (wpAny_loadPart_at (X _ _ ho) (wpAny_pure ?_))); rw [hs]
  exact wpAny_pure h
theorem name_of_class {v : Value} {o : Obj} {ex : Bool} {Q : Value → Shared → Prop} (X : K.In s.heap) (hr : readsIn K C (.type "type") = true)
    (e : findCls K (.ref C) (.type "type") "__name__" = some (.get (.builtin "getset_descriptor.__get__") (.builtin "type.__name__") (.ref C) (.type "type")))
    (tC : typeIn K (.ref C) = some (.type "type")) (ho : K.lookup C = some o) (hs : o.slots[2]? = some (some v)) (hv : handedIn v = true) (h : Q v { s with toks := s.toks + 1 }) :
    wpAny (model prog w) A (getAttr (.ref C) "__name__" ex) Q E s := cls_bind X hr e (wpAny_call (kept_name (s := { s with toks := s.toks + 1 }) X tC ho hs (handed_on hv h)))
/-- what the written part says of an own error class -/
structure Own (K : Frag) (D : Addr) : Prop where
  cl : (clsIn K D).isSome = true
  ga : findIn K (.ref D) "__getattribute__" = some (some (.builtin "BaseException.__getattribute__"))
  gt : findIn K (.ref D) "__getattr__" = some none
  sub : subIn K (.ref D) (.type "BaseException") = some true
  at_ : findIn K (.ref D) "__class__" = some (some (.builtin "object.__class__"))
  sp : specialIn K (.builtin "object.__class__") "__get__" = some (some (.builtin "getset_descriptor.__get__"))
  tk : takesIn K (.builtin "object.__class__") = some true
  mro : mroIn K D (.type "object") = some true
theorem class_of_error {x D : Addr} {ox : Obj} {od : Option Obj} {ex : Bool} {Q : Value → Shared → Prop} (T : Own K D) (X : K.In s.heap) (I : InstAt s.heap x ox D od) (h : Q (.ref D) { s with toks := s.toks + 1 }) :
    wpAny (model prog w) A (getAttr (.ref x) "__class__" ex) Q E s := by
  have hf : findObj K D od "__class__" = some (.bind (.builtin "getset_descriptor.__get__") (.builtin "object.__class__")) := findObj_dataE T.cl T.at_ T.sp T.tk
  obtain ⟨hp, g, d, t, os⟩ := s
  have l0 := I.type (M := model prog w); have l1 := looks_findIn (M := model prog w) X T.ga
  have l2 := looks_findIn (M := model prog w) X T.gt; have l3 := looks_find (M := model prog w) X I hf
  have isE : Looks (model prog w) hp (isInstance (.ref x) (.type "BaseException")) true := l0.andThen (looks_subIn X T.sub)
  have n2 : (Value.builtin "BaseException.__getattribute__" == Value.builtin "object.__getattribute__") = false := by decide +kernel
  unfold getAttr getAttrBy
  refine wpAny_bind (wpAny_mkText (wpAny_holding (wpAny_bind (l0.at (wpAny_bind (l1.at ?_))))))
  show wpAny _ _ (if (onTheHeap (Value.ref D) && Value.builtin "BaseException.__getattribute__" == Value.builtin "object.__getattribute__") = true then _ else _) _ _ _; rw [n2, Bool.and_false, if_neg Bool.false_ne_true]
  unfold getAttrByItsOwn hookBefore; refine wpAny_bind ?_; rw [if_pos (show onTheHeap (Value.ref D) = true from rfl)]
  refine l2.at (wpAny_bind (wpAny_attempt (wpAny_holding ?_)))
  unfold callGetattribute boundAndCalled; rw [show (ex && onTheHeap (Value.builtin "BaseException.__getattribute__")) = false by cases ex <;> rfl, if_neg Bool.false_ne_true, PySem.F.excAttr_ValueError.ga.bind (.ref x)]
  refine wpAny_bind (wpAny_pure ?_); show wpAny _ _ (call (.builtin "BaseException.__getattribute__") [.ref x, .str "__class__" t]) _ _ _
  refine wpAny_call (codeAny_call_builtin PySem.F.excAttr_ValueError.ga.plain PySem.F.entry_bexc_ga (@PySem.W.check_slot (model prog w) _ _ ⟨hp, g, d, t + 1, os⟩ "BaseException.__getattribute__" "BaseException" "__getattribute__" (.ref x) [.str "__class__" t] [] _ (by decide +kernel) (by decide +kernel) isE (PySem.F.args_bexc_ga (.ref x) (.str "__class__" t)) ?_))
  unfold Builtin.«object.__getattribute__»; refine wpAny_bind (wpAny_of_eq (a := ((Value.ref x : Value), [Value.str "__class__" t])) (by first | rfl | (simp only [slotArgs]; rfl)) ?_)
  refine wpAny_bind (wpAny_pure (wpAny_bind (l0.at (wpAny_bind (l3.at (wpAny_bind (wpAny_holding (wpAny_call (class_get (s := ⟨hp, g, d, t + 1, os⟩) (ox := ox) (od := od) X I T.mro ?_)))))))))
  refine wpAny_pure ?_; show wpAny _ _ (handedOut (.ref D)) _ _ _; rw [handedOut_of (v := .ref D) rfl]
  first | exact wpAny_pure h | exact wpAny_pure (wpAny_pure h)
end
end LX
namespace LX
open PySem PySem.Spec PyProof.Rows L2
/-- .. and of its kept name -/
structure Named (K : PySem.W.Frag) (D : Addr) (nm : Str) : Prop where
  own : Own K D
  rd : PySem.W.readsIn K D (.type "type") = true
  fc : PySem.W.findCls K (.ref D) (.type "type") "__name__" = some (.get (.builtin "getset_descriptor.__get__") (.builtin "type.__name__") (.ref D) (.type "type"))
  ty : PySem.W.typeIn K (.ref D) = some (.type "type")
  lk : ∃ (o : Obj) (t : Tok), K.lookup D = some o ∧ o.slots[2]? = some (some (.str nm t))
  sz : nm.length ≤ 1000
def tCn (K : PySem.W.Frag) (te : TE) : TE := fun σ H Q => te σ H fun x H1 => ∃ (a D : Addr) (nm : Str), x = .ref a ∧ H1 a = some (exo a D none) ∧ Named K D nm ∧ Q (.str nm) H1
/-- self.__class__.__name__ -/
theorem pe_cn {X : Cx} {e : Expr} {te : TE} {p1 p2 : Pos} (he : PE X e te) (hb : attributeBase e "__class__" X.env (eval e X.env) = eval e X.env := by rfl)
    (hb2 : attributeBase (.Attribute e "__class__" p1) "__name__" X.env (eval (.Attribute e "__class__" p1) X.env) = eval (.Attribute e "__class__" p1) X.env := by rfl) : PE X (.Attribute (.Attribute e "__class__" p1) "__name__" p2) (tCn X.K te) := by
  refine ⟨fun pins s σ H Q I h => attr_of hb2 (attr_of hb (thn (he.run pins s σ H _ I h) fun u s1 hh => ?_))⟩
  obtain ⟨x, H1, J, rx, a, D, nm, rfl, ea, T, q⟩ := hh
  obtain rfl : u = Value.ref a := rx
  obtain ⟨t1, hg⟩ := exo_at J.hok ea
  obtain ⟨o, tk, hlk, hsl⟩ := T.lk
  refine class_of_error (od := none) T.own J.kIn ⟨hg, rfl, rfl, True.intro⟩ ?_
  exact name_of_class (s := { s1 with toks := s1.toks + 1 }) J.kIn T.rd T.fc T.ty hlk hsl rfl ⟨.str nm, H1, (J.tok _).tok _, ⟨tk, rfl⟩, q⟩
/-- isinstance(e, c) of a caught error that has fields -/
def rIsD (K : PySem.W.Frag) (D a dd : Addr) : List V → Hp → VK → Prop := fun xs H Q => ∃ (c : V) (cv : Value) (b : Bool) (fs : List (Str × V)), xs = [.ref a, c] ∧ ClsV c cv ∧ H dd = some (.xd fs) ∧ PySem.W.kitOne K (.ref D) cv = some b ∧ Q (.bl b) H
theorem call_isD {X : Cx} {a D dd : Addr} {oe : Obj} {pn : List (Addr × Obj)} (T : Own X.K D) (hz : Zc (.ref D) (some dd) oe) (hf : ∃ vs, oe.data = .fields vs) : CallR (X.suite a ((a, oe) :: pn)) (.builtin "isinstance") (rIsD X.K D a dd) := by
  intro pins s σ H xs us Q I r h
  obtain ⟨c, cv, b, fs, rfl, hcv, hdd, e, q⟩ := h
  obtain ⟨u1, u2, rfl, r1, r2⟩ := vals2 r
  obtain rfl : u1 = Value.ref a := r1
  have ec := hcv.eq r2
  subst ec
  obtain ⟨hget, _⟩ := I.pin (a, oe) (List.mem_append_left _ List.mem_cons_self)
  obtain ⟨vs, hv⟩ := hf
  have hx : ObjOk X.prog X.w H s.heap dd (.xd fs) := I.hok dd _ hdd
  obtain ⟨mA, hns, _⟩ := hx
  obtain ⟨od, ho, _⟩ := lookIn_ns hns
  have J : PySem.W.InstAt s.heap a oe D (some od) := ⟨hget, hz.1, by unfold PySem.W.notCls; rw [hv] <;> rfl, by rw [hz.2]; exact ho⟩
  exact PySem.W.kia_one (PySem.W.kitx_exc T.cl T.ga T.gt T.sub T.at_ T.sp T.tk T.mro) I.kIn J e (fun z => nomatch z) fun tk => ⟨.bl b, H, I.tok tk, rfl, q⟩
end LX
-- EY
/-! further generic texts: // by a divisor of any sign, isinstance of a caught error whose class is told by the reading, the facts of an own error class that keeps a number -/
namespace LX
open PySem PySem.Spec PyProof.Rows L2
def CDivWN (_ j : Int) : Prop := j ≠ 0 ∧ j.natAbs.log2 < 9000
section
variable {X : Cx}
theorem op_fdivWN : OpR X (binaryOp .FloorDiv) (rI CDivWN fun i j => .int (i.fdiv j)) := opI fun _ _ _ _ _ _ _ hc q => floordiv_int hc.1 q (.inl (PyProof.noPylong_of_log2 hc.2))
end
def rIsX (K : PySem.W.Frag) (a : Addr) (cls : Value) (d : Option Addr) : List V → Hp → VK → Prop := fun xs H Q => ∃ (D dd : Addr) (c : V) (cv : Value) (b : Bool) (fs : List (Str × V)), cls = .ref D ∧ d = some dd ∧ Own K D ∧ xs = [.ref a, c] ∧ ClsV c cv ∧
  H dd = some (.xd fs) ∧ PySem.W.kitOne K (.ref D) cv = some b ∧ Q (.bl b) H
theorem call_isX {X : Cx} {a : Addr} {cls : Value} {d : Option Addr} {oe : Obj} {pn : List (Addr × Obj)} (hz : Zc cls d oe) (hf : ∃ vs, oe.data = .fields vs) : CallR (X.suite a ((a, oe) :: pn)) (.builtin "isinstance") (rIsX X.K a cls d) := by
  intro pins s σ H xs us Q I r h
  obtain ⟨D, dd, c, cv, b, fs, rfl, rfl, T, ex, hcv, hdd, e, q⟩ := h
  exact call_isD T hz hf pins s σ H xs us Q I r ⟨c, cv, b, fs, ex, hcv, hdd, e, q⟩
theorem text_len {i : Int} {k : Nat} (hk : 0 < k) (h : i.natAbs < 10 ^ k) : (Str.ofString (toString i)).length ≤ k + 1 := by
  have e := PySem.int_text_length_le10 hk h
  rw [PyProof.Rows.ofString_length]
  exact e
theorem bits_le {i : Int} {k : Nat} (h : i.natAbs < 2 ^ k) : Builtin.Int.intBits i ≤ k := PyProof.Rows.intBits_le h
/-- the base of the text's errors -/
structure Err0 (K : PySem.W.Frag) (mg : Str → Option Value) (st : Stmt) where
  CM : Addr
  f : Addr
  fd : FuncData
  F : Fun K "__init__" "ModelError.__init__" st f fd
  b : Binds K fd ["self", "at"] []
  tI : PySem.W.typeIn K (.ref f) = some (.type "function")
  gM : mg "ModelError" = some (.ref CM)
  mV : mg "ValueError" = none
  vV : PySem.W.findCls K (.type "ValueError") (.type "type") "__init__" = some (.val (.builtin "ValueError.__init__"))
/-- one of them -/
structure ErrC (K : PySem.W.Frag) (mg : Str → Option Value) (x : Str) (CM f : Addr) where
  C : Addr
  nm : Str
  named : Named K C nm
  oex : OexC K C
  noAt : PySem.W.findIn K (.ref C) "at" = some none
  iC : PySem.W.findIn K (.ref C) "__init__" = some (some (.ref f))
  g : mg x = some (.ref C)
  exm : PySem.W.exmOne K (.ref C) (.ref CM) = some true
  kit : PySem.W.kitOne K (.ref C) (.ref C) = some true
  xf : XfC K C
/-- an error of the class at C is taken by a clause for the class at S above it -/
theorem exm_is {K : PySem.W.Frag} {S C : Addr} (h1 : PySem.W.subIn K (.ref S) (.type "BaseException") = some true) (h2 : PySem.W.isClsIn K S = true) (h3 : PySem.W.typeIn K (.ref S) = some (.type "type")) (h4 : PySem.W.subIn K (.ref C) (.ref S) = some true) :
    PySem.W.exmOne K (.ref C) (.ref S) = some true := by
  have a : ((PySem.W.clsIn K S).isSome && PySem.W.typeIn K (.ref S) == some (.type "type")) = true := by
    rw [show (PySem.W.clsIn K S).isSome = true from h2, h3]; rfl
  unfold PySem.W.exmOne
  rw [h1, if_pos (by rfl)]
  show (if ((PySem.W.clsIn K S).isSome && PySem.W.typeIn K (.ref S) == some (.type "type")) = true then PySem.W.subIn K (.ref C) (.ref S) else none) = some true
  rw [if_pos a, h4]
theorem refs_one (c : Addr) : PySem.HandSPX.refsVE [.ref c, .type "ValueError", .type "Exception", .type "BaseException", .type "object"] = true := by
  show PySem.HandSPX.refsVE PySem.HandSPX.veTail = true
  decide +kernel
theorem kit_self (K : PySem.W.Frag) (C : Addr) : PySem.W.kitOne K (.ref C) (.ref C) = some true := by
  unfold PySem.W.kitOne
  rw [if_pos (by simp)]
/-- a and b as a value, where b changes nothing and its answer is known -/
def tAndP (ta tb : TE) : TE := fun σ H Q => ta σ H fun x H1 => ∃ c r, x = .bl c ∧ (c = true → ∀ Q' : VK, Q' (.bl r) H1 → tb σ H1 Q') ∧ Q (.bl (c && r)) H1
theorem pe_andP {X : Cx} {a b : Expr} {rest : List Expr} {ta tb : TE} {pos : Pos} (ha : PE X a ta) (hb : PE X (.BoolOp .And (b :: rest) pos) tb) : PE X (.BoolOp .And (a :: b :: rest) pos) (tAndP ta tb) := by
  refine ⟨fun pins s σ H Q I h => ?_⟩
  refine BoolOp_and (thn (ha.run pins s σ H _ I h) fun v s1 ⟨x, H1, I1, r1, q1⟩ => ?_)
  obtain ⟨c, r, rfl, hA, q⟩ := q1
  cases r1
  refine wpAny_truthy_bool ?_
  cases c with
  | true => exact hb.run pins s1 σ H1 Q I1 (hA rfl Q q)
  | false => exact ⟨.bl false, H1, I1, rfl, q⟩
/-- an error is let go that stood above H -/
theorem upd_back {H : Hp} {a d : Addr} {o1 o2 o3 x : HO} (ha : H a = none) (hd : d ≠ a) : upd (del (upd (upd (upd H a o1) d o2) a o3) a) d x = upd H d x := by
  funext b
  by_cases h1 : b = d
  · rw [h1, upd_same, upd_same]
  · rw [upd_ne h1, upd_ne h1]
    by_cases h2 : b = a
    · rw [h2, del_same, ha]
    · rw [del_ne h2, upd_ne h2, upd_ne h1, upd_ne h2]
/-- __init__ of the text's errors, at an error of the class C -/
def sp_init (K : PySem.W.Frag) : Sp := fun vs H Q _ => ∃ (e C : Addr) (nm : Str) (i : Int), vs = [.ref e, .int i] ∧ H e = some (exo e C none) ∧ Named K C nm ∧ OexC K C ∧ PySem.W.findIn K (.ref C) "at" = some none ∧ i.natAbs < 10 ^ 12 ∧
  ∀ d, H d = none → d ≠ e → Q .non (upd (upd H d (exd d [("at", .int i)])) e (exo e C (some d)))
/-- what a raise asks when the class's __init__ is as above -/
theorem raised {K : PySem.W.Frag} {mg : Str → Option Value} {x : Str} {CM f : Addr} (T : ErrC K mg x CM f) {H : Hp} {n : Int} {E : XK} (hn : n.natAbs < 10 ^ 12) (q : ∀ d, H d = none → E (.ref T.C) (some d) (upd H d (.xd [("at", .int n)]))) (a : Addr) (ha : H a = none) :
    sp_init K (.ref a :: ([.int n] ++ [])) (upd H a (exo a T.C none)) (fun v H2 => v = .non ∧ ∃ (d : Addr) (fs : List (Str × V)), H2 a = some (exo a T.C (some d)) ∧ H2 d = some (exd d fs) ∧ H d = none ∧ E (.ref T.C) (some d) (upd (del H2 a) d (.xd fs))) (fun _ _ _ => False) := by
  refine ⟨a, T.C, T.nm, n, rfl, upd_same, T.named, T.oex, T.noAt, hn, fun d hd ne => ⟨rfl, d, [("at", .int n)], upd_same, ?_, ?_, ?_⟩⟩
  · rw [upd_ne ne]; exact upd_same
  · rw [upd_ne ne] at hd; exact hd
  · rw [upd_ne ne] at hd
    rw [upd_back ha ne]
    exact q d hd
end LX
-- KMath
/-! plain mathematics of lists of integers that stand for polynomials -/
namespace K00
abbrev cf (ns : List Int) (m : Nat) : Int := ns.getD m 0
theorem cf_lt {ns : List Int} {m : Nat} (h : m < ns.length) : cf ns m = ns[m] := by simp [cf, List.getD_eq_getElem?_getD, h]
theorem cf_ge {ns : List Int} {m : Nat} (h : ns.length ≤ m) : cf ns m = 0 := by simp [cf, List.getD_eq_getElem?_getD, List.getElem?_eq_none h]
theorem cf_some {ns : List Int} {m : Nat} {x : Int} (h : ns[m]? = some x) : cf ns m = x := by simp [cf, List.getD_eq_getElem?_getD, h]
theorem at_cf {ns : List Int} {m : Nat} (h : m < ns.length) : ns[m]? = some (cf ns m) := by rw [cf_lt h, List.getElem?_eq_getElem h]
theorem cf_cons_succ (a : Int) (r : List Int) (m : Nat) : cf (a :: r) (m + 1) = cf r m := by simp [cf]
theorem cf_cons_zero (a : Int) (r : List Int) : cf (a :: r) 0 = a := by simp [cf]

def trim : List Int → List Int
  | [] => []
  | a :: r => if trim r = [] ∧ a = 0 then [] else a :: trim r
/-- without a nought at the end -/
def Can (ns : List Int) : Prop := ns = [] ∨ cf ns (ns.length - 1) ≠ 0
instance (ns : List Int) : Decidable (Can ns) := by unfold Can; infer_instance

theorem cf_trim : ∀ (ns : List Int) (m : Nat), cf (trim ns) m = cf ns m
  | [], _ => rfl
  | a :: r, m => by
    unfold trim
    split
    · rename_i h
      have ih := cf_trim r
      rw [h.1] at ih
      cases m with
      | zero => rw [cf_cons_zero, h.2]; rfl
      | succ m => rw [cf_cons_succ, ← ih m]; rfl
    · cases m with
      | zero => rfl
      | succ m => rw [cf_cons_succ, cf_cons_succ, cf_trim r m]
theorem can_trim : ∀ ns : List Int, Can (trim ns)
  | [] => .inl rfl
  | a :: r => by
    unfold trim
    split
    · exact .inl rfl
    · rename_i h
      right
      rcases can_trim r with e | e
      · rw [e] at h ⊢
        have ha : a ≠ 0 := fun z => h ⟨rfl, z⟩
        simpa [cf] using ha
      · have hl : (trim r).length ≠ 0 := by
          intro z
          have z' : trim r = [] := List.length_eq_zero_iff.mp z
          rw [z'] at e
          exact e rfl
        show cf (a :: trim r) ((trim r).length + 1 - 1) ≠ 0
        have e2 : (trim r).length + 1 - 1 = ((trim r).length - 1) + 1 := by omega
        rw [e2, cf_cons_succ]
        exact e
theorem trim_len : ∀ ns : List Int, (trim ns).length ≤ ns.length
  | [] => Nat.le_refl _
  | a :: r => by
    unfold trim
    have := trim_len r
    split
    · exact Nat.zero_le _
    · simp only [List.length_cons]; omega
theorem len_le_of {a b : List Int} (ha : Can a) (h : ∀ m, cf a m = cf b m) : a.length ≤ b.length := by
  rcases ha with e | e
  · rw [e]; exact Nat.zero_le _
  · rcases Nat.lt_or_ge b.length a.length with q | q
    · exfalso
      apply e
      rw [h, cf_ge (by omega)]
    · exact q
theorem can_ext {a b : List Int} (ha : Can a) (hb : Can b) (h : ∀ m, cf a m = cf b m) : a = b := by
  have h1 := len_le_of ha h
  have h2 := len_le_of hb (fun m => (h m).symm)
  have hl : a.length = b.length := by omega
  refine List.ext_getElem hl fun m h3 h4 => ?_
  rw [← cf_lt h3, ← cf_lt h4, h m]
theorem trim_can {a : List Int} (h : Can a) : trim a = a := can_ext (can_trim a) h (cf_trim a)
theorem can_iff {a : List Int} : Can a ↔ trim a = a := ⟨trim_can, fun h => h ▸ can_trim a⟩
theorem trim_eq {a b : List Int} (h : ∀ m, cf a m = cf b m) : trim a = trim b := can_ext (can_trim a) (can_trim b) fun m => by rw [cf_trim, cf_trim, h]
theorem cf_take {ns : List Int} {L m : Nat} : cf (ns.take L) m = if m < L then cf ns m else 0 := by
  unfold cf
  rw [List.getD_eq_getElem?_getD, List.getD_eq_getElem?_getD, List.getElem?_take]
  split <;> rfl
theorem take_trim {ns : List Int} {L : Nat} (hL : L ≤ ns.length) (h0 : ∀ m, L ≤ m → cf ns m = 0) (h1 : L = 0 ∨ cf ns (L - 1) ≠ 0) : ns.take L = trim ns := by
  refine can_ext ?_ (can_trim ns) fun m => ?_
  · rcases h1 with e | e
    · exact .inl (by rw [e]; rfl)
    · have hp : 0 < L := by
        rcases Nat.eq_zero_or_pos L with z | z
        · subst z
          exfalso
          exact e (h0 _ (Nat.zero_le _))
        · exact z
      refine .inr ?_
      rw [List.length_take, Nat.min_eq_left hL, cf_take, if_pos (by omega)]
      exact e
  · rw [cf_trim, cf_take]
    split
    · rfl
    · rename_i q
      exact (h0 m (by omega)).symm

/-! sums -/
def padd (a b : List Int) : List Int := trim ((List.range (max a.length b.length)).map fun m => cf a m + cf b m)
theorem cf_map_range {n : Nat} {f : Nat → Int} {m : Nat} : cf ((List.range n).map f) m = if m < n then f m else 0 := by
  by_cases h : m < n
  · rw [if_pos h, cf_lt (by simpa using h)]
    simp
  · rw [if_neg h, cf_ge (by simpa using Nat.le_of_not_lt h)]
theorem cf_padd (a b : List Int) (m : Nat) : cf (padd a b) m = cf a m + cf b m := by
  unfold padd
  rw [cf_trim, cf_map_range]
  split
  · rfl
  · rename_i h
    rw [cf_ge (show a.length ≤ m by omega), cf_ge (show b.length ≤ m by omega)]
    rfl
theorem can_padd (a b : List Int) : Can (padd a b) := can_trim _
theorem padd_of {a b t : List Int} (h : ∀ m, cf t m = cf a m + cf b m) : trim t = padd a b := can_ext (can_trim _) (can_padd a b) fun m => by rw [cf_trim, cf_padd, h]
theorem padd_nil (a : List Int) : padd a [] = trim a := (padd_of (t := a) fun m => by show cf a m = cf a m + 0; omega).symm
theorem padd_len (a b : List Int) : (padd a b).length ≤ max a.length b.length := by
  unfold padd
  refine Nat.le_trans (trim_len _) ?_
  simp

/-! products -/
def conv (a b : List Int) : Nat → Nat → Int
  | 0, _ => 0
  | n + 1, m => conv a b n m + cf a n * (if n ≤ m then cf b (m - n) else 0)
theorem conv_out {a b : List Int} : ∀ {n m : Nat}, a.length + b.length ≤ m + 1 → n ≤ a.length → conv a b n m = 0
  | 0, _, _, _ => rfl
  | n + 1, m, h, hn => by
    unfold conv
    rw [conv_out h (by omega)]
    split
    · rw [cf_ge (show b.length ≤ m - n by omega)]; simp
    · simp
def pmul (a b : List Int) : List Int := trim ((List.range (a.length + b.length)).map fun m => conv a b a.length m)
theorem cf_pmul (a b : List Int) (m : Nat) : cf (pmul a b) m = conv a b a.length m := by
  unfold pmul
  rw [cf_trim, cf_map_range]
  split
  · rfl
  · rename_i h
    exact (conv_out (by omega) (Nat.le_refl _)).symm
theorem can_pmul (a b : List Int) : Can (pmul a b) := can_trim _
theorem pmul_of {a b t : List Int} (h : ∀ m, cf t m = conv a b a.length m) : trim t = pmul a b := can_ext (can_trim _) (can_pmul a b) fun m => by rw [cf_trim, cf_pmul, h]
theorem cf_shift {k : Nat} {r : List Int} {m : Nat} : cf (List.replicate k 0 ++ r) m = if k ≤ m then cf r (m - k) else 0 := by
  unfold cf
  rw [List.getD_eq_getElem?_getD, List.getD_eq_getElem?_getD]
  by_cases h : k ≤ m
  · rw [if_pos h, List.getElem?_append_right (by simpa using h)]
    simp
  · rw [if_neg h, List.getElem?_append_left (by simp; omega)]
    simp [List.getElem?_replicate, show m < k by omega]
theorem cf_scale {c : Int} {r : List Int} {m : Nat} : cf (r.map (c * ·)) m = c * cf r m := by
  unfold cf
  rw [List.getD_eq_getElem?_getD, List.getD_eq_getElem?_getD, List.getElem?_map]
  cases r[m]? <;> simp
/-- one turn of the reckoning by shifted multiples -/
theorem conv_turn {a b t : List Int} {n : Nat} (ht : ∀ m, cf t m = conv a b n m) (m : Nat) : cf (padd t (List.replicate n 0 ++ if cf a n ≠ 0 then b.map (cf a n * ·) else [])) m = conv a b (n + 1) m := by
  rw [cf_padd, ht, cf_shift]
  show _ = conv a b n m + cf a n * (if n ≤ m then cf b (m - n) else 0)
  by_cases q : n ≤ m
  · rw [if_pos q, if_pos q]
    by_cases h : cf a n = 0
    · rw [if_neg (fun z => z h), h]; simp [cf]
    · rw [if_pos h, cf_scale]
  · rw [if_neg q, if_neg q]; simp

/-! values -/
def pval (x : Int) : List Int → Int
  | [] => 0
  | a :: r => pval x r * x + a
theorem pval_last (x : Int) : ∀ (ns : List Int) (i : Nat), i < ns.length → pval x (ns.drop (ns.length - (i + 1))) = pval x (ns.drop (ns.length - i)) * x + cf ns (ns.length - 1 - i) := fun ns i h => by
  have e : ns.length - (i + 1) < ns.length := by omega
  rw [List.drop_eq_getElem_cons e]
  have e2 : ns.length - (i + 1) + 1 = ns.length - i := by omega
  rw [e2]
  show pval x (ns.drop (ns.length - i)) * x + _ = _
  rw [← cf_lt e]
  congr 2
  omega
theorem pow_bound {x : Int} (hx : x.natAbs ≤ 1000) : ∀ i : Nat, (x ^ i).natAbs < 2 ^ (10 * i + 1)
  | 0 => by rw [Int.pow_zero]; decide
  | i + 1 => by
    rw [Int.pow_succ, Int.natAbs_mul]
    have h := pow_bound hx i
    have e : 2 ^ (10 * (i + 1) + 1) = 2 ^ (10 * i + 1) * 1024 := by
      rw [show 10 * (i + 1) + 1 = (10 * i + 1) + 10 by omega, Nat.pow_add]
    rw [e]
    exact Nat.mul_lt_mul'' h (by omega)
end K00
-- DT
/-! determinants: expansion along the last column -/
namespace DT
abbrev Rw := Nat → Int
def sg (k : Nat) : Int := if k % 2 = 0 then 1 else -1
theorem sg_succ (k : Nat) : sg (k + 1) = - sg k := by
  unfold sg
  rcases Nat.mod_two_eq_zero_or_one k with h | h
  · rw [if_neg (by omega), if_pos h]
  · rw [if_pos (by omega), if_neg (by omega)]; rfl
theorem sg_zero : sg 0 = 1 := rfl
theorem sg_sq (k : Nat) : sg k * sg k = 1 := by
  unfold sg; split <;> rfl
/-- the sum over the rows x of rest, each with its sign, f x, and D of the other rows -/
def ex (f : Rw → Int) (D : List Rw → Int) : List Rw → List Rw → Int
  | _, [] => 0
  | pre, x :: rest => sg rest.length * f x * D (pre ++ rest) + ex f D (pre ++ [x]) rest
/-- the determinant of the rows at the columns; the columns from the last one on -/
def dt : List Nat → List Rw → Int
  | [], _ => 1
  | j :: cs, rows => ex (fun x => x j) (dt cs) [] rows
theorem dt_cons (j : Nat) (cs : List Nat) (rows : List Rw) : dt (j :: cs) rows = ex (fun x => x j) (dt cs) [] rows := rfl
theorem ex_cons (f : Rw → Int) (D : List Rw → Int) (x : Rw) (pre rest : List Rw) : ex f D pre (x :: rest) = sg rest.length * f x * D (pre ++ rest) + ex f D (pre ++ [x]) rest := rfl
/-- the prefix may go into D -/
theorem ex_pre (f : Rw → Int) (D : List Rw → Int) (p : List Rw) : ∀ (rest pre : List Rw), ex f D (p ++ pre) rest = ex f (fun l => D (p ++ l)) pre rest
  | [], _ => rfl
  | x :: rest, pre => by
    rw [ex_cons, ex_cons, List.append_assoc, List.append_assoc, ex_pre f D p rest (pre ++ [x])]
theorem ex_congr (f : Rw → Int) {D D' : List Rw → Int} {m : Nat} (h : ∀ l : List Rw, l.length = m → D l = D' l) : ∀ (rest pre : List Rw), pre.length + rest.length = m + 1 → ex f D pre rest = ex f D' pre rest
  | [], _, _ => rfl
  | x :: rest, pre, e => by
    rw [List.length_cons] at e
    rw [ex_cons, ex_cons, h (pre ++ rest) (by rw [List.length_append]; omega), ex_congr f h rest (pre ++ [x]) (by rw [List.length_append]; show _ + 1 + _ = _; omega)]
theorem ex_smul (f : Rw → Int) (D : List Rw → Int) (c : Int) : ∀ (rest pre : List Rw), ex f (fun l => c * D l) pre rest = c * ex f D pre rest
  | [], _ => by show (0 : Int) = c * 0; rw [Int.mul_zero]
  | x :: rest, pre => by
    rw [ex_cons, ex_cons, ex_smul f D c rest (pre ++ [x])]
    grind
theorem ex_add (f : Rw → Int) (D D' : List Rw → Int) : ∀ (rest pre : List Rw), ex f (fun l => D l + D' l) pre rest = ex f D pre rest + ex f D' pre rest
  | [], _ => rfl
  | x :: rest, pre => by
    rw [ex_cons, ex_cons, ex_cons, ex_add f D D' rest (pre ++ [x])]
    grind
theorem ex_zero (f : Rw → Int) {D : List Rw → Int} {m : Nat} (h : ∀ l : List Rw, l.length = m → D l = 0) (rest pre : List Rw) (e : pre.length + rest.length = m + 1) : ex f D pre rest = 0 := by
  rw [ex_congr f (D' := fun _ => 0 * 0) (fun l hl => by rw [h l hl]; rfl) rest pre e, ex_smul f (fun _ => 0) 0, Int.zero_mul]
/-- f may be a sum -/
theorem ex_f (D : List Rw → Int) (f g : Rw → Int) (c : Int) : ∀ (rest pre : List Rw), ex (fun x => f x + c * g x) D pre rest = ex f D pre rest + c * ex g D pre rest
  | [], _ => by show (0 : Int) = 0 + c * 0; omega
  | x :: rest, pre => by
    rw [ex_cons, ex_cons, ex_cons, ex_f D f g c rest (pre ++ [x])]
    grind
/-! two columns -/
/-- expansion along two columns changes its sign when they are exchanged -/
theorem ex_two (f g : Rw → Int) : ∀ (l : List Rw) (D : List Rw → Int), ex f (fun l => ex g D [] l) [] l = - ex g (fun l => ex f D [] l) [] l
  | [], _ => rfl
  | x :: rest, D => by
    have h1 : ∀ a b : Rw → Int, ex a (fun l => ex b D [] l) [] (x :: rest) = sg rest.length * a x * ex b D [] rest - sg rest.length * b x * ex a D [] rest + ex a (fun l => ex b (fun l => D (x :: l)) [] l) [] rest := by
      intro a b
      rw [ex_cons, show ([] : List Rw) ++ [x] = [x] ++ [] from rfl, ex_pre a (fun l => ex b D [] l) [x] rest []]
      cases hr : rest.length with
      | zero =>
        have : rest = [] := List.length_eq_zero_iff.mp hr
        subst this
        show _ * _ * (0 : Int) + 0 = _ * _ * 0 - _ * _ * (0 : Int) + 0
        rw [Int.mul_zero, Int.mul_zero]; rfl
      | succ m =>
        have e : ex a (fun l => ex b D [] ([x] ++ l)) [] rest = ex a (fun l => (sg m * b x) * D l + ex b (fun l => D (x :: l)) [] l) [] rest := by
          refine ex_congr a (m := m) (fun l hl => ?_) rest [] (by show 0 + _ = _; omega)
          show ex b D [] (x :: l) = _
          rw [ex_cons, hl, show ([] : List Rw) ++ [x] = [x] ++ [] from rfl, ex_pre b D [x] l []]
          rfl
        rw [e, ex_add, ex_smul, sg_succ]
        show _ * _ * ex b D [] rest + _ = _
        grind
    rw [h1 f g, h1 g f, ex_two f g rest]
    grind
/-- a column that is there already -/
theorem ex_same : ∀ (cs : List Nat) (i : Nat) (rows : List Rw), i ∈ cs → ex (fun x => x i) (dt cs) [] rows = 0
  | [], _, _, h => by cases h
  | c :: cs, i, rows, h => by
    show ex (fun x => x i) (fun l => ex (fun x => x c) (dt cs) [] l) [] rows = 0
    by_cases e : i = c
    · subst e
      have := ex_two (fun x => x i) (fun x => x i) rows (dt cs)
      omega
    · rw [ex_two]
      have hi : i ∈ cs := (List.mem_cons.mp h).resolve_left e
      have : ∀ l : List Rw, ex (fun x => x i) (dt cs) [] l = 0 := fun l => ex_same cs i l hi
      cases rows with
      | nil => rfl
      | cons x r =>
        rw [ex_zero (m := r.length) _ (fun l _ => this l) (x :: r) [] (by show 0 + (_ + 1) = _; omega)]
        rfl
/-! rows -/
theorem ex_lin_tail (f : Rw → Int) {D : List Rw → Int} {m : Nat} {y z : Rw} {a b : Int} (h : ∀ p r : List Rw, p.length + r.length + 1 = m → D (p ++ (fun j => a * y j + b * z j) :: r) = a * D (p ++ y :: r) + b * D (p ++ z :: r)) :
    ∀ (rest p1 p2 : List Rw), p1.length + p2.length + 1 + rest.length = m + 1 → ex f D (p1 ++ (fun j => a * y j + b * z j) :: p2) rest = a * ex f D (p1 ++ y :: p2) rest + b * ex f D (p1 ++ z :: p2) rest
  | [], _, _, _ => by show (0 : Int) = a * 0 + b * 0; omega
  | x :: rest, p1, p2, e => by
    rw [List.length_cons] at e
    have s : ∀ v : Rw, p1 ++ v :: p2 ++ rest = p1 ++ v :: (p2 ++ rest) := fun v => by rw [List.append_assoc]; rfl
    have t : ∀ v : Rw, p1 ++ v :: p2 ++ [x] = p1 ++ v :: (p2 ++ [x]) := fun v => by rw [List.append_assoc]; rfl
    rw [ex_cons, ex_cons, ex_cons, s, s, s, t, t, t, h p1 (p2 ++ rest) (by rw [List.length_append]; omega), ex_lin_tail f h rest p1 (p2 ++ [x]) (by rw [List.length_append]; show _ + (_ + 1) + _ + _ = _; omega)]
    grind
theorem ex_lin (f : Rw → Int) {D : List Rw → Int} {m : Nat} {y z : Rw} {a b : Int} (hf : f (fun j => a * y j + b * z j) = a * f y + b * f z) (h : ∀ p r : List Rw, p.length + r.length + 1 = m → D (p ++ (fun j => a * y j + b * z j) :: r) = a * D (p ++ y :: r) + b * D (p ++ z :: r)) :
    ∀ (mid pre rest : List Rw), pre.length + mid.length + 1 + rest.length = m + 1 → ex f D pre (mid ++ (fun j => a * y j + b * z j) :: rest) = a * ex f D pre (mid ++ y :: rest) + b * ex f D pre (mid ++ z :: rest)
  | [], pre, rest, e => by
    show ex f D pre (_ :: rest) = a * ex f D pre (y :: rest) + b * ex f D pre (z :: rest)
    rw [ex_cons, ex_cons, ex_cons, hf, ex_lin_tail f h rest pre [] (by simpa using e)]
    grind
  | x :: mid, pre, rest, e => by
    rw [List.length_cons] at e
    have s : ∀ v : Rw, pre ++ (mid ++ v :: rest) = (pre ++ mid) ++ v :: rest := fun v => by rw [List.append_assoc]
    show ex f D pre (x :: (mid ++ _ :: rest)) = a * ex f D pre (x :: (mid ++ y :: rest)) + b * ex f D pre (x :: (mid ++ z :: rest))
    rw [ex_cons, ex_cons, ex_cons, s, s, s, h (pre ++ mid) rest (by rw [List.length_append]; omega), ex_lin f hf h mid (pre ++ [x]) rest (by rw [List.length_append]; show _ + 1 + _ + _ + _ = _; omega)]
    rw [List.length_append, List.length_append, List.length_append, List.length_cons, List.length_cons, List.length_cons]
    grind
theorem dt_lin : ∀ (cs : List Nat) (y z : Rw) (a b : Int) (p r : List Rw), p.length + r.length + 1 = cs.length → dt cs (p ++ (fun j => a * y j + b * z j) :: r) = a * dt cs (p ++ y :: r) + b * dt cs (p ++ z :: r)
  | [], _, _, _, _, _, _, e => by rw [List.length_nil] at e; omega
  | c :: cs, y, z, a, b, p, r, e => ex_lin (fun x => x c) rfl (dt_lin cs y z a b) p [] r (by rw [List.length_cons] at e; show 0 + _ + 1 + _ = _; omega)
theorem ex_alt_tail (f : Rw → Int) {D : List Rw → Int} {m : Nat} {y : Rw} (h : ∀ p r : List Rw, p.length + r.length + 2 = m → D (p ++ y :: y :: r) = 0) :
    ∀ (rest p1 p2 : List Rw), p1.length + p2.length + 2 + rest.length = m + 1 → ex f D (p1 ++ y :: y :: p2) rest = 0
  | [], _, _, _ => rfl
  | x :: rest, p1, p2, e => by
    rw [List.length_cons] at e
    rw [ex_cons, show p1 ++ y :: y :: p2 ++ rest = p1 ++ y :: y :: (p2 ++ rest) by rw [List.append_assoc]; rfl, show p1 ++ y :: y :: p2 ++ [x] = p1 ++ y :: y :: (p2 ++ [x]) by rw [List.append_assoc]; rfl, h p1 (p2 ++ rest) (by rw [List.length_append]; omega), ex_alt_tail f h rest p1 (p2 ++ [x]) (by rw [List.length_append]; show _ + (_ + 1) + _ + _ = _; omega), Int.mul_zero]
    rfl
theorem ex_alt (f : Rw → Int) {D : List Rw → Int} {m : Nat} {y : Rw} (h : ∀ p r : List Rw, p.length + r.length + 2 = m → D (p ++ y :: y :: r) = 0) :
    ∀ (mid pre rest : List Rw), pre.length + mid.length + 2 + rest.length = m + 1 → ex f D pre (mid ++ y :: y :: rest) = 0
  | [], pre, rest, e => by
    show ex f D pre (y :: y :: rest) = 0
    rw [ex_cons, ex_cons, show pre ++ [y] ++ [y] = pre ++ y :: y :: [] by rw [List.append_assoc]; rfl, ex_alt_tail f h rest pre [] (by simpa using e), show pre ++ [y] ++ rest = pre ++ y :: rest by rw [List.append_assoc]; rfl, List.length_cons, sg_succ]
    grind
  | x :: mid, pre, rest, e => by
    rw [List.length_cons] at e
    show ex f D pre (x :: (mid ++ y :: y :: rest)) = 0
    rw [ex_cons, show pre ++ (mid ++ y :: y :: rest) = (pre ++ mid) ++ y :: y :: rest by rw [List.append_assoc], h (pre ++ mid) rest (by rw [List.length_append]; omega), ex_alt f h mid (pre ++ [x]) rest (by rw [List.length_append]; show _ + 1 + _ + _ + _ = _; omega), Int.mul_zero]
    rfl
theorem dt_alt : ∀ (cs : List Nat) (y : Rw) (p r : List Rw), p.length + r.length + 2 = cs.length → dt cs (p ++ y :: y :: r) = 0
  | [], _, _, _, e => by rw [List.length_nil] at e; omega
  | c :: cs, y, p, r, e => ex_alt (fun x => x c) (dt_alt cs y) p [] r (by rw [List.length_cons] at e; show 0 + _ + 2 + _ = _; omega)
/-- neighbours exchanged -/
theorem dt_swap {cs : List Nat} {y z : Rw} {p r : List Rw} (e : p.length + r.length + 2 = cs.length) : dt cs (p ++ y :: z :: r) = - dt cs (p ++ z :: y :: r) := by
  have h := dt_alt cs (fun j => 1 * y j + 1 * z j) p r e
  have a (v : Rw) : p ++ v :: (fun j => 1 * y j + 1 * z j) :: r = (p ++ [v]) ++ (fun j => 1 * y j + 1 * z j) :: r := by rw [List.append_assoc]; rfl
  have b (v u : Rw) : (p ++ [v]) ++ u :: r = p ++ v :: u :: r := by rw [List.append_assoc]; rfl
  have l (v : Rw) : (p ++ [v]).length + r.length + 1 = cs.length := by rw [List.length_append]; show _ + 1 + _ + 1 = _; omega
  rw [dt_lin cs y z 1 1 p _ (by show _ + (_ + 1) + 1 = _; omega), a, a, dt_lin cs y z 1 1 _ r (l y), dt_lin cs y z 1 1 _ r (l z), b, b, b, b, dt_alt cs y p r e, dt_alt cs z p r e] at h
  grind
/-- a row moved over others -/
theorem dt_move {cs : List Nat} {y : Rw} : ∀ {mid p r : List Rw}, p.length + mid.length + r.length + 1 = cs.length → dt cs (p ++ (mid ++ y :: r)) = sg mid.length * dt cs (p ++ y :: (mid ++ r))
  | [], p, r, e => by show _ = 1 * _; rw [Int.one_mul]; rfl
  | x :: mid, p, r, e => by
    rw [List.length_cons] at e
    have s := dt_move (cs := cs) (y := y) (mid := mid) (p := p ++ [x]) (r := r) (by rw [List.length_append]; show _ + 1 + _ + _ + 1 = _; omega)
    rw [List.append_assoc] at s
    have t : p ++ [x] ++ y :: (mid ++ r) = p ++ x :: y :: (mid ++ r) := by rw [List.append_assoc]; rfl
    rw [t, dt_swap (by rw [List.length_append]; omega)] at s
    rw [List.length_cons, sg_succ]
    show dt cs (p ++ ([x] ++ (mid ++ y :: r))) = _ * dt cs (p ++ y :: x :: (mid ++ r))
    rw [s]
    grind
/-- two equal rows -/
theorem dt_eq {cs : List Nat} {y : Rw} {p mid r : List Rw} (e : p.length + mid.length + r.length + 2 = cs.length) : dt cs (p ++ y :: (mid ++ y :: r)) = 0 := by
  have s := dt_move (cs := cs) (y := y) (mid := mid) (p := p ++ [y]) (r := r) (by rw [List.length_append]; show _ + 1 + _ + _ + 1 = _; omega)
  have t (q : List Rw) : p ++ [y] ++ q = p ++ y :: q := by rw [List.append_assoc]; rfl
  rw [t, t, dt_alt cs y p (mid ++ r) (by rw [List.length_append]; omega), Int.mul_zero] at s
  exact s
/-! rows of zeros, combinations -/
theorem ex_zrow (f : Rw → Int) {D : List Rw → Int} {m : Nat} {X : Rw} (h : ∀ p r : List Rw, p.length + r.length + 1 = m → D (p ++ X :: r) = 0) :
    ∀ (rest p1 p2 : List Rw), p1.length + p2.length + 1 + rest.length = m + 1 → ex f D (p1 ++ X :: p2) rest = 0
  | [], _, _, _ => rfl
  | x :: rest, p1, p2, e => by
    rw [List.length_cons] at e
    rw [ex_cons, show p1 ++ X :: p2 ++ rest = p1 ++ X :: (p2 ++ rest) by rw [List.append_assoc]; rfl, show p1 ++ X :: p2 ++ [x] = p1 ++ X :: (p2 ++ [x]) by rw [List.append_assoc]; rfl, h p1 (p2 ++ rest) (by rw [List.length_append]; omega), ex_zrow f h rest p1 (p2 ++ [x]) (by rw [List.length_append]; show _ + (_ + 1) + _ + _ = _; omega), Int.mul_zero]
    rfl
/-- only the row X may count -/
theorem ex_only (f : Rw → Int) {D : List Rw → Int} {m : Nat} {X : Rw} (h : ∀ p r : List Rw, p.length + r.length + 1 = m → D (p ++ X :: r) = 0) :
    ∀ (mid pre rest : List Rw), pre.length + mid.length + 1 + rest.length = m + 1 → ex f D pre (mid ++ X :: rest) = sg rest.length * f X * D (pre ++ (mid ++ rest))
  | [], pre, rest, e => by
    show ex f D pre (X :: rest) = _
    rw [ex_cons, ex_zrow f h rest pre [] (by simpa using e), Int.add_zero]
    rfl
  | x :: mid, pre, rest, e => by
    rw [List.length_cons] at e
    show ex f D pre (x :: (mid ++ X :: rest)) = _
    rw [ex_cons, show pre ++ (mid ++ X :: rest) = (pre ++ mid) ++ X :: rest by rw [List.append_assoc], h (pre ++ mid) rest (by rw [List.length_append]; omega), ex_only f h mid (pre ++ [x]) rest (by rw [List.length_append]; show _ + 1 + _ + _ + _ = _; omega), Int.mul_zero, Int.zero_add, List.append_assoc]
    rfl
theorem dt_zrow : ∀ (cs : List Nat) (X : Rw) (p r : List Rw), (∀ j ∈ cs, X j = 0) → p.length + r.length + 1 = cs.length → dt cs (p ++ X :: r) = 0
  | [], _, _, _, _, e => by rw [List.length_nil] at e; omega
  | c :: cs, X, p, r, hz, e => by
    rw [List.length_cons] at e
    rw [dt_cons, ex_only (m := cs.length) (fun x => x c) (fun p r => dt_zrow cs X p r fun j hj => hz j (List.mem_cons_of_mem _ hj)) p [] r (by show 0 + _ + 1 + _ = _; omega), hz c List.mem_cons_self, Int.mul_zero, Int.zero_mul]
/-- combinations of rows -/
def lc : List Int → List Rw → Rw
  | c :: cs, r :: rs => fun j => c * r j + 1 * lc cs rs j
  | _, _ => fun j => 0
theorem dt_lc {cs : List Nat} {p r : List Rw} (e : p.length + r.length + 1 = cs.length) : ∀ (ms : List Int) (R : List Rw), (∀ y ∈ R, dt cs (p ++ y :: r) = 0) → dt cs (p ++ lc ms R :: r) = 0
  | [], [], _ => dt_zrow cs _ p r (fun _ _ => rfl) e
  | [], _ :: _, _ => dt_zrow cs _ p r (fun _ _ => rfl) e
  | _ :: _, [], _ => dt_zrow cs _ p r (fun _ _ => rfl) e
  | m :: ms, y :: R, h => by
    show dt cs (p ++ (fun j => m * y j + 1 * lc ms R j) :: r) = 0
    rw [dt_lin cs y (lc ms R) m 1 p r e, h y List.mem_cons_self, dt_lc e ms R fun z hz => h z (List.mem_cons_of_mem _ hz), Int.mul_zero, Int.mul_zero]
    rfl
/-- the bordered minors are a combination of the row and of R -/
theorem ex_ms (D : List Rw → Int) (x : Rw) : ∀ (R pre : List Rw), ∃ ms : List Int, ms.length = R.length ∧ ∀ j, ex (fun x => x j) D pre (R ++ [x]) = D (pre ++ R) * x j + lc ms R j
  | [], pre => ⟨[], rfl, fun j => by
    show ex (fun x => x j) D pre [x] = _
    rw [ex_cons]
    show 1 * x j * D (pre ++ []) + 0 = D (pre ++ []) * x j + 0
    grind⟩
  | y :: R, pre => by
    obtain ⟨ms, hl, h⟩ := ex_ms D x R (pre ++ [y])
    refine ⟨(sg (R ++ [x]).length * D (pre ++ (R ++ [x]))) :: ms, by rw [List.length_cons, List.length_cons, hl], fun j => ?_⟩
    show ex (fun x => x j) D pre (y :: (R ++ [x])) = _
    rw [ex_cons, h j, List.append_assoc]
    show _ = D (pre ++ y :: R) * x j + (_ * y j + 1 * lc ms R j)
    show _ * y j * _ + (D (pre ++ y :: R) * x j + _) = _
    grind
/-- the bordered minors -/
def bd (cs : List Nat) (R : List Rw) (x : Rw) : Rw := fun j => dt (j :: cs) (R ++ [x])
theorem bd_ms (cs : List Nat) (R : List Rw) (x : Rw) : ∃ ms : List Int, ms.length = R.length ∧ bd cs R x = fun j => dt cs R * x j + 1 * lc ms R j := by
  obtain ⟨ms, hl, h⟩ := ex_ms (dt cs) x R []
  refine ⟨ms, hl, funext fun j => ?_⟩
  rw [Int.one_mul]
  exact h j
theorem bd_col {cs : List Nat} {R : List Rw} {x : Rw} {j : Nat} (h : j ∈ cs) : bd cs R x j = 0 := ex_same cs j _ h
theorem bd_in {cs : List Nat} {R : List Rw} {x : Rw} {j : Nat} (e : R.length = cs.length) (h : x ∈ R) : bd cs R x j = 0 := by
  obtain ⟨a, b, rfl⟩ := List.append_of_mem h
  show dt (j :: cs) ((a ++ x :: b) ++ [x]) = 0
  rw [show (a ++ x :: b) ++ [x] = a ++ x :: (b ++ x :: []) by rw [List.append_assoc]; rfl]
  refine dt_eq ?_
  rw [List.length_append, List.length_cons] at e
  rw [List.length_cons]
  show _ + _ + 0 + 2 = _
  omega
/-- a row of bordered minors in the place of the row -/
theorem dt_bd {cs ks : List Nat} {R p r : List Rw} {x : Rw} (hp : ∀ y ∈ R, y ∈ p) (e : p.length + r.length + 1 = ks.length) : dt ks (p ++ bd cs R x :: r) = dt cs R * dt ks (p ++ x :: r) := by
  obtain ⟨ms, _, h⟩ := bd_ms cs R x
  rw [h, dt_lin ks x (lc ms R) (dt cs R) 1 p r e, dt_lc e ms R (fun y hy => ?_), Int.mul_zero, Int.add_zero]
  obtain ⟨a, b, rfl⟩ := List.append_of_mem (hp y hy)
  rw [show (a ++ y :: b) ++ y :: r = a ++ y :: (b ++ y :: r) by rw [List.append_assoc]; rfl]
  rw [List.length_append, List.length_cons] at e
  exact dt_eq (by omega)
/-- the step of Bareiss -/
theorem dt_step {cs : List Nat} {R : List Rw} {x y : Rw} {c j : Nat} (e : R.length = cs.length) (d : dt cs R ≠ 0) : dt cs R * dt (j :: c :: cs) (R ++ [y] ++ [x]) = bd cs R y c * bd cs R x j - bd cs R x c * bd cs R y j := by
  have h1 : dt (j :: c :: cs) (R ++ bd cs R y :: [bd cs R x]) = dt cs R * (dt cs R * dt (j :: c :: cs) (R ++ [y] ++ [x])) := by
    rw [dt_bd (fun z hz => hz) (by show _ + 1 + 1 = _ + 1 + 1; rw [e]), show R ++ y :: [bd cs R x] = (R ++ [y]) ++ bd cs R x :: [] by rw [List.append_assoc]; rfl, dt_bd (fun z hz => List.mem_append_left _ hz) (by rw [List.length_append]; show _ + 1 + 0 + 1 = _ + 1 + 1; rw [e])]
  have z (w : Rw) : ∀ p r : List Rw, p.length + r.length + 1 = cs.length → dt cs (p ++ bd cs R w :: r) = 0 := fun p r el => dt_zrow cs _ p r (fun j hj => bd_col hj) el
  have o (w : Rw) (p r : List Rw) (el : p.length + r.length = cs.length) : dt (c :: cs) (p ++ bd cs R w :: r) = sg r.length * bd cs R w c * dt cs (p ++ r) := by
    rw [dt_cons, ex_only (m := cs.length) (fun x => x c) (z w) p [] r (by show 0 + _ + 1 + _ = _; omega)]
    rfl
  have two : ∀ (rest pre : List Rw), pre.length + rest.length = cs.length → ex (fun x => x j) (dt (c :: cs)) pre (rest ++ bd cs R y :: [bd cs R x]) = - bd cs R y j * (bd cs R x c * dt cs (pre ++ rest)) + bd cs R x j * (bd cs R y c * dt cs (pre ++ rest)) := by
    intro rest
    induction rest with
    | nil =>
      intro pre el
      have el : pre.length = cs.length := el
      show ex _ _ pre (bd cs R y :: [bd cs R x]) = _
      rw [ex_cons, ex_cons, o x pre [] (by show _ + 0 = _; omega), show pre ++ [bd cs R y] ++ [] = pre ++ bd cs R y :: [] by rw [List.append_nil], o y pre [] (by show _ + 0 = _; omega)]
      show (-1) * bd cs R y j * (1 * bd cs R x c * dt cs (pre ++ [])) + (1 * bd cs R x j * (1 * bd cs R y c * dt cs (pre ++ [])) + 0) = _
      grind
    | cons w rest ih =>
      intro pre el
      rw [List.length_cons] at el
      show ex _ _ pre (w :: (rest ++ bd cs R y :: [bd cs R x])) = _
      rw [ex_cons, ih (pre ++ [w]) (by rw [List.length_append]; show _ + 1 + _ = _; omega), show pre ++ (rest ++ bd cs R y :: [bd cs R x]) = (pre ++ rest) ++ bd cs R y :: [bd cs R x] by rw [List.append_assoc], o y (pre ++ rest) [bd cs R x] (by rw [List.length_append]; show _ + _ + 1 = _; omega), z x (pre ++ rest) [] (by rw [List.length_append]; show _ + _ + 0 + 1 = _; omega), List.append_assoc]
      show _ * (_ * 0) + _ = _
      grind
  have h2 := two R [] (by show 0 + _ = _; omega)
  have h3 : dt (j :: c :: cs) (R ++ bd cs R y :: [bd cs R x]) = ex (fun x => x j) (dt (c :: cs)) [] (R ++ bd cs R y :: [bd cs R x]) := rfl
  rw [h3, h2] at h1
  have h4 : dt cs R * (dt cs R * dt (j :: c :: cs) (R ++ [y] ++ [x])) = dt cs R * (bd cs R y c * bd cs R x j - bd cs R x c * bd cs R y j) := by
    rw [← h1]
    show - _ * (_ * dt cs R) + _ * (_ * dt cs R) = _
    grind
  exact Int.eq_of_mul_eq_mul_left d h4
/-! ranks -/
theorem le_of_sub {α : Type} : ∀ (R p : List α), p.Nodup → (∀ x ∈ p, x ∈ R) → p.length ≤ R.length
  | [], p, _, h => by
    cases p with
    | nil => exact Nat.le_refl _
    | cons x p => exact absurd (h x List.mem_cons_self) (by simp)
  | r :: R, p, nd, h => by
    by_cases hr : r ∈ p
    · obtain ⟨a, b, rfl⟩ := List.append_of_mem hr
      have nd2 : (r :: (a ++ b)).Nodup := (List.perm_middle (a := r) (l₁ := a) (l₂ := b)).nodup_iff.mp nd
      rw [List.nodup_cons] at nd2
      have := le_of_sub R (a ++ b) nd2.2 (fun x hx => ?_)
      · rw [List.length_append] at this
        rw [List.length_append, List.length_cons, List.length_cons]
        omega
      · have hx' : x ∈ a ++ r :: b := by
          rcases List.mem_append.mp hx with z | z
          · exact List.mem_append_left _ z
          · exact List.mem_append_right _ (List.mem_cons_of_mem _ z)
        exact (List.mem_cons.mp (h x hx')).resolve_left fun z => nd2.1 (z ▸ hx)
    · have := le_of_sub R p nd (fun x hx => (List.mem_cons.mp (h x hx)).resolve_left fun z => hr (z ▸ hx))
      rw [List.length_cons]
      omega
theorem twice_of {α : Type} : ∀ (p : List α), ¬ p.Nodup → ∃ (y : α) (a m b : List α), p = a ++ y :: (m ++ y :: b)
  | [], h => absurd .nil h
  | x :: p, h => by
    by_cases hx : x ∈ p
    · obtain ⟨m, b, rfl⟩ := List.append_of_mem hx
      exact ⟨x, [], m, b, rfl⟩
    · obtain ⟨y, a, m, b, e⟩ := twice_of p fun z => h (List.nodup_cons.mpr ⟨hx, z⟩)
      exact ⟨y, x :: a, m, b, by rw [e]; rfl⟩
/-- more rows than what they are combined of -/
theorem dt_many {cs : List Nat} {R : List Rw} (hR : R.length < cs.length) : ∀ (ys p : List Rw), (∀ y ∈ p, y ∈ R) → (∀ y ∈ ys, ∃ ms, y = lc ms R) → p.length + ys.length = cs.length → dt cs (p ++ ys) = 0
  | [], p, hp, _, e => by
    have nd : ¬ p.Nodup := fun nd => by
      have := le_of_sub R p nd hp
      rw [List.length_nil] at e
      omega
    obtain ⟨y, a, m, b, rfl⟩ := twice_of p nd
    rw [List.append_nil]
    refine dt_eq ?_
    rw [List.length_append, List.length_cons, List.length_append, List.length_cons, List.length_nil] at e
    omega
  | y :: ys, p, hp, hy, e => by
    obtain ⟨ms, rfl⟩ := hy y List.mem_cons_self
    rw [List.length_cons] at e
    refine dt_lc (by omega) ms R fun z hz => ?_
    have := dt_many hR ys (p ++ [z]) (fun w hw => (List.mem_append.mp hw).elim (hp w) fun h => by rw [List.mem_singleton.mp h]; exact hz) (fun w hw => hy w (List.mem_cons_of_mem _ hw)) (by rw [List.length_append]; show _ + 1 + _ = _; omega)
    rw [List.append_assoc] at this
    exact this
end DT
-- DS
/-! more on determinants: orders of rows, columns, the sum over all orders -/
namespace DT
/-! ### rows in another order -/
theorem dt_perm {cs : List Nat} {l l' : List Rw} (h : l.Perm l') : ∀ p : List Rw, p.length + l.length = cs.length → dt cs (p ++ l) = dt cs (p ++ l') ∨ dt cs (p ++ l) = - dt cs (p ++ l') := by
  induction h with
  | nil => intro p _; exact .inl rfl
  | cons x h ih =>
    intro p e
    have := ih (p ++ [x]) (by rw [List.length_append]; rw [List.length_cons] at e; show _ + 1 + _ = _; omega)
    rw [List.append_assoc, List.append_assoc] at this
    exact this
  | swap x y l => intro p e; exact .inr (dt_swap (by rw [List.length_cons, List.length_cons] at e; omega))
  | trans h1 h2 a b =>
    intro p e
    have e2 := h1.length_eq
    rcases a p e with a | a <;> rcases b p (by omega) with b | b <;> rw [a, b]
    · exact .inl rfl
    · exact .inr rfl
    · exact .inr rfl
    · exact .inl (by omega)
theorem dt_perm0 {cs : List Nat} {l l' : List Rw} (h : l.Perm l') (e : l.length = cs.length) (n : dt cs l ≠ 0) : dt cs l' ≠ 0 := fun z => by
  rcases dt_perm (cs := cs) h [] (by rw [List.length_nil]; omega) with a | a
  · exact n (a.trans z)
  · exact n (a.trans (by show - dt cs l' = 0; rw [z]; rfl))
/-! ### columns -/
theorem ex_zero' (f : Rw → Int) {D : List Rw → Int} (h : ∀ l : List Rw, D l = 0) : ∀ (rest pre : List Rw), ex f D pre rest = 0
  | [], _ => rfl
  | x :: rest, pre => by rw [ex_cons, h, ex_zero' f h rest, Int.mul_zero]; rfl
theorem dt_pre0 {cs : List Nat} (h : ∀ l, dt cs l = 0) : ∀ (pre : List Nat) (l : List Rw), dt (pre ++ cs) l = 0
  | [], l => h l
  | c :: pre, l => by
    show ex _ (dt (pre ++ cs)) [] l = 0
    exact ex_zero' _ (dt_pre0 h pre) l []
theorem dt_dup (pre mid r : List Nat) (k : Nat) (l : List Rw) : dt (pre ++ k :: (mid ++ k :: r)) l = 0 :=
  dt_pre0 (cs := k :: (mid ++ k :: r)) (fun l => ex_same (mid ++ k :: r) k l (List.mem_append_right _ List.mem_cons_self)) pre l
/-- the same with any numbers of the rows in the place of the columns -/
def df : List (Rw → Int) → List Rw → Int
  | [], _ => 1
  | f :: fs, rows => ex f (df fs) [] rows
theorem df_dt : ∀ (cs : List Nat) (l : List Rw), df (cs.map fun j x => x j) l = dt cs l
  | [], _ => rfl
  | c :: cs, l => by
    show ex _ (df (cs.map fun j x => x j)) [] l = ex _ (dt cs) [] l
    rw [funext (df_dt cs)]
theorem ex_map (f : Rw → Int) (D : List Rw → Int) (g : Rw → Rw) : ∀ (rest pre : List Rw), ex f D (pre.map g) (rest.map g) = ex (fun x => f (g x)) (fun l => D (l.map g)) pre rest
  | [], _ => rfl
  | x :: rest, pre => by
    rw [List.map_cons, ex_cons, ex_cons, List.length_map, ← ex_map f D g rest (pre ++ [x]), List.map_append, List.map_append]
    rfl
theorem df_map (g : Rw → Rw) : ∀ (fs : List (Rw → Int)) (l : List Rw), df fs (l.map g) = df (fs.map fun f x => f (g x)) l
  | [], _ => rfl
  | f :: fs, l => by
    show ex f (df fs) ([].map g) (l.map g) = ex (fun x => f (g x)) (df (fs.map fun f x => f (g x))) [] l
    rw [ex_map, funext fun l => df_map g fs l]
theorem df_lin (f g : Rw → Int) (c : Int) (r : List (Rw → Int)) : ∀ (pre : List (Rw → Int)) (l : List Rw), df (pre ++ (fun x => f x + c * g x) :: r) l = df (pre ++ f :: r) l + c * df (pre ++ g :: r) l
  | [], l => ex_f (df r) f g c l []
  | p :: pre, l => by
    show ex p (df (pre ++ _ :: r)) [] l = ex p (df (pre ++ f :: r)) [] l + c * ex p (df (pre ++ g :: r)) [] l
    rw [← ex_smul, ← ex_add, funext fun l => df_lin f g c r pre l]
/-- c times column k added to column j -/
def colOp (j k : Nat) (c : Int) (x : Rw) : Rw := fun i => if i = j then x j + c * x k else x i
theorem df_colOp {j k : Nat} {c : Int} (i : Nat) : (fun x : Rw => colOp j k c x i) = if i = j then (fun x : Rw => x j + c * x k) else fun x : Rw => x i := by
  funext x
  unfold colOp
  split <;> rfl
/-- zero for all columns of the old rows, so for the new ones -/
theorem dt_colOp0 {j k : Nat} {c : Int} {l : List Rw} {s : Nat} (h : ∀ cs : List Nat, cs.length = s → dt cs l = 0) : ∀ (cs pre : List Nat), pre.length + cs.length = s → df (pre.map (fun j (x : Rw) => x j) ++ cs.map fun i (x : Rw) => colOp j k c x i) l = 0
  | [], pre, e => by
    rw [List.map_nil, List.append_nil, df_dt]
    exact h pre e
  | i :: cs, pre, e => by
    rw [List.length_cons] at e
    have step : ∀ i : Nat, df (pre.map (fun j (x : Rw) => x j) ++ (fun x => x i) :: cs.map fun i (x : Rw) => colOp j k c x i) l = 0 := fun i => by
      have := dt_colOp0 (j := j) (k := k) (c := c) h cs (pre ++ [i]) (by rw [List.length_append]; show _ + 1 + _ = _; omega)
      rw [List.map_append, List.append_assoc] at this
      exact this
    rw [List.map_cons, df_colOp]
    split
    · rw [df_lin (fun x => x j) (fun x => x k) c, step j, step k, Int.mul_zero]; rfl
    · exact step i
theorem dt_col0 {j k : Nat} {c : Int} {l : List Rw} {s : Nat} (h : ∀ cs : List Nat, cs.length = s → dt cs l = 0) (cs : List Nat) (e : cs.length = s) : dt cs (l.map (colOp j k c)) = 0 := by
  rw [← df_dt, df_map, List.map_map]
  exact dt_colOp0 h cs [] (by show 0 + _ = _; omega)
/-- the determinant at all columns stays -/
theorem dt_col {j k : Nat} {c : Int} {l : List Rw} {a b : List Nat} (hk : k ∈ a ++ b) (hj : j ∉ a ++ b) : dt (a ++ j :: b) (l.map (colOp j k c)) = dt (a ++ j :: b) l := by
  have same : ∀ t : List Nat, j ∉ t → t.map (fun i (x : Rw) => colOp j k c x i) = t.map fun i (x : Rw) => x i := fun t ht => by
    refine List.map_congr_left fun i hi => ?_
    rw [df_colOp]
    exact if_neg (fun z : i = j => ht (z ▸ hi))
  rw [← df_dt, df_map, List.map_map]
  show df ((a ++ j :: b).map (fun i (x : Rw) => colOp j k c x i)) l = _
  rw [List.map_append, List.map_cons, same a (fun z => hj (List.mem_append_left _ z)), same b (fun z => hj (List.mem_append_right _ z)), df_colOp, if_pos rfl, df_lin (fun x => x j) (fun x => x k) c]
  have e1 : a.map (fun i (x : Rw) => x i) ++ (fun x => x j) :: b.map (fun i (x : Rw) => x i) = (a ++ j :: b).map fun i (x : Rw) => x i := by rw [List.map_append]; rfl
  have e2 : a.map (fun i (x : Rw) => x i) ++ (fun x => x k) :: b.map (fun i (x : Rw) => x i) = (a ++ k :: b).map fun i (x : Rw) => x i := by rw [List.map_append]; rfl
  rw [e1, e2, df_dt, df_dt]
  have z : dt (a ++ k :: b) l = 0 := by
    rcases List.mem_append.mp hk with h | h
    · obtain ⟨p, q, rfl⟩ := List.append_of_mem h
      rw [List.append_assoc]
      exact dt_dup p q b k l
    · obtain ⟨p, q, rfl⟩ := List.append_of_mem h
      exact dt_dup a p q k l
  rw [z, Int.mul_zero, Int.add_zero]
/-! ### the sum over all orders -/
def inv : List Nat → Nat
  | [] => 0
  | a :: l => (l.filter fun b => decide (b < a)).length + inv l
/-- the orders of n columns: n put at each place of the orders before -/
def orders : Nat → List (List Nat)
  | 0 => [[]]
  | n + 1 => ((orders n).map fun o => (List.range (n + 1)).map fun i => o.take i ++ n :: o.drop i).flatten
def prd (cs : List Nat) : List Rw → List Nat → Int
  | x :: l, o :: r => x (cs.getD o 0) * prd cs l r
  | _, _ => 1
def isum (l : List Int) : Int := l.foldr (· + ·) 0
theorem isum_cons (a : Int) (l : List Int) : isum (a :: l) = a + isum l := rfl
theorem isum_app : ∀ (a b : List Int), isum (a ++ b) = isum a + isum b
  | [], b => by show isum b = 0 + isum b; omega
  | x :: a, b => by show x + isum (a ++ b) = x + isum a + isum b; rw [isum_app a b]; omega
theorem isum_flat {α β : Type} (f : β → Int) (g : α → List β) : ∀ l : List α, isum (((l.map g).flatten).map f) = isum (l.map fun a => isum ((g a).map f))
  | [] => rfl
  | a :: l => by
    rw [List.map_cons, List.flatten_cons, List.map_append, isum_app, isum_flat f g l]; rfl
theorem isum_mul {α : Type} (c : Int) (f : α → Int) : ∀ l : List α, isum (l.map fun a => c * f a) = c * isum (l.map f)
  | [] => by show (0 : Int) = c * 0; omega
  | a :: l => by
    rw [List.map_cons, List.map_cons, isum_cons, isum_cons, isum_mul c f l, Int.mul_add]
theorem isum_add {α : Type} (f g : α → Int) : ∀ l : List α, isum (l.map fun a => f a + g a) = isum (l.map f) + isum (l.map g)
  | [] => rfl
  | a :: l => by
    rw [List.map_cons, List.map_cons, List.map_cons, isum_cons, isum_cons, isum_cons, isum_add f g l]; omega
theorem isum_zero {α : Type} : ∀ l : List α, isum (l.map fun _ => (0 : Int)) = 0
  | [] => rfl
  | a :: l => by rw [List.map_cons, isum_cons, isum_zero l]; rfl
theorem isum_swap {α β : Type} (f : α → β → Int) (m : List β) : ∀ l : List α, isum (l.map fun a => isum (m.map fun b => f a b)) = isum (m.map fun b => isum (l.map fun a => f a b))
  | [] => by show (0 : Int) = _; exact (isum_zero m).symm
  | a :: l => by
    rw [List.map_cons, isum_cons, isum_swap f m l, ← isum_add]; rfl
theorem inv_app : ∀ (a b : List Nat) (n : Nat), (∀ x ∈ a, x < n) → (∀ x ∈ b, x < n) → inv (a ++ n :: b) = inv (a ++ b) + b.length
  | [], b, n, _, hb => by
    show (b.filter fun x => decide (x < n)).length + inv b = inv b + b.length
    rw [List.filter_eq_self.mpr fun x hx => decide_eq_true (hb x hx)]
    omega
  | x :: a, b, n, ha, hb => by
    show ((a ++ n :: b).filter fun y => decide (y < x)).length + inv (a ++ n :: b) = ((a ++ b).filter fun y => decide (y < x)).length + inv (a ++ b) + b.length
    have hx := ha x List.mem_cons_self
    rw [inv_app a b n (fun y hy => ha y (List.mem_cons_of_mem _ hy)) hb, List.filter_append, List.filter_append, List.filter_cons, decide_eq_false (by omega : ¬ n < x)]
    show (_ ++ List.filter _ b).length + _ = _
    omega
theorem orders_lt : ∀ (n : Nat) (o : List Nat), o ∈ orders n → o.length = n ∧ ∀ x ∈ o, x < n
  | 0, o, h => by
    rw [List.mem_singleton.mp h]
    exact ⟨rfl, fun x hx => by cases hx⟩
  | n + 1, o, h => by
    obtain ⟨l, hl, ho⟩ := List.mem_flatten.mp h
    obtain ⟨q, hq, rfl⟩ := List.mem_map.mp hl
    obtain ⟨i, hi, rfl⟩ := List.mem_map.mp ho
    obtain ⟨e, f⟩ := orders_lt n q hq
    have hi' := List.mem_range.mp hi
    refine ⟨?_, fun x hx => ?_⟩
    · rw [List.length_append, List.length_cons, List.length_take, List.length_drop]; omega
    · rcases List.mem_append.mp hx with hx | hx
      · have := f x (List.mem_of_mem_take hx); omega
      · rcases List.mem_cons.mp hx with rfl | hx
        · omega
        · have := f x (List.mem_of_mem_drop hx); omega
theorem prd_ins (cs : List Nat) (n : Nat) : ∀ (i : Nat) (rows : List Rw) (o : List Nat), rows.length = o.length + 1 → i ≤ o.length → prd cs rows (o.take i ++ n :: o.drop i) = (rows.getD i fun _ => 0) (cs.getD n 0) * prd cs (rows.eraseIdx i) o
  | 0, x :: rows, o, e, _ => rfl
  | 0, [], o, e, _ => by simp at e
  | i + 1, [], o, e, _ => by simp at e
  | i + 1, x :: rows, [], e, h => by simp at h
  | i + 1, x :: rows, a :: o, e, h => by
    show x (cs.getD a 0) * prd cs rows (o.take i ++ n :: o.drop i) = (rows.getD i fun _ => 0) (cs.getD n 0) * (x (cs.getD a 0) * prd cs (rows.eraseIdx i) o)
    rw [prd_ins cs n i rows o (by simpa using e) (by simpa using h)]
    grind
theorem ex_sum (f : Rw → Int) (D : List Rw → Int) : ∀ (rest pre : List Rw), ex f D pre rest = isum ((List.range rest.length).map fun i => sg (rest.length - 1 - i) * f (rest.getD i fun _ => 0) * D (pre ++ rest.eraseIdx i))
  | [], _ => rfl
  | x :: rest, pre => by
    rw [ex_cons, ex_sum f D rest (pre ++ [x]), List.length_cons, List.range_succ_eq_map, List.map_cons, isum_cons, List.map_map]
    congr 1
    congr 1
    refine List.map_congr_left fun i hi => ?_
    have := List.mem_range.mp hi
    show sg (rest.length - 1 - i) * _ * D (pre ++ [x] ++ rest.eraseIdx i) = sg (rest.length + 1 - 1 - (i + 1)) * _ * D (pre ++ x :: rest.eraseIdx i)
    rw [show rest.length + 1 - 1 - (i + 1) = rest.length - 1 - i by omega, List.append_assoc]
    rfl
theorem sg_add (a b : Nat) : sg (a + b) = sg a * sg b := by
  induction b with
  | zero => show sg a = sg a * 1; omega
  | succ b ih => rw [← Nat.add_assoc, sg_succ, ih, sg_succ]; grind
/-- the determinant as the sum over all orders -/
theorem dt_orders : ∀ (n : Nat) (cs : List Nat) (rows : List Rw), cs.length = n → rows.length = n → isum ((orders n).map fun o => sg (inv o) * prd cs rows o) = dt cs.reverse rows := by
  intro n
  induction n with
  | zero =>
    intro cs rows hc hr
    have := List.length_eq_zero_iff.mp hc
    have := List.length_eq_zero_iff.mp hr
    subst_vars
    rfl
  | succ n ih =>
    intro cs rows hc hr
    obtain ⟨ks, c, rfl⟩ : ∃ ks c, cs = ks ++ [c] := ⟨cs.dropLast, cs.getLast (by intro z; rw [z] at hc; simp at hc), (List.dropLast_concat_getLast _).symm⟩
    have hk : ks.length = n := by rw [List.length_append] at hc; simpa using hc
    rw [List.reverse_append]
    show isum ((((orders n).map fun o => (List.range (n + 1)).map fun i => o.take i ++ n :: o.drop i).flatten).map _) = dt (c :: ks.reverse) rows
    rw [isum_flat, dt_cons, ex_sum, hr]
    have h1 : (orders n).map (fun a => isum (((List.range (n + 1)).map fun i => a.take i ++ n :: a.drop i).map fun o => sg (inv o) * prd (ks ++ [c]) rows o)) = (orders n).map (fun a => isum ((List.range (n + 1)).map fun i => (sg (n - i) * (rows.getD i fun _ => 0) c) * (sg (inv a) * prd ks (rows.eraseIdx i) a))) := by
      refine List.map_congr_left fun a ha => ?_
      obtain ⟨la, lt⟩ := orders_lt n a ha
      rw [List.map_map]
      congr 1
      refine List.map_congr_left fun i hi => ?_
      have hi' := List.mem_range.mp hi
      show sg (inv (a.take i ++ n :: a.drop i)) * prd (ks ++ [c]) rows (a.take i ++ n :: a.drop i) = _
      rw [inv_app (a.take i) (a.drop i) n (fun x hx => lt x (List.mem_of_mem_take hx)) (fun x hx => lt x (List.mem_of_mem_drop hx)), List.take_append_drop, List.length_drop, la, prd_ins _ n i rows a (by omega) (by omega), sg_add]
      have gc : (ks ++ [c]).getD n 0 = c := by
        rw [List.getD_eq_getElem?_getD, List.getElem?_append_right (by omega), hk, Nat.sub_self]; rfl
      have pk : ∀ (r : List Rw) (o : List Nat), (∀ x ∈ o, x < n) → prd (ks ++ [c]) r o = prd ks r o := by
        intro r
        induction r with
        | nil => intro o _; rfl
        | cons x r ihr =>
          intro o ho
          cases o with
          | nil => rfl
          | cons y o =>
            show x ((ks ++ [c]).getD y 0) * _ = x (ks.getD y 0) * _
            have hy := ho y List.mem_cons_self
            rw [ihr o fun z hz => ho z (List.mem_cons_of_mem _ hz), List.getD_eq_getElem?_getD, List.getD_eq_getElem?_getD, List.getElem?_append_left (by omega)]
      rw [gc, pk _ _ lt]
      grind
    rw [h1, isum_swap]
    congr 1
    refine List.map_congr_left fun i hi => ?_
    have hi' := List.mem_range.mp hi
    rw [isum_mul, ih ks (rows.eraseIdx i) hk (by rw [List.length_eraseIdx]; split <;> omega)]
    rfl
end DT
-- DB
/-! the elimination without fractions -/
namespace DT
/-- a row of a table as a row of numbers -/
def fn (x : List Int) : Rw := fun j => x.getD j 0
/-! ### how great determinants become -/
theorem natAbs_sg (k : Nat) : (sg k).natAbs = 1 := by unfold sg; split <;> rfl
theorem ex_bound {f : Rw → Int} {D : List Rw → Int} {F B m : Nat} {S : Rw → Prop} (hf : ∀ x, S x → (f x).natAbs ≤ F) (hD : ∀ l : List Rw, (∀ x ∈ l, S x) → l.length = m → (D l).natAbs ≤ B) : ∀ (rest pre : List Rw), (∀ x ∈ pre, S x) → (∀ x ∈ rest, S x) → pre.length + rest.length = m + 1 → (ex f D pre rest).natAbs ≤ rest.length * (F * B)
  | [], _, _, _, _ => Nat.zero_le _
  | x :: rest, pre, hp, hr, e => by
    rw [List.length_cons] at e
    have h1 := ex_bound hf hD rest (pre ++ [x]) (fun y hy => (List.mem_append.mp hy).elim (hp y) fun z => by rw [List.mem_singleton.mp z]; exact hr x List.mem_cons_self) (fun y hy => hr y (List.mem_cons_of_mem _ hy)) (by rw [List.length_append]; show _ + 1 + _ = _; omega)
    have h2 := hD (pre ++ rest) (fun y hy => (List.mem_append.mp hy).elim (hp y) fun z => hr y (List.mem_cons_of_mem _ z)) (by rw [List.length_append]; omega)
    have h3 := hf x (hr x List.mem_cons_self)
    rw [ex_cons, List.length_cons, Nat.add_mul, Nat.one_mul]
    refine Nat.le_trans (Int.natAbs_add_le _ _) ?_
    rw [Int.natAbs_mul, Int.natAbs_mul, natAbs_sg, Nat.one_mul]
    have := Nat.mul_le_mul h3 h2
    omega
/-- numbers up to M -/
def Lim (M : Nat) (x : Rw) : Prop := ∀ j, (x j).natAbs ≤ M
theorem dt_bound {M N : Nat} : ∀ (cs : List Nat) (l : List Rw), (∀ x ∈ l, Lim M x) → l.length = cs.length → cs.length ≤ N → (dt cs l).natAbs ≤ (N * M) ^ cs.length
  | [], l, _, _, _ => Nat.le_refl _
  | c :: cs, l, h, e, hn => by
    rw [List.length_cons] at e hn
    have := ex_bound (f := fun x => x c) (D := dt cs) (m := cs.length) (S := Lim M) (F := M) (B := (N * M) ^ cs.length) (fun x hx => hx c) (fun l hl el => dt_bound cs l hl el (by omega)) l [] (fun _ z => by cases z) h (by show 0 + _ = _; omega)
    rw [dt_cons, List.length_cons, Nat.pow_succ, Nat.mul_comm]
    refine Nat.le_trans this ?_
    rw [← Nat.mul_assoc]
    exact Nat.mul_le_mul_right _ (Nat.mul_le_mul_right _ (by omega))
/-! ### the state -/
/-- rows where a column stands at j -/
def rowOf (L : Nat) (f : Rw) : List Int := (List.range L).map f
theorem rowOf_len (L : Nat) (f : Rw) : (rowOf L f).length = L := by unfold rowOf; rw [List.length_map, List.length_range]
theorem rowOf_get {L j : Nat} (f : Rw) (h : j < L) : (rowOf L f)[j]? = some (f j) := by
  unfold rowOf
  rw [List.getElem?_map, List.getElem?_range h]
  rfl
theorem fn_rowOf {L j : Nat} (f : Rw) (h : j < L) : fn (rowOf L f) j = f j := by
  unfold fn
  rw [List.getD_eq_getElem?_getD, rowOf_get f h]
  rfl
theorem rowOf_fn {L : Nat} {x : List Int} (h : x.length = L) : rowOf L (fn x) = x := by
  apply List.ext_getElem?
  intro j
  by_cases hj : j < L
  · rw [rowOf_get _ hj]
    unfold fn
    rw [List.getD_eq_getElem?_getD, List.getElem?_eq_getElem (by omega)]
    rfl
  · rw [List.getElem?_eq_none (by rw [rowOf_len]; omega), List.getElem?_eq_none (by omega)]
def low (L : Nat) (up down last : Int) (x p : List Int) : List Int := rowOf L fun j => (up * fn x j - down * fn p j).fdiv last
structure St (T : List (List Int)) (L c r : Nat) (rows : List (List Int)) (sign last : Int) (cs : List Nat) (P : List (List Int)) : Prop where
  perm : P.Perm T
  wid : ∀ x ∈ T, x.length = L
  si : sign = 1 ∨ sign = -1
  det : ∀ ks : List Nat, ks.length = T.length → dt ks (T.map fn) = sign * dt ks (P.map fn)
  len : rows.length = P.length
  csl : cs.length = r
  rn : r ≤ P.length
  cl : c ≤ L
  lt : ∀ j ∈ cs, j < c
  srt : cs.Pairwise (· > ·)
  la : last = dt cs ((P.take r).map fn)
  ne : last ≠ 0
  lo : ∀ (k : Nat) (x y : List Int), r ≤ k → rows[k]? = some x → P[k]? = some y → x = rowOf L (bd cs ((P.take r).map fn) (fn y))
  tp : ∀ (k : Nat) (x y : List Int), k < r → rows[k]? = some x → P[k]? = some y → x = rowOf L (bd (cs.drop (r - k)) ((P.take k).map fn) (fn y))
  ze : ∀ (k : Nat) (x : List Int), r ≤ k → rows[k]? = some x → ∀ j, j < c → fn x j = 0
theorem St.init {T : List (List Int)} {L : Nat} (h : ∀ x ∈ T, x.length = L) : St T L 0 0 T 1 1 [] T where
  perm := .refl _
  wid := h
  si := .inl rfl
  det := fun ks _ => (Int.one_mul _).symm
  len := rfl
  csl := rfl
  rn := Nat.zero_le _
  cl := Nat.zero_le _
  lt := fun _ z => by cases z
  srt := .nil
  la := rfl
  ne := by decide
  lo := fun k x y _ hx hy => by
    rw [hx] at hy
    cases hy
    have e : bd [] ((T.take 0).map fn) (fn x) = fn x := by
      funext j
      show (1 : Int) * fn x j * 1 + 0 = fn x j
      omega
    rw [e, rowOf_fn (h x (List.mem_of_getElem? hx))]
  tp := fun k _ _ hk => absurd hk (Nat.not_lt_zero _)
  ze := fun _ _ _ _ j hj => absurd hj (Nat.not_lt_zero _)
/-- no pivot in the column -/
theorem St.skip {T : List (List Int)} {L c r : Nat} {rows : List (List Int)} {sign last : Int} {cs : List Nat} {P : List (List Int)} (s : St T L c r rows sign last cs P) (hc : c < L) (h : ∀ (k : Nat) (x : List Int), r ≤ k → rows[k]? = some x → fn x c = 0) : St T L (c + 1) r rows sign last cs P :=
  { s with
    cl := hc
    lt := fun j hj => Nat.lt_succ_of_lt (s.lt j hj)
    ze := fun k x hk hx j hj => by
      rcases Nat.lt_succ_iff_lt_or_eq.mp hj with z | rfl
      · exact s.ze k x hk hx j z
      · exact h k x hk hx }
/-- two places exchanged -/
def swp {α : Type} (l : List α) (i j : Nat) : List α := match l[i]?, l[j]? with
  | some a, some b => (l.set i b).set j a
  | _, _ => l
theorem swp_some {α : Type} {l : List α} {i j : Nat} {a b : α} (ha : l[i]? = some a) (hb : l[j]? = some b) : swp l i j = (l.set i b).set j a := by
  unfold swp
  rw [ha, hb]
theorem swp_len {α : Type} (l : List α) (i j : Nat) : (swp l i j).length = l.length := by
  unfold swp
  split
  · rw [List.length_set, List.length_set]
  · rfl
theorem swp_get {α : Type} {l : List α} {i j : Nat} (hi : i < l.length) (hj : j < l.length) (k : Nat) : (swp l i j)[k]? = if k = j then l[i]? else if k = i then l[j]? else l[k]? := by
  have ei := List.getElem?_eq_getElem hi
  have ej := List.getElem?_eq_getElem hj
  rw [swp_some ei ej]
  by_cases e1 : k = j
  · subst e1
    rw [if_pos rfl, List.getElem?_set_self (by rw [List.length_set]; omega), ei]
  · rw [if_neg e1, List.getElem?_set_ne (fun z => e1 z.symm)]
    by_cases e2 : k = i
    · subst e2
      rw [if_pos rfl, List.getElem?_set_self (by omega), ej]
    · rw [if_neg e2, List.getElem?_set_ne (fun z => e2 z.symm)]
theorem two_split {α : Type} {l : List α} {i j : Nat} (h : i < j) (hj : j < l.length) : ∃ (a m b : List α) (x y : α), l = a ++ x :: (m ++ y :: b) ∧ a.length = i ∧ m.length = j - i - 1 ∧ l[i]? = some x ∧ l[j]? = some y := by
  have e1 : l.drop i = l[i] :: l.drop (i + 1) := List.drop_eq_getElem_cons (by omega)
  have e2 : l.drop j = l[j] :: l.drop (j + 1) := List.drop_eq_getElem_cons hj
  have e3 : l.drop (i + 1) = (l.drop (i + 1)).take (j - i - 1) ++ l.drop j := by
    have := (List.take_append_drop (j - i - 1) (l.drop (i + 1))).symm
    rw [List.drop_drop] at this
    rw [show i + 1 + (j - i - 1) = j by omega] at this
    exact this
  refine ⟨l.take i, (l.drop (i + 1)).take (j - i - 1), l.drop (j + 1), l[i], l[j], ?_, by rw [List.length_take]; omega, by rw [List.length_take, List.length_drop]; omega, List.getElem?_eq_getElem _, List.getElem?_eq_getElem _⟩
  rw [← e2, ← e3, ← e1, List.take_append_drop]
theorem swp_split {α : Type} (a m b : List α) (x y : α) : swp (a ++ x :: (m ++ y :: b)) a.length (a.length + 1 + m.length) = a ++ y :: (m ++ x :: b) := by
  have h1 : (a ++ x :: (m ++ y :: b))[a.length]? = some x := by rw [List.getElem?_append_right (Nat.le_refl _), Nat.sub_self]; rfl
  have h2 : (a ++ x :: (m ++ y :: b))[a.length + 1 + m.length]? = some y := by
    rw [List.getElem?_append_right (by omega), show a.length + 1 + m.length - a.length = m.length + 1 by omega, List.getElem?_cons_succ, List.getElem?_append_right (Nat.le_refl _), Nat.sub_self]; rfl
  rw [swp_some h1 h2, List.set_append_right _ _ (Nat.le_refl _), Nat.sub_self, List.set_cons_zero, List.set_append_right _ _ (by omega), show a.length + 1 + m.length - a.length = m.length + 1 by omega, List.set_cons_succ, List.set_append_right _ _ (Nat.le_refl _), Nat.sub_self, List.set_cons_zero]
theorem dt_exch {cs : List Nat} {a m b : List Rw} {x y : Rw} (e : a.length + m.length + b.length + 2 = cs.length) : dt cs (a ++ x :: (m ++ y :: b)) = - dt cs (a ++ y :: (m ++ x :: b)) := by
  have h := dt_eq (cs := cs) (y := fun j => 1 * x j + 1 * y j) (p := a) (mid := m) (r := b) e
  have s (u v : Rw) : a ++ u :: (m ++ v :: b) = (a ++ u :: m) ++ v :: b := by rw [List.append_assoc]; rfl
  have l (u : Rw) : (a ++ u :: m).length + b.length + 1 = cs.length := by rw [List.length_append, List.length_cons]; omega
  rw [dt_lin cs x y 1 1 a _ (by rw [List.length_append, List.length_cons]; omega), s, s, dt_lin cs x y 1 1 _ b (l x), dt_lin cs x y 1 1 _ b (l y), ← s, ← s, ← s, ← s, dt_eq e, dt_eq e] at h
  grind
theorem perm_exch {α : Type} (a m b : List α) (x y : α) : (a ++ y :: (m ++ x :: b)).Perm (a ++ x :: (m ++ y :: b)) := by
  refine List.Perm.append_left a ?_
  exact ((List.perm_middle (a := x) (l₁ := y :: m) (l₂ := b))).trans (List.Perm.cons x (List.perm_middle (a := y) (l₁ := m) (l₂ := b)).symm)
theorem take_swp {α : Type} {l : List α} {r i k : Nat} (hk : k ≤ r) (h : r < i) (hi : i < l.length) : (swp l r i).take k = l.take k := by
  apply List.ext_getElem?
  intro j
  rw [List.getElem?_take, List.getElem?_take]
  split
  · rw [swp_get (by omega) hi, if_neg (by omega), if_neg (by omega)]
  · rfl
/-- rows exchanged -/
theorem St.swap {T : List (List Int)} {L c r i : Nat} {rows : List (List Int)} {sign last : Int} {cs : List Nat} {P : List (List Int)} (s : St T L c r rows sign last cs P) (h : r < i) (hi : i < rows.length) : St T L c r (swp rows r i) (-sign) last cs (swp P r i) := by
  have hP : i < P.length := s.len ▸ hi
  have hT := s.perm.length_eq
  obtain ⟨a, m, b, x, y, e, ea, em, _, _⟩ := two_split h hP
  have es : swp P r i = a ++ y :: (m ++ x :: b) := by
    rw [e, ← ea, show i = a.length + 1 + m.length by omega]
    exact swp_split a m b x y
  have key : ∀ (k : Nat) (u v : List Int), r ≤ k → (swp rows r i)[k]? = some u → (swp P r i)[k]? = some v → ∃ k', r ≤ k' ∧ rows[k']? = some u ∧ P[k']? = some v := by
    intro k u v hk hu hv
    rw [swp_get (by omega) hi] at hu
    rw [swp_get (by omega) hP] at hv
    by_cases e1 : k = i
    · rw [if_pos e1] at hu hv; exact ⟨r, Nat.le_refl _, hu, hv⟩
    · rw [if_neg e1] at hu hv
      by_cases e2 : k = r
      · rw [if_pos e2] at hu hv; exact ⟨i, Nat.le_of_lt h, hu, hv⟩
      · rw [if_neg e2] at hu hv; exact ⟨k, hk, hu, hv⟩
  refine { perm := ?_, wid := s.wid, si := ?_, det := fun ks hk => ?_, len := by rw [swp_len, swp_len, s.len], csl := s.csl, rn := by rw [swp_len]; exact s.rn, cl := s.cl, lt := s.lt, srt := s.srt, la := ?_, ne := s.ne, lo := fun k u v hk hu hv => ?_, tp := fun k u v hk hu hv => ?_, ze := fun k u hk hu j hj => ?_ }
  · rw [es]
    exact (perm_exch a m b x y).trans (e ▸ s.perm)
  · rcases s.si with z | z <;> rw [z]
    · exact .inr rfl
    · exact .inl rfl
  · rw [s.det ks hk, es, e]
    simp only [List.map_append, List.map_cons]
    rw [dt_exch (cs := ks) (a := a.map fn) (m := m.map fn) (b := b.map fn) (x := fn x) (y := fn y) ?_]
    · grind
    · rw [List.length_map, List.length_map, List.length_map]
      rw [e, List.length_append, List.length_cons, List.length_append, List.length_cons] at hT
      omega
  · rw [take_swp (Nat.le_refl _) h hP]; exact s.la
  · rw [take_swp (Nat.le_refl _) h hP]
    obtain ⟨k', hk', hu', hv'⟩ := key k u v hk hu hv
    exact s.lo k' u v hk' hu' hv'
  · rw [take_swp (by omega) h hP]
    rw [swp_get (by omega) hi, if_neg (by omega), if_neg (by omega)] at hu
    rw [swp_get (by omega) hP, if_neg (by omega), if_neg (by omega)] at hv
    exact s.tp k u v hk hu hv
  · have hkl : k < P.length := by
      have := (List.getElem?_eq_some_iff.mp hu).1
      rw [swp_len] at this
      have e2 := s.len
      omega
    obtain ⟨k', hk', hu', _⟩ := key k u ((swp P r i)[k]'(by rw [swp_len]; exact hkl)) hk hu (List.getElem?_eq_getElem _)
    exact s.ze k' u hk' hu' j hj
theorem take_snoc' {α : Type} {l : List α} {r : Nat} {y : α} (h : l[r]? = some y) : l.take (r + 1) = l.take r ++ [y] := by
  rw [List.take_succ, h]; rfl
/-- a pivot -/
theorem St.step {T : List (List Int)} {L c r : Nat} {rows rows2 : List (List Int)} {sign last : Int} {cs : List Nat} {P : List (List Int)} {p : List Int} (s : St T L c r rows sign last cs P) (hc : c < L) (hp : rows[r]? = some p) (np : fn p c ≠ 0)
    (h2 : rows2.length = rows.length) (h : ∀ k, rows2[k]? = if k ≤ r then rows[k]? else rows[k]?.map fun x => low L (fn p c) (fn x c) last x p) : St T L (c + 1) (r + 1) rows2 sign (fn p c) (c :: cs) P := by
  have hr : r < P.length := by rw [← s.len]; exact (List.getElem?_eq_some_iff.mp hp).1
  have hy : P[r]? = some P[r] := List.getElem?_eq_getElem hr
  have ep := s.lo r p _ (Nat.le_refl _) hp hy
  have et : (P.take (r + 1)).map fn = (P.take r).map fn ++ [fn P[r]] := by rw [take_snoc' hy, List.map_append]; rfl
  have el : ((P.take r).map fn).length = cs.length := by rw [List.length_map, List.length_take, s.csl]; omega
  have ec : fn p c = bd cs ((P.take r).map fn) (fn P[r]) c := by rw [ep]; exact fn_rowOf _ hc
  have lower : ∀ k, r < k → ∀ x, rows2[k]? = some x → ∃ x0, rows[k]? = some x0 ∧ x = low L (fn p c) (fn x0 c) last x0 p := by
    intro k hk x hx
    rw [h k, if_neg (by omega)] at hx
    cases e : rows[k]? with
    | none => rw [e] at hx; cases hx
    | some x0 => rw [e] at hx; exact ⟨x0, rfl, (Option.some.inj hx).symm⟩
  refine { perm := s.perm, wid := s.wid, si := s.si, det := s.det, len := by rw [h2, s.len], csl := by rw [List.length_cons, s.csl], rn := hr, cl := hc, lt := fun j hj => ?_, srt := .cons (fun j hj => s.lt j hj) s.srt, la := ?_, ne := np, lo := fun k u v hk hu hv => ?_, tp := fun k u v hk hu hv => ?_, ze := fun k u hk hu j hj => ?_ }
  · rcases List.mem_cons.mp hj with rfl | hj
    · exact Nat.lt_succ_self _
    · exact Nat.lt_succ_of_lt (s.lt j hj)
  · rw [et]; exact ec
  · obtain ⟨x0, hx0, rfl⟩ := lower k hk u hu
    have ex0 := s.lo k x0 v (by omega) hx0 hv
    unfold low rowOf
    refine List.map_congr_left fun j hj => ?_
    have hj' := List.mem_range.mp hj
    have e1 : fn x0 j = bd cs ((P.take r).map fn) (fn v) j := by rw [ex0]; exact fn_rowOf _ hj'
    have e2 : fn x0 c = bd cs ((P.take r).map fn) (fn v) c := by rw [ex0]; exact fn_rowOf _ hc
    have e3 : fn p j = bd cs ((P.take r).map fn) (fn P[r]) j := by rw [ep]; exact fn_rowOf _ hj'
    rw [e1, e2, e3, ec, ← dt_step (cs := cs) (R := (P.take r).map fn) (y := fn P[r]) (x := fn v) (c := c) (j := j) el (s.la ▸ s.ne), s.la, Int.mul_fdiv_cancel_left _ (s.la ▸ s.ne), et]
    rfl
  · by_cases e : k = r
    · subst e
      rw [h k, if_pos (Nat.le_refl _)] at hu
      rw [show k + 1 - k = 1 by omega]
      exact s.lo k u v (Nat.le_refl _) hu hv
    · rw [h k, if_pos (by omega)] at hu
      rw [show r + 1 - k = (r - k) + 1 by omega, List.drop_succ_cons]
      exact s.tp k u v (by omega) hu hv
  · obtain ⟨x0, hx0, rfl⟩ := lower k hk u hu
    have hjL : j < L := by omega
    unfold low
    rw [fn_rowOf _ hjL]
    rcases Nat.lt_succ_iff_lt_or_eq.mp hj with z | rfl
    · rw [s.ze k x0 (by omega) hx0 j z, s.ze r p (Nat.le_refl _) hp j z, Int.mul_zero, Int.mul_zero, Int.sub_zero, Int.zero_fdiv]
    · rw [show fn p j * fn x0 j - fn x0 j * fn p j = 0 by rw [Int.mul_comm]; omega, Int.zero_fdiv]
end DT
-- DR
/-! what the elimination tells: bounds, the determinant, the rank -/
namespace DT
variable {T : List (List Int)} {L c r : Nat} {rows : List (List Int)} {sign last : Int} {cs : List Nat} {P : List (List Int)}
theorem lim_mem (s : St T L c r rows sign last cs P) {M : Nat} (h : ∀ x ∈ T, Lim M (fn x)) : ∀ x ∈ P.map fn, Lim M x := fun x hx => by
  obtain ⟨y, hy, rfl⟩ := List.mem_map.mp hx
  exact h y (s.perm.mem_iff.mp hy)
theorem pow_le' {a k n : Nat} (ha : 0 < a) (h : k ≤ n) : a ^ k ≤ a ^ n := Nat.pow_le_pow_right ha h
theorem bd_bound {M N : Nat} {ks : List Nat} {R : List Rw} {y : Rw} (hM : 0 < N * M) (hR : ∀ x ∈ R, Lim M x) (hy : Lim M y) (e : R.length = ks.length) (hn : ks.length + 1 ≤ N) (j : Nat) : (bd ks R y j).natAbs ≤ (N * M) ^ N := by
  refine Nat.le_trans (dt_bound (M := M) (N := N) (j :: ks) (R ++ [y]) (fun x hx => (List.mem_append.mp hx).elim (hR x) fun z => by rw [List.mem_singleton.mp z]; exact hy) (by rw [List.length_append, List.length_cons, e]; rfl) (by rw [List.length_cons]; exact hn)) ?_
  exact pow_le' hM hn
theorem St.bound (s : St T L c r rows sign last cs P) {M N : Nat} (hM : 0 < N * M) (h : ∀ x ∈ T, Lim M (fn x)) (hn : T.length ≤ N) : (∀ x ∈ rows, ∀ j, (fn x j).natAbs ≤ (N * M) ^ N) ∧ last.natAbs ≤ (N * M) ^ N := by
  have hT := s.perm.length_eq
  have hl := lim_mem s h
  have hs := s.csl
  have hr := s.rn
  refine ⟨fun x hx j => ?_, ?_⟩
  · obtain ⟨k, hk⟩ := List.mem_iff_getElem?.mp hx
    have kl : k < rows.length := (List.getElem?_eq_some_iff.mp hk).1
    have kP : k < P.length := s.len ▸ kl
    have hy : P[k]? = some P[k] := List.getElem?_eq_getElem kP
    have hyl : Lim M (fn P[k]) := hl _ (List.mem_map_of_mem (List.getElem_mem kP))
    have rl : ∀ m, ∀ x ∈ (P.take m).map fn, Lim M x := fun m x hx => by
      obtain ⟨y, hy, rfl⟩ := List.mem_map.mp hx
      exact hl _ (List.mem_map_of_mem (List.mem_of_mem_take hy))
    have out : ∀ (f : Rw), (∀ j, (f j).natAbs ≤ (N * M) ^ N) → (fn (rowOf L f) j).natAbs ≤ (N * M) ^ N := fun f hf => by
      by_cases hj : j < L
      · rw [fn_rowOf f hj]; exact hf j
      · unfold fn
        rw [List.getD_eq_getElem?_getD, List.getElem?_eq_none (by rw [rowOf_len]; omega)]
        exact Nat.zero_le _
    by_cases hkr : k < r
    · rw [s.tp k x _ hkr hk hy]
      refine out _ fun j => bd_bound hM (rl k) hyl ?_ ?_ j
      · rw [List.length_map, List.length_take, List.length_drop]; omega
      · rw [List.length_drop]; omega
    · rw [s.lo k x _ (by omega) hk hy]
      refine out _ fun j => bd_bound hM (rl r) hyl ?_ ?_ j
      · rw [List.length_map, List.length_take]; omega
      · omega
  · rw [s.la]
    refine Nat.le_trans (dt_bound (M := M) (N := N) cs _ (fun x hx => ?_) (by rw [List.length_map, List.length_take]; omega) (by omega)) (pow_le' hM (by omega))
    obtain ⟨y, hy, rfl⟩ := List.mem_map.mp hx
    exact hl _ (List.mem_map_of_mem (List.mem_of_mem_take hy))
/-- the rows below are combinations of those above, times the last pivot -/
theorem St.below (s : St T L L r rows sign last cs P) {k : Nat} {y : List Int} (hk : r ≤ k) (hy : P[k]? = some y) : ∃ ms, (fun j => last * fn y j) = lc ms ((P.take r).map fn) := by
  have kP : k < P.length := (List.getElem?_eq_some_iff.mp hy).1
  have hx : rows[k]? = some (rows[k]'(s.len ▸ kP)) := List.getElem?_eq_getElem _
  have ex0 := s.lo k _ y hk hx hy
  obtain ⟨ms, hl, h⟩ := bd_ms cs ((P.take r).map fn) (fn y)
  have z : ∀ j, bd cs ((P.take r).map fn) (fn y) j = 0 := fun j => by
    by_cases hj : j < L
    · rw [← fn_rowOf (L := L) (bd cs ((P.take r).map fn) (fn y)) hj, ← ex0]
      exact s.ze k _ hk hx j hj
    · have out : ∀ x ∈ P, fn x j = 0 := fun x hx => by
        have := s.wid x (s.perm.mem_iff.mp hx)
        unfold fn
        rw [List.getD_eq_getElem?_getD, List.getElem?_eq_none (by omega)]
        rfl
      have : ∀ (rest pre : List Rw), (∀ x ∈ rest, x j = 0) → ex (fun x => x j) (dt cs) pre rest = 0 := by
        intro rest
        induction rest with
        | nil => intro _ _; rfl
        | cons w rest ih =>
          intro pre hw
          rw [ex_cons, hw w List.mem_cons_self, ih _ fun x hx => hw x (List.mem_cons_of_mem _ hx), Int.mul_zero, Int.zero_mul]
          rfl
      refine this _ [] fun x hx => ?_
      rcases List.mem_append.mp hx with hx | hx
      · obtain ⟨w, hw, rfl⟩ := List.mem_map.mp hx
        exact out w (List.mem_of_mem_take hw)
      · rw [List.mem_singleton.mp hx]
        exact out y (List.mem_of_getElem? hy)
  have neg : ∀ (ms : List Int) (R : List Rw) (j : Nat), lc (ms.map fun m => -m) R j = - lc ms R j := by
    intro ms
    induction ms with
    | nil => intro R j; cases R <;> rfl
    | cons m ms ih =>
      intro R j
      cases R with
      | nil => rfl
      | cons x R =>
        show -m * x j + 1 * lc (ms.map fun m => -m) R j = -(m * x j + 1 * lc ms R j)
        rw [ih]
        grind
  refine ⟨ms.map fun m => -m, funext fun j => ?_⟩
  have := congrFun h j
  rw [z j, ← s.la] at this
  rw [neg]
  omega
/-- rows times d -/
theorem dt_scale {ks : List Nat} (d : Int) : ∀ (ys p : List Rw), p.length + ys.length = ks.length → dt ks (p ++ ys.map fun y j => d * y j) = d ^ ys.length * dt ks (p ++ ys)
  | [], p, _ => by rw [List.map_nil, List.length_nil, Int.pow_zero, Int.one_mul]
  | y :: ys, p, e => by
    rw [List.length_cons] at e
    have e1 : (fun j => d * y j) = fun j => d * y j + 0 * y j := funext fun j => by rw [Int.zero_mul, Int.add_zero]
    have h := dt_scale (ks := ks) d ys (p ++ [y]) (by rw [List.length_append]; show _ + 1 + _ = _; omega)
    rw [List.append_assoc, List.append_assoc] at h
    rw [List.map_cons, e1, dt_lin ks y y d 0 p _ (by rw [List.length_map]; omega), Int.zero_mul, Int.add_zero, List.length_cons, Int.pow_succ]
    show d * dt ks (p ++ ([y] ++ ys.map fun y j => d * y j)) = _
    rw [h]
    show d * (_ * dt ks (p ++ y :: ys)) = _
    grind
/-- with fewer pivots than columns asked for -/
theorem St.many (s : St T L L r rows sign last cs P) {ks : List Nat} {l : List Rw} (hk : r < ks.length) (hl : l.length = ks.length) (hm : ∀ x ∈ l, x ∈ T.map fn) : dt ks l = 0 := by
  have h1 := dt_scale (ks := ks) last l [] (by rw [List.length_nil]; omega)
  have h2 : dt ks ([] ++ l.map fun y j => last * y j) = 0 := by
    refine dt_many (R := (P.take r).map fn) (by rw [List.length_map, List.length_take]; omega) _ [] (fun _ z => by cases z) (fun y hy => ?_) (by rw [List.length_map]; show 0 + _ = _; omega)
    obtain ⟨x, hx, rfl⟩ := List.mem_map.mp hy
    obtain ⟨w, hw, rfl⟩ := List.mem_map.mp (hm x hx)
    obtain ⟨k, hkw⟩ := List.mem_iff_getElem?.mp (s.perm.mem_iff.mpr hw)
    by_cases hr : r ≤ k
    · exact s.below hr hkw
    · have hi : fn w ∈ (P.take r).map fn := List.mem_map_of_mem (by
        refine List.mem_iff_getElem?.mpr ⟨k, ?_⟩
        rw [List.getElem?_take, if_pos (by omega)]
        exact hkw)
      have one : ∀ (R : List Rw) (x : Rw), x ∈ R → ∃ ms, (fun j => last * x j) = lc ms R := by
        intro R
        induction R with
        | nil => intro x hx; cases hx
        | cons a R ih =>
          intro x hx
          rcases List.mem_cons.mp hx with rfl | hx
          · have zero : ∀ (R : List Rw), lc [] R = fun _ => 0 := fun R => by cases R <;> rfl
            refine ⟨[last], funext fun j => ?_⟩
            show last * x j = last * x j + 1 * lc [] R j
            rw [zero]
            show last * x j = last * x j + 1 * 0
            omega
          · obtain ⟨ms, h⟩ := ih x hx
            refine ⟨0 :: ms, funext fun j => ?_⟩
            show last * x j = 0 * a j + 1 * lc ms R j
            rw [← h]
            show last * x j = 0 * a j + 1 * (last * x j)
            omega
      exact one _ _ hi
  rw [h2] at h1
  have : dt ks l = 0 := by
    rcases Int.mul_eq_zero.mp h1.symm with z | z
    · exact absurd z (Int.pow_ne_zero s.ne)
    · exact z
  exact this
theorem desc_all : ∀ (n : Nat) (cs : List Nat), cs.length = n → cs.Pairwise (· > ·) → (∀ j ∈ cs, j < n) → cs = (List.range n).reverse
  | 0, cs, e, _, _ => by rw [List.length_eq_zero_iff.mp e]; rfl
  | n + 1, [], e, _, _ => by simp at e
  | n + 1, j :: cs, e, s, h => by
    obtain ⟨s1, s2⟩ := List.pairwise_cons.mp s
    have hj := h j List.mem_cons_self
    have low : ∀ (m : Nat) (l : List Nat), l.Pairwise (· > ·) → (∀ x ∈ l, x < m) → l.length ≤ m := by
      intro m l
      induction l generalizing m with
      | nil => intro _ _; exact Nat.zero_le _
      | cons a l ih =>
        intro p q
        obtain ⟨p1, p2⟩ := List.pairwise_cons.mp p
        have := ih a p2 p1
        have := q a List.mem_cons_self
        rw [List.length_cons]
        omega
    have l1 := low j cs s2 s1
    rw [List.length_cons] at e
    have ej : j = n := by omega
    subst ej
    rw [List.range_succ, List.reverse_append]
    show j :: cs = j :: (List.range j).reverse
    rw [desc_all j cs (by omega) s2 s1]
/-- the determinant -/
theorem St.square (s : St T L L r rows sign last cs P) (h : T.length = L) : dt (List.range L).reverse (T.map fn) = if r < L then 0 else sign * last := by
  have hT := s.perm.length_eq
  split
  · exact s.many (by rw [List.length_reverse, List.length_range]; assumption) (by rw [List.length_map, List.length_reverse, List.length_range, h]) (fun x hx => hx)
  · have hr : r = L := by have := s.rn; omega
    subst hr
    rw [s.det _ (by rw [List.length_reverse, List.length_range, h]), s.la, desc_all r cs s.csl s.srt s.lt, List.take_of_length_le (by omega)]
end DT
-- DQ
/-! the rank by minors -/
namespace DT
theorem sub_perm {α : Type} : ∀ (T R S : List α), (R ++ S).Perm T → ∃ l : List α, l.Sublist T ∧ l.Perm R
  | [], R, S, h => by
    have := h.length_eq
    rw [List.length_append, List.length_nil] at this
    have e : R = [] := List.length_eq_zero_iff.mp (by omega)
    subst e
    exact ⟨[], .slnil, .nil⟩
  | x :: T, R, S, h => by
    have hx : x ∈ R ++ S := h.mem_iff.mpr List.mem_cons_self
    rcases List.mem_append.mp hx with hx | hx
    · obtain ⟨a, b, rfl⟩ := List.append_of_mem hx
      have h2 : ((a ++ b) ++ S).Perm T := by
        have : (x :: ((a ++ b) ++ S)).Perm (x :: T) := by
          refine List.Perm.trans ?_ h
          rw [List.append_assoc, List.append_assoc]
          exact (List.perm_middle (a := x) (l₁ := a) (l₂ := b ++ S)).symm
        exact (List.perm_cons x).mp this
      obtain ⟨l, sl, pl⟩ := sub_perm T (a ++ b) S h2
      exact ⟨x :: l, sl.cons_cons x, (pl.cons x).trans (List.perm_middle (a := x) (l₁ := a) (l₂ := b)).symm⟩
    · obtain ⟨a, b, rfl⟩ := List.append_of_mem hx
      have h2 : (R ++ (a ++ b)).Perm T := by
        have : (x :: (R ++ (a ++ b))).Perm (x :: T) := by
          refine List.Perm.trans ?_ h
          have := (List.perm_middle (a := x) (l₁ := R ++ a) (l₂ := b)).symm
          rw [List.append_assoc, List.append_assoc] at this
          exact this
        exact (List.perm_cons x).mp this
      obtain ⟨l, sl, pl⟩ := sub_perm T R (a ++ b) h2
      exact ⟨l, sl.cons x, pl⟩
theorem map_getD {α : Type} (T : List α) (d : α) : (List.range T.length).map (fun i => T.getD i d) = T := by
  apply List.ext_getElem?
  intro i
  by_cases h : i < T.length
  · rw [List.getElem?_map, List.getElem?_range h, List.getElem?_eq_getElem h]
    show some (T.getD i d) = _
    rw [List.getD_eq_getElem?_getD, List.getElem?_eq_getElem h]
    rfl
  · rw [List.getElem?_eq_none (by rw [List.length_map, List.length_range]; omega), List.getElem?_eq_none (by omega)]
theorem asc_sub : ∀ (n : Nat) (l : List Nat), l.Pairwise (· > ·) → (∀ j ∈ l, j < n) → l.reverse.Sublist (List.range n)
  | 0, l, _, h => by
    cases l with
    | nil => exact .slnil
    | cons j l => exact absurd (h j List.mem_cons_self) (Nat.not_lt_zero _)
  | n + 1, [], _, _ => List.nil_sublist _
  | n + 1, j :: l, s, h => by
    obtain ⟨s1, s2⟩ := List.pairwise_cons.mp s
    have hj := h j List.mem_cons_self
    rw [List.range_succ]
    by_cases e : j = n
    · subst e
      rw [List.reverse_cons]
      exact (asc_sub j l s2 fun x hx => s1 x hx).append (List.Sublist.refl _)
    · exact (asc_sub n (j :: l) s fun x hx => by
        rcases List.mem_cons.mp hx with rfl | hx
        · omega
        · have := s1 x hx; omega).trans (List.sublist_append_left _ _)
variable {T : List (List Int)} {L r : Nat} {rows : List (List Int)} {sign last : Int} {cs : List Nat} {P : List (List Int)}
/-- a minor of the rank's size that is not 0 -/
theorem St.minor (s : St T L L r rows sign last cs P) : ∃ rs ks : List Nat, rs.Sublist (List.range T.length) ∧ ks.Sublist (List.range L) ∧ rs.length = r ∧ ks.length = r ∧ dt ks.reverse (rs.map fun i => fn (T.getD i [])) ≠ 0 := by
  have h : (P.take r ++ P.drop r).Perm T := by rw [List.take_append_drop]; exact s.perm
  obtain ⟨l, sl, pl⟩ := sub_perm T (P.take r) (P.drop r) h
  rw [← map_getD T []] at sl
  obtain ⟨rs, sr, rfl⟩ := List.sublist_map_iff.mp sl
  have e := pl.length_eq
  have hr := s.rn
  rw [List.length_map, List.length_take] at e
  refine ⟨rs, cs.reverse, sr, asc_sub L cs s.srt s.lt, by omega, by rw [List.length_reverse, s.csl], ?_⟩
  rw [List.reverse_reverse]
  have ne : dt cs ((P.take r).map fn) ≠ 0 := s.la ▸ s.ne
  have p2 : ((P.take r).map fn).Perm (rs.map fun i => fn (T.getD i [])) := by
    have := (pl.map fn).symm
    rw [List.map_map] at this
    exact this
  exact dt_perm0 p2 (by rw [List.length_map, List.length_take, s.csl]; omega) ne
/-- greater minors are 0 -/
theorem St.minors0 (s : St T L L r rows sign last cs P) {rs ks : List Nat} (h1 : rs.Sublist (List.range T.length)) (h2 : rs.length = ks.length) (h3 : r < ks.length) : dt ks.reverse (rs.map fun i => fn (T.getD i [])) = 0 := by
  refine s.many (by rw [List.length_reverse]; exact h3) (by rw [List.length_map, List.length_reverse, h2]) fun x hx => ?_
  obtain ⟨i, hi, rfl⟩ := List.mem_map.mp hx
  have hi' := List.mem_range.mp (h1.subset hi)
  refine List.mem_map_of_mem ?_
  rw [List.getD_eq_getElem?_getD, List.getElem?_eq_getElem hi']
  exact List.getElem_mem hi'
/-! the rank as a property of the rows: the greatest size of a minor that is not 0 -/
def Zr (l : List Rw) (s : Nat) : Prop := ∀ (ks : List Nat) (x : List Rw), ks.length = s → x.length = s → (∀ y ∈ x, y ∈ l) → dt ks x = 0
def Rk (l : List Rw) (r : Nat) : Prop := ¬ Zr l r ∧ ∀ s, r < s → Zr l s
theorem Rk.one {l : List Rw} {r s : Nat} (a : Rk l r) (b : Rk l s) : r = s := by
  rcases Nat.lt_trichotomy r s with h | h | h
  · exact absurd (a.2 s h) b.1
  · exact h
  · exact absurd (b.2 r h) a.1
theorem St.rk (s : St T L L r rows sign last cs P) : Rk (T.map fn) r := by
  refine ⟨fun z => ?_, fun t ht ks x hk hx hm => s.many (by omega) (by omega) hm⟩
  refine absurd (z cs ((P.take r).map fn) s.csl (by have := s.rn; rw [List.length_map, List.length_take]; omega) fun y hy => ?_) (s.la ▸ s.ne)
  obtain ⟨w, hw, rfl⟩ := List.mem_map.mp hy
  exact List.mem_map_of_mem (s.perm.mem_iff.mp (List.mem_of_mem_take hw))
/-- rows that are combinations of others have no more minors -/
theorem Zr.span {l l' : List Rw} {s : Nat} (h : Zr l s) (sp : ∀ y ∈ l', ∃ ms, ∃ R : List Rw, (∀ z ∈ R, z ∈ l) ∧ y = lc ms R) : Zr l' s := by
  have key : ∀ (ks : List Nat), ks.length = s → ∀ (x p : List Rw), (∀ y ∈ p, y ∈ l) → (∀ y ∈ x, y ∈ l') → p.length + x.length = s → dt ks (p ++ x) = 0 := by
    intro ks hk x
    induction x with
    | nil =>
      intro p hp _ e
      rw [List.append_nil]
      exact h ks p hk e hp
    | cons y x ih =>
      intro p hp hx e
      obtain ⟨ms, R, hR, rfl⟩ := sp y (hx _ List.mem_cons_self)
      rw [List.length_cons] at e
      refine dt_lc (by omega) ms R fun z hz => ?_
      have := ih (p ++ [z]) (fun w hw => (List.mem_append.mp hw).elim (hp w) fun q => by rw [List.mem_singleton.mp q]; exact hR z hz) (fun w hw => hx w (List.mem_cons_of_mem _ hw)) (by rw [List.length_append]; show _ + 1 + _ = _; omega)
      rw [List.append_assoc] at this
      exact this
  exact fun ks x hk hx hm => key ks hk x [] (fun _ z => by cases z) hm (by show 0 + _ = _; omega)
theorem Rk.span {l l' : List Rw} {r : Nat} (h : Rk l r) (a : ∀ y ∈ l', ∃ ms, ∃ R : List Rw, (∀ z ∈ R, z ∈ l) ∧ y = lc ms R) (b : ∀ y ∈ l, ∃ ms, ∃ R : List Rw, (∀ z ∈ R, z ∈ l') ∧ y = lc ms R) : Rk l' r :=
  ⟨fun z => h.1 (z.span b), fun s hs => (h.2 s hs).span a⟩
theorem Zr.col {l : List Rw} {s : Nat} {j k : Nat} {c : Int} (h : Zr l s) : Zr (l.map (colOp j k c)) s := fun ks x hk hx hm => by
  obtain ⟨w, hw, rfl⟩ : ∃ w : List Rw, (∀ y ∈ w, y ∈ l) ∧ x = w.map (colOp j k c) := by
    clear hx
    induction x with
    | nil => exact ⟨[], (fun _ z => by cases z), rfl⟩
    | cons y x ih =>
      obtain ⟨w, hw, e⟩ := ih fun z hz => hm z (List.mem_cons_of_mem _ hz)
      obtain ⟨u, hu, rfl⟩ := List.mem_map.mp (hm y List.mem_cons_self)
      exact ⟨u :: w, fun z hz => (List.mem_cons.mp hz).elim (fun e => e ▸ hu) (hw z), by rw [e]; rfl⟩
  rw [List.length_map] at hx
  exact dt_col0 (s := s) (fun cs hc => h cs w hc hx hw) ks hk
theorem colOp_back {j k : Nat} {c : Int} (h : j ≠ k) (x : Rw) : colOp j k (-c) (colOp j k c x) = x := by
  funext i
  unfold colOp
  by_cases e : i = j
  · subst e
    rw [if_pos rfl, if_pos rfl, if_neg (fun z => h z.symm)]
    grind
  · rw [if_neg e, if_neg e]
theorem Rk.col {l : List Rw} {r j k : Nat} {c : Int} (n : j ≠ k) (h : Rk l r) : Rk (l.map (colOp j k c)) r := by
  refine ⟨fun z => h.1 ?_, fun s hs => (h.2 s hs).col⟩
  have := z.col (j := j) (k := k) (c := -c)
  rw [List.map_map, show (colOp j k (-c) ∘ colOp j k c) = id from funext (colOp_back n), List.map_id] at this
  exact this
end DT
-- DG
/-! tables with numbers on the diagonal; rows exchanged, rows and columns added -/
namespace DT
theorem ex_last (f : Rw → Int) (D : List Rw → Int) (y : Rw) : ∀ (l pre : List Rw), (∀ x ∈ l, f x = 0) → ex f D pre (l ++ [y]) = f y * D (pre ++ l)
  | [], pre, _ => by
    show sg 0 * f y * D (pre ++ []) + 0 = _
    rw [sg_zero, Int.one_mul, Int.add_zero]
  | x :: l, pre, h => by
    show ex f D pre (x :: (l ++ [y])) = _
    rw [ex_cons, h x List.mem_cons_self, Int.mul_zero, Int.zero_mul, Int.zero_add, ex_last f D y l (pre ++ [x]) fun z hz => h z (List.mem_cons_of_mem _ hz), List.append_assoc]
    rfl
/-- d at the place i -/
def E (d : Nat → Int) (i : Nat) : Rw := fun j => if i = j then d i else 0
def prodI (l : List Int) : Int := l.foldr (· * ·) 1
theorem prodI_snoc (x : Int) : ∀ l : List Int, prodI (l ++ [x]) = prodI l * x
  | [] => by show x * 1 = 1 * x; omega
  | a :: l => by
    show a * prodI (l ++ [x]) = a * prodI l * x
    rw [prodI_snoc x l, Int.mul_assoc]
theorem dt_diag (d : Nat → Int) : ∀ (n : Nat) (ks : List Nat), ks.length = n → ks.Nodup → dt ks.reverse (ks.map (E d)) = prodI (ks.map d) := by
  intro n
  induction n with
  | zero => intro ks h _; rw [List.length_eq_zero_iff.mp h]; rfl
  | succ n ih =>
    intro ks h nd
    obtain ⟨l, k, rfl⟩ : ∃ l k, ks = l ++ [k] := ⟨ks.dropLast, ks.getLast (by intro z; rw [z] at h; simp at h), (List.dropLast_concat_getLast _).symm⟩
    have hl : l.length = n := by rw [List.length_append] at h; simpa using h
    have hk : k ∉ l := fun z => by
      rw [List.nodup_append] at nd
      exact nd.2.2 k z k (by simp) rfl
    have nl : l.Nodup := (List.nodup_append.mp nd).1
    rw [List.reverse_append, List.map_append, List.map_append]
    show dt (k :: l.reverse) (l.map (E d) ++ [E d k]) = prodI (l.map d ++ [d k])
    rw [dt_cons, ex_last _ _ _ _ _ (fun x hx => ?_), prodI_snoc]
    · show (if k = k then d k else 0) * dt l.reverse (l.map (E d)) = _
      rw [if_pos rfl, ih l hl nl, Int.mul_comm]
    · obtain ⟨i, hi, rfl⟩ := List.mem_map.mp hx
      show (if i = k then d i else 0) = 0
      exact if_neg (fun z : i = k => hk (z ▸ hi))
theorem prodI_ne : ∀ l : List Int, (∀ x ∈ l, x ≠ 0) → prodI l ≠ 0
  | [], _ => by decide
  | a :: l, h => fun z => by
    rcases Int.mul_eq_zero.mp z with z | z
    · exact h a List.mem_cons_self z
    · exact prodI_ne l (fun x hx => h x (List.mem_cons_of_mem _ hx)) z
theorem lc_nil (R : List Rw) : lc [] R = fun _ => 0 := by cases R <;> rfl
theorem mem_lc : ∀ {R : List Rw} {x : Rw}, x ∈ R → ∃ ms, x = lc ms R
  | [], x, h => by cases h
  | a :: R, x, h => by
    rcases List.mem_cons.mp h with rfl | h
    · refine ⟨[1], funext fun j => ?_⟩
      show x j = 1 * x j + 1 * lc [] R j
      rw [lc_nil]
      show x j = 1 * x j + 1 * 0
      omega
    · obtain ⟨ms, e⟩ := mem_lc h
      refine ⟨0 :: ms, funext fun j => ?_⟩
      show x j = 0 * a j + 1 * lc ms R j
      rw [← e]
      omega
/-- the rank of a table whose rows are those of a diagonal, or 0 -/
theorem rk_diag (d : Nat → Int) (l : List Rw) (ks : List Nat) (nd : ks.Nodup) (h1 : ∀ i ∈ ks, d i ≠ 0 ∧ E d i ∈ l) (h2 : ∀ x ∈ l, (∃ i ∈ ks, x = E d i) ∨ x = fun _ => 0) : Rk l ks.length := by
  refine ⟨fun z => ?_, fun s hs cs x hc hx hm => ?_⟩
  · have := z ks.reverse (ks.map (E d)) (by rw [List.length_reverse]) (by rw [List.length_map]) fun y hy => by
      obtain ⟨i, hi, rfl⟩ := List.mem_map.mp hy
      exact (h1 i hi).2
    rw [dt_diag d _ ks rfl nd] at this
    refine prodI_ne _ (fun y hy => ?_) this
    obtain ⟨i, hi, rfl⟩ := List.mem_map.mp hy
    exact (h1 i hi).1
  · refine dt_many (R := ks.map (E d)) (by rw [List.length_map]; omega) x [] (fun _ z => by cases z) (fun y hy => ?_) (by show 0 + _ = _; omega)
    rcases h2 y (hm y hy) with ⟨i, hi, rfl⟩ | rfl
    · exact mem_lc (List.mem_map_of_mem hi)
    · exact ⟨[], (lc_nil _).symm⟩
/-- a row added to another one -/
def addR (f : Int) (x y : Rw) : Rw := fun j => x j + f * y j
theorem Rk.sub {l l' : List Rw} {r : Nat} (h : Rk l r) (e : ∀ x, x ∈ l' ↔ x ∈ l) : Rk l' r :=
  h.span (fun y hy => by obtain ⟨ms, z⟩ := mem_lc (R := [y]) (x := y) List.mem_cons_self; exact ⟨ms, [y], fun w hw => by rw [List.mem_singleton.mp hw]; exact (e y).mp hy, z⟩)
    (fun y hy => by obtain ⟨ms, z⟩ := mem_lc (R := [y]) (x := y) List.mem_cons_self; exact ⟨ms, [y], fun w hw => by rw [List.mem_singleton.mp hw]; exact (e y).mpr hy, z⟩)
theorem addR_lc (f : Int) (x y : Rw) : addR f x y = lc [1, f] [x, y] := funext fun j => by
  show x j + f * y j = 1 * x j + 1 * (f * y j + 1 * 0)
  omega
theorem addR_back (f : Int) (x y : Rw) : addR (-f) (addR f x y) y = x := funext fun j => by
  show x j + f * y j + -f * y j = x j
  grind
theorem Rk.add {l : List Rw} {r i o : Nat} {x y : Rw} {f : Int} (h : Rk l r) (n : i ≠ o) (hx : l[i]? = some x) (hy : l[o]? = some y) : Rk (l.set i (addR f x y)) r := by
  have il : i < l.length := (List.getElem?_eq_some_iff.mp hx).1
  have hy2 : (l.set i (addR f x y))[o]? = some y := by rw [List.getElem?_set_ne n]; exact hy
  have hn : (l.set i (addR f x y))[i]? = some (addR f x y) := List.getElem?_set_self il
  have one : ∀ (l : List Rw) (z : Rw), z ∈ l → ∃ ms, ∃ R : List Rw, (∀ w ∈ R, w ∈ l) ∧ z = lc ms R := fun l z hz => by
    obtain ⟨ms, e⟩ := mem_lc (R := [z]) (x := z) List.mem_cons_self
    exact ⟨ms, [z], fun w hw => by rw [List.mem_singleton.mp hw]; exact hz, e⟩
  refine h.span (fun z hz => ?_) (fun z hz => ?_)
  · rcases List.mem_or_eq_of_mem_set hz with hz | rfl
    · exact one l z hz
    · refine ⟨[1, f], [x, y], fun w hw => ?_, addR_lc f x y⟩
      rcases List.mem_cons.mp hw with rfl | hw
      · exact List.mem_of_getElem? hx
      · rw [List.mem_singleton.mp hw]; exact List.mem_of_getElem? hy
  · obtain ⟨k, hk⟩ := List.mem_iff_getElem?.mp hz
    by_cases e : k = i
    · subst e
      rw [hx] at hk
      cases hk
      refine ⟨[1, -f], [addR f x y, y], fun w hw => ?_, (addR_back f x y).symm.trans (addR_lc _ _ _)⟩
      rcases List.mem_cons.mp hw with rfl | hw
      · exact List.mem_of_getElem? hn
      · rw [List.mem_singleton.mp hw]; exact List.mem_of_getElem? hy2
    · exact one _ z (List.mem_of_getElem? (i := k) (by rw [List.getElem?_set_ne (fun z => e z.symm)]; exact hk))
theorem set_split {α : Type} {l : List α} {i : Nat} {x z : α} (h : l[i]? = some x) : ∃ a b, l = a ++ x :: b ∧ a.length = i ∧ l.set i z = a ++ z :: b := by
  have il : i < l.length := (List.getElem?_eq_some_iff.mp h).1
  have e : l.drop i = x :: l.drop (i + 1) := by
    rw [List.drop_eq_getElem_cons il]
    rw [List.getElem?_eq_getElem il] at h
    cases h
    rfl
  refine ⟨l.take i, l.drop (i + 1), ?_, by rw [List.length_take]; omega, ?_⟩
  · rw [← e, List.take_append_drop]
  · rw [List.set_eq_take_append_cons_drop, if_pos il]
theorem dt_add {cs : List Nat} {l : List Rw} {i o : Nat} {x y : Rw} {f : Int} (n : i ≠ o) (hx : l[i]? = some x) (hy : l[o]? = some y) (e : l.length = cs.length) : dt cs (l.set i (addR f x y)) = dt cs l := by
  obtain ⟨a, b, el, ea, es⟩ := set_split (z := addR f x y) hx
  have ll : a.length + b.length + 1 = cs.length := by rw [← e, el, List.length_append, List.length_cons]; omega
  have e1 : addR f x y = fun j => 1 * x j + f * y j := funext fun j => by show _ = 1 * x j + f * y j; rw [Int.one_mul]; rfl
  rw [es, e1, dt_lin cs x y 1 f a b ll, ← el, Int.one_mul]
  have z : dt cs (a ++ y :: b) = 0 := by
    rw [el] at hy
    by_cases lt : o < i
    · rw [List.getElem?_append_left (by omega)] at hy
      obtain ⟨p, q, rfl⟩ := List.append_of_mem (List.mem_of_getElem? hy)
      rw [show (p ++ y :: q) ++ y :: b = p ++ y :: (q ++ y :: b) by rw [List.append_assoc]; rfl]
      rw [List.length_append, List.length_cons] at ll
      exact dt_eq (by omega)
    · rw [List.getElem?_append_right (by omega), show o - a.length = (o - a.length - 1) + 1 by omega, List.getElem?_cons_succ] at hy
      obtain ⟨p, q, rfl⟩ := List.append_of_mem (List.mem_of_getElem? hy)
      rw [List.length_append, List.length_cons] at ll
      exact dt_eq (by omega)
  rw [z, Int.mul_zero, Int.add_zero]
theorem mem_swp {α : Type} {l : List α} {i j : Nat} (hi : i < l.length) (hj : j < l.length) (x : α) : x ∈ swp l i j ↔ x ∈ l := by
  constructor
  · intro h
    obtain ⟨k, hk⟩ := List.mem_iff_getElem?.mp h
    rw [swp_get hi hj] at hk
    split at hk
    · exact List.mem_of_getElem? hk
    · split at hk
      · exact List.mem_of_getElem? hk
      · exact List.mem_of_getElem? hk
  · intro h
    obtain ⟨k, hk⟩ := List.mem_iff_getElem?.mp h
    by_cases e1 : k = i
    · refine List.mem_of_getElem? (i := j) ?_
      rw [swp_get hi hj, if_pos rfl, ← e1]; exact hk
    · by_cases e2 : k = j
      · refine List.mem_of_getElem? (i := i) ?_
        rw [swp_get hi hj]
        by_cases e3 : i = j
        · exact absurd (e2.trans e3.symm) e1
        · rw [if_neg e3, if_pos rfl, ← e2]; exact hk
      · refine List.mem_of_getElem? (i := k) ?_
        rw [swp_get hi hj, if_neg e2, if_neg e1]; exact hk
theorem dt_swp {cs : List Nat} {l : List Rw} {i j : Nat} (n : i ≠ j) (hi : i < l.length) (hj : j < l.length) (e : l.length = cs.length) : dt cs (swp l i j) = - dt cs l := by
  have key : ∀ {i j : Nat}, i < j → j < l.length → dt cs (swp l i j) = - dt cs l := by
    intro i j h hj
    obtain ⟨a, m, b, x, y, el, ea, em, _, _⟩ := two_split h hj
    have es : swp l i j = a ++ y :: (m ++ x :: b) := by
      rw [el, ← ea, show j = a.length + 1 + m.length by omega]
      exact swp_split a m b x y
    rw [es, el, dt_exch (x := x) (y := y) ?_]
    · grind
    · rw [← e, el, List.length_append, List.length_cons, List.length_append, List.length_cons]; omega
  rcases Nat.lt_or_gt_of_ne n with h | h
  · exact key h hj
  · have : swp l i j = swp l j i := by
      apply List.ext_getElem?
      intro k
      rw [swp_get hi hj, swp_get hj hi]
      by_cases e1 : k = j
      · rw [if_pos e1]
        by_cases e2 : k = i
        · exact absurd (e2.symm.trans e1) n
        · rw [if_neg e2, if_pos e1]
      · rw [if_neg e1]
        by_cases e2 : k = i
        · rw [if_pos e2, if_pos e2]
        · rw [if_neg e2, if_neg e2, if_neg e1]
    rw [this]
    exact key h hi
end DT
-- DC
/-! whole solutions of a square system, times its determinant -/
namespace DT
def wsum : List Int → List Int → Int
  | m :: ms, x :: xs => m * x + wsum ms xs
  | _, _ => 0
theorem dt_lc_sum {cs : List Nat} {p r : List Rw} (e : p.length + r.length + 1 = cs.length) : ∀ (ms : List Int) (R : List Rw), dt cs (p ++ lc ms R :: r) = wsum ms (R.map fun y => dt cs (p ++ y :: r))
  | [], [] => dt_zrow cs _ p r (fun _ _ => rfl) e
  | [], _ :: _ => dt_zrow cs _ p r (fun _ _ => rfl) e
  | _ :: _, [] => dt_zrow cs _ p r (fun _ _ => rfl) e
  | m :: ms, y :: R => by
    show dt cs (p ++ (fun j => m * y j + 1 * lc ms R j) :: r) = m * dt cs (p ++ y :: r) + wsum ms (R.map fun y => dt cs (p ++ y :: r))
    rw [dt_lin cs y (lc ms R) m 1 p r e, dt_lc_sum e ms R, Int.one_mul]
/-- 1 at the place i -/
def unit (i : Nat) : Rw := fun j => if i = j then 1 else 0
theorem lc_unit (x : Rw) (j : Nat) : ∀ ks : List Nat, ks.Nodup → lc (ks.map x) (ks.map unit) j = if j ∈ ks then x j else 0
  | [], _ => rfl
  | k :: ks, nd => by
    obtain ⟨n1, n2⟩ := List.nodup_cons.mp nd
    show x k * (if k = j then 1 else 0) + 1 * lc (ks.map x) (ks.map unit) j = _
    rw [lc_unit x j ks n2]
    by_cases e : k = j
    · subst e
      rw [if_pos rfl, if_neg n1, if_pos List.mem_cons_self]
      omega
    · rw [if_neg e]
      by_cases h : j ∈ ks
      · rw [if_pos h, if_pos (List.mem_cons_of_mem _ h)]; omega
      · rw [if_neg h, if_neg (fun z => (List.mem_cons.mp z).elim (fun z => e z.symm) h)]; omega
theorem bd_unit_sum {cs : List Nat} {R : List Rw} {x : Rw} {j : Nat} (e : R.length = cs.length) (nd : (j :: cs).Nodup) : bd cs R x j = wsum ((j :: cs).map x) ((j :: cs).map fun k => bd cs R (unit k) j) := by
  have h1 := dt_lc_sum (cs := j :: cs) (p := R) (r := []) (by rw [e]; rfl) ((j :: cs).map x) ((j :: cs).map unit)
  rw [List.map_map] at h1
  have h2 : dt (j :: cs) (R ++ x :: []) = dt (j :: cs) (R ++ lc ((j :: cs).map x) ((j :: cs).map unit) :: []) := by
    have hz := dt_zrow (j :: cs) (fun i => 1 * x i + -1 * lc ((j :: cs).map x) ((j :: cs).map unit) i) R [] (fun i hi => by
      show 1 * x i + -1 * lc ((j :: cs).map x) ((j :: cs).map unit) i = 0
      rw [lc_unit x i (j :: cs) nd, if_pos hi]
      omega) (by rw [e]; rfl)
    rw [dt_lin (j :: cs) x (lc ((j :: cs).map x) ((j :: cs).map unit)) 1 (-1) R [] (by rw [e]; rfl)] at hz
    omega
  exact h2.trans h1
theorem bd_unit_self {cs : List Nat} {R : List Rw} {j : Nat} (e : R.length = cs.length) (hj : j ∉ cs) : bd cs R (unit j) j = dt cs R := by
  show ex (fun x => x j) (dt cs) [] (R ++ unit j :: []) = dt cs R
  rw [ex_only (m := cs.length) (fun x => x j) (fun p r el => dt_zrow cs (unit j) p r (fun i hi => if_neg (fun z : j = i => hj (z ▸ hi))) el) R [] [] (by show 0 + _ + 1 + 0 = _; omega)]
  show 1 * (if j = j then 1 else 0) * dt cs ([] ++ (R ++ [])) = _
  rw [if_pos rfl, List.append_nil, Int.one_mul, Int.one_mul]
  rfl
/-- the number in column k of the solution for the side j, times the determinant -/
def sol (cs : List Nat) (R : List Rw) (j k : Nat) : Int := - bd cs R (unit k) j
theorem wsum_neg : ∀ (ms xs : List Int), wsum ms (xs.map fun x => -x) = - wsum ms xs
  | [], [] => rfl
  | [], _ :: _ => rfl
  | _ :: _, [] => rfl
  | m :: ms, x :: xs => by
    show m * -x + wsum ms (xs.map fun x => -x) = -(m * x + wsum ms xs)
    rw [wsum_neg ms xs]
    grind
/-- each row: the sum of its numbers times the solution is the determinant times its side -/
theorem cramer {cs : List Nat} {R : List Rw} {x : Rw} {j : Nat} (e : R.length = cs.length) (nd : cs.Nodup) (hj : j ∉ cs) (hx : x ∈ R) : wsum (cs.map x) (cs.map (sol cs R j)) = dt cs R * x j := by
  have h1 := bd_unit_sum (x := x) (j := j) e (List.nodup_cons.mpr ⟨hj, nd⟩)
  rw [bd_in e hx, List.map_cons, List.map_cons] at h1
  have h2 : (0 : Int) = x j * bd cs R (unit j) j + wsum (cs.map x) (cs.map fun k => bd cs R (unit k) j) := h1
  rw [bd_unit_self e hj] at h2
  have h3 := wsum_neg (cs.map x) (cs.map fun k => bd cs R (unit k) j)
  rw [List.map_map] at h3
  have h4 : wsum (cs.map x) (cs.map (sol cs R j)) = - wsum (cs.map x) (cs.map fun k => bd cs R (unit k) j) := h3
  rw [h4]
  grind
/-- the relation of a row to numbers S at the columns -/
def Rel (cs : List Nat) (S : List Int) (d : Int) (j : Nat) (x : Rw) : Prop := wsum (cs.map x) S = d * x j
theorem wsum_lin (a b : Int) (x y : Rw) : ∀ (cs : List Nat) (S : List Int), wsum (cs.map fun i => a * x i + b * y i) S = a * wsum (cs.map x) S + b * wsum (cs.map y) S
  | [], [] => by show (0 : Int) = a * 0 + b * 0; omega
  | [], _ :: _ => by show (0 : Int) = a * 0 + b * 0; omega
  | _ :: _, [] => by show (0 : Int) = a * 0 + b * 0; omega
  | c :: cs, s :: S => by
    show (a * x c + b * y c) * s + wsum (cs.map fun i => a * x i + b * y i) S = a * (x c * s + wsum (cs.map x) S) + b * (y c * s + wsum (cs.map y) S)
    rw [wsum_lin a b x y cs S]
    grind
theorem wsum_zero : ∀ (cs : List Nat) (S : List Int), wsum (cs.map fun _ => (0 : Int)) S = 0
  | [], [] => rfl
  | [], _ :: _ => rfl
  | _ :: _, [] => rfl
  | c :: cs, s :: S => by
    show 0 * s + wsum (cs.map fun _ => (0 : Int)) S = 0
    rw [wsum_zero cs S]
    omega
theorem Rel.lin {cs : List Nat} {S : List Int} {d : Int} {j : Nat} {x y : Rw} (a b : Int) (hx : Rel cs S d j x) (hy : Rel cs S d j y) : Rel cs S d j (fun i => a * x i + b * y i) := by
  show wsum (cs.map fun i => a * x i + b * y i) S = d * (a * x j + b * y j)
  rw [wsum_lin, hx, hy]
  grind
theorem Rel.lc {cs : List Nat} {S : List Int} {d : Int} {j : Nat} : ∀ {ms : List Int} {R : List Rw}, (∀ x ∈ R, Rel cs S d j x) → Rel cs S d j (lc ms R)
  | [], [], _ => by show wsum (cs.map fun _ => (0 : Int)) S = d * 0; rw [wsum_zero, Int.mul_zero]
  | [], _ :: _, _ => by show wsum (cs.map fun _ => (0 : Int)) S = d * 0; rw [wsum_zero, Int.mul_zero]
  | _ :: _, [], _ => by show wsum (cs.map fun _ => (0 : Int)) S = d * 0; rw [wsum_zero, Int.mul_zero]
  | m :: ms, x :: R, h => Rel.lin m 1 (h x List.mem_cons_self) (Rel.lc fun y hy => h y (List.mem_cons_of_mem _ hy))
/-- a row of bordered minors keeps the relation -/
theorem Rel.bd {cs ks : List Nat} {S : List Int} {d : Int} {j : Nat} {R : List Rw} {x : Rw} (hR : ∀ y ∈ R, Rel cs S d j y) (hx : Rel cs S d j x) : Rel cs S d j (bd ks R x) := by
  obtain ⟨ms, _, h⟩ := bd_ms ks R x
  rw [h]
  exact Rel.lin (dt ks R) 1 hx (Rel.lc hR)
end DT
-- DE
/-! what an elimination leaves: its pivots are not 0; the numbers found from the last row up -/
namespace DT
def Pv (r : Nat) (rows : List (List Int)) (cs : List Nat) : Prop := ∀ (k : Nat) (x : List Int), k < r → rows[k]? = some x → fn x (cs.getD (r - 1 - k) 0) ≠ 0
theorem Pv.init (rows : List (List Int)) : Pv 0 rows [] := fun k _ h => absurd h (Nat.not_lt_zero _)
theorem Pv.swap {r i : Nat} {rows : List (List Int)} {cs : List Nat} (h : Pv r rows cs) (hr : r < i) (hi : i < rows.length) : Pv r (swp rows r i) cs := fun k x hk hx => h k x hk (by
  rw [swp_get (by omega) hi, if_neg (by omega), if_neg (by omega)] at hx
  exact hx)
theorem Pv.step {r c : Nat} {rows rows2 : List (List Int)} {cs : List Nat} {p : List Int} (h : Pv r rows cs) (hp : rows[r]? = some p) (np : fn p c ≠ 0) (h2 : ∀ k, k ≤ r → rows2[k]? = rows[k]?) : Pv (r + 1) rows2 (c :: cs) := fun k x hk hx => by
  rw [h2 k (by omega)] at hx
  by_cases e : k = r
  · subst e
    rw [hp] at hx
    cases hx
    rw [show k + 1 - 1 - k = 0 by omega]
    exact np
  · rw [show r + 1 - 1 - k = (r - 1 - k) + 1 by omega]
    exact h k x (by omega) hx
/-! columns -/
theorem dt_trunc (cs : List Nat) (l : List Rw) : dt cs (l.map fun x j => if j ∈ cs then x j else 0) = dt cs l := by
  rw [← df_dt, df_map, List.map_map, ← df_dt]
  congr 1
  refine List.map_congr_left fun j hj => ?_
  funext x
  show (if j ∈ cs then x j else 0) = x j
  rw [if_pos hj]
theorem dt_agree {α : Type} {cs : List Nat} {X : List α} {g g' : α → Rw} (h : ∀ x ∈ X, ∀ j ∈ cs, g x j = g' x j) : dt cs (X.map g) = dt cs (X.map g') := by
  rw [← dt_trunc cs (X.map g), ← dt_trunc cs (X.map g'), List.map_map, List.map_map]
  congr 1
  refine List.map_congr_left fun x hx => ?_
  funext j
  show (if j ∈ cs then g x j else 0) = if j ∈ cs then g' x j else 0
  split
  · rename_i hj; exact h x hx j hj
  · rfl
theorem isum_rev {α : Type} (f : α → Int) : ∀ l : List α, isum (l.reverse.map f) = isum (l.map f)
  | [] => rfl
  | a :: l => by
    rw [List.reverse_cons, List.map_append, isum_app, isum_rev f l, List.map_cons, isum_cons]
    show isum (l.map f) + (f a + 0) = f a + isum (l.map f)
    omega
theorem wsum_isum (f g : Nat → Int) : ∀ l : List Nat, wsum (l.map f) (l.map g) = isum (l.map fun k => f k * g k)
  | [] => rfl
  | a :: l => by
    show f a * g a + wsum (l.map f) (l.map g) = isum (_ :: _)
    rw [wsum_isum f g l, isum_cons]
/-- the sum of the products -/
def dot (n : Nat) (x S : Nat → Int) : Int := isum ((List.range n).map fun j => x j * S j)
theorem dot_wsum (n : Nat) (x S : Nat → Int) : wsum ((List.range n).reverse.map x) ((List.range n).reverse.map S) = dot n x S := by
  rw [wsum_isum, isum_rev]; rfl
theorem dot_succ (n : Nat) (x S : Nat → Int) : dot (n + 1) x S = dot n x S + x n * S n := by
  unfold dot
  rw [List.range_succ, List.map_append, isum_app]
  show _ + (x n * S n + 0) = _
  omega
theorem isum_nil {α : Type} {f : α → Int} : ∀ {l : List α}, (∀ a ∈ l, f a = 0) → isum (l.map f) = 0
  | [], _ => rfl
  | a :: l, h => by
    rw [List.map_cons, isum_cons, h a List.mem_cons_self, isum_nil fun b hb => h b (List.mem_cons_of_mem _ hb)]
    rfl
/-- the sum from behind k on -/
def tl (x S : Nat → Int) (k m : Nat) : Int := isum ((List.range m).map fun i => x (k + 1 + i) * S (k + 1 + i))
theorem tl_zero (x S : Nat → Int) (k : Nat) : tl x S k 0 = 0 := rfl
theorem tl_succ (x S : Nat → Int) (k m : Nat) : tl x S k (m + 1) = tl x S k m + x (k + 1 + m) * S (k + 1 + m) := by
  unfold tl
  rw [List.range_succ, List.map_append, isum_app]
  show _ + (x (k + 1 + m) * S (k + 1 + m) + 0) = _
  omega
theorem dot_from {n k : Nat} {x S : Nat → Int} (hk : k < n) (h : ∀ j, j < k → x j = 0) : dot n x S = x k * S k + tl x S k (n - (k + 1)) := by
  unfold dot tl
  obtain ⟨m, rfl⟩ : ∃ m, n = k + (1 + m) := ⟨n - k - 1, by omega⟩
  rw [List.range_add, List.map_append, isum_app, isum_nil fun a ha => by rw [h a (List.mem_range.mp ha), Int.zero_mul], List.map_map, List.range_add, List.map_append, isum_app, List.map_map, show k + (1 + m) - (k + 1) = m by omega]
  have e : (List.range 1).map ((fun j => x j * S j) ∘ fun i => k + i) = [x k * S k] := rfl
  rw [e, show isum [x k * S k] = x k * S k by show _ + 0 = _; omega, Int.zero_add]
  congr 2
  refine List.map_congr_left fun i _ => ?_
  show x (k + (1 + i)) * S (k + (1 + i)) = _
  rw [← Nat.add_assoc]
section
variable {T : List (List Int)} {L n r : Nat} {rows : List (List Int)} {sign last : Int} {cs : List Nat} {P : List (List Int)}
/-- a square beside which further columns stand: fewer pivots than rows, the determinant is 0 -/
theorem St.side0 (s : St T L n r rows sign last cs P) (h : T.length = n) (hr : r < n) : dt (List.range n).reverse (T.map fn) = 0 := by
  have hT := s.perm.length_eq
  have hP : r < P.length := by omega
  have hR : r < rows.length := by rw [s.len]; exact hP
  have hy : P[r]? = some P[r] := List.getElem?_eq_getElem hP
  have hx : rows[r]? = some rows[r] := List.getElem?_eq_getElem hR
  have ex := s.lo r _ _ (Nat.le_refl _) hx hy
  have z : ∀ j ∈ (List.range n).reverse, bd cs ((P.take r).map fn) (fn P[r]) j = 0 := fun j hj => by
    have hj : j < n := by rw [List.mem_reverse] at hj; exact List.mem_range.mp hj
    have := s.ze r _ (Nat.le_refl _) hx j hj
    rw [ex, fn_rowOf _ (by have := s.cl; omega)] at this
    exact this
  have el : ((P.take r).map fn).length + ((P.drop (r + 1)).map fn).length + 1 = ((List.range n).reverse).length := by
    rw [List.length_map, List.length_map, List.length_take, List.length_drop, List.length_reverse, List.length_range]; omega
  have h1 := dt_zrow (List.range n).reverse _ ((P.take r).map fn) ((P.drop (r + 1)).map fn) z el
  rw [dt_bd (fun y hy => hy) el] at h1
  have eP : P.map fn = (P.take r).map fn ++ fn P[r] :: (P.drop (r + 1)).map fn := by
    have : P = P.take r ++ P[r] :: P.drop (r + 1) := by rw [List.getElem_cons_drop, List.take_append_drop]
    have e2 := congrArg (List.map fn) this
    rw [List.map_append, List.map_cons] at e2
    exact e2
  rw [← eP] at h1
  rw [s.det _ (by rw [List.length_reverse, List.length_range, h])]
  rcases Int.mul_eq_zero.mp h1 with z | z
  · exact absurd (s.la.trans z) s.ne
  · rw [z, Int.mul_zero]
theorem St.full (s : St T L n n rows sign last cs P) (h : T.length = n) : cs = (List.range n).reverse ∧ last = dt (List.range n).reverse (P.map fn) ∧ dt (List.range n).reverse (T.map fn) = sign * last := by
  have hT := s.perm.length_eq
  have e := desc_all n cs s.csl s.srt s.lt
  have e2 : last = dt (List.range n).reverse (P.map fn) := by
    have := s.la
    rw [e, List.take_of_length_le (by omega)] at this
    exact this
  refine ⟨e, e2, ?_⟩
  rw [s.det _ (by rw [List.length_reverse, List.length_range, h]), e2]
theorem nodup_range (n : Nat) : (List.range n).reverse.Nodup := by
  exact List.nodup_iff_pairwise_ne.mpr (List.pairwise_reverse.mpr ((List.nodup_iff_pairwise_ne.mp List.nodup_range).imp fun h => h.symm))
theorem unit_lim {M : Nat} (h : 1 ≤ M) (k : Nat) : Lim M (unit k) := fun j => by
  unfold unit
  split
  · exact h
  · exact Nat.zero_le _
/-- from the last row up -/
theorem St.back (s : St T (n + 1) n n rows sign last cs P) (h : T.length = n) (pv : Pv n rows cs) {M N : Nat} (hM : 1 ≤ M) (hN : n + 1 ≤ N) (lim : ∀ x ∈ T, Lim M (fn x)) :
    ∃ S : Nat → Int, (∀ (k : Nat) (x : List Int), k < n → rows[k]? = some x → x.length = n + 1 ∧ fn x k ≠ 0 ∧ fn x k * S k = last * fn x n - tl (fn x) S k (n - (k + 1))) ∧
      (∀ x ∈ T, dot n (fn x) S = last * fn x n) ∧ ∀ k, (S k).natAbs ≤ (N * M) ^ N := by
  have hT := s.perm.length_eq
  obtain ⟨ec, el, _⟩ := s.full h
  have lenP : (P.map fn).length = ((List.range n).reverse).length := by rw [List.length_map, List.length_reverse, List.length_range]; omega
  have nj : n ∉ (List.range n).reverse := fun z => by
    have := List.mem_range.mp (List.mem_reverse.mp z)
    omega
  have rel : ∀ x ∈ P.map fn, Rel (List.range n).reverse ((List.range n).reverse.map (sol (List.range n).reverse (P.map fn) n)) last n x := fun x hx => by
    unfold Rel
    rw [cramer lenP (nodup_range n) nj hx, ← el]
  refine ⟨sol (List.range n).reverse (P.map fn) n, fun k x hk hx => ?_, fun x hx => ?_, fun k => ?_⟩
  · have hP : k < P.length := by omega
    have hy : P[k]? = some P[k] := List.getElem?_eq_getElem hP
    have ex := s.tp k x _ hk hx hy
    have ed : cs.drop (n - k) = (List.range k).reverse := by
      rw [ec]
      obtain ⟨m, rfl⟩ : ∃ m, n = k + m := ⟨n - k, by omega⟩
      rw [List.range_add, List.reverse_append, List.drop_append, List.drop_eq_nil_of_le (by rw [List.length_reverse, List.length_map, List.length_range]; omega), List.length_reverse, List.length_map, List.length_range, show k + m - k - m = 0 by omega]
      rfl
    rw [ed] at ex
    have fx : ∀ j, j < n + 1 → fn x j = bd (List.range k).reverse ((P.take k).map fn) (fn P[k]) j := fun j hj => by rw [ex]; exact fn_rowOf _ hj
    have r1 := Rel.bd (ks := (List.range k).reverse) (R := (P.take k).map fn) (x := fn P[k]) (fun y hy => rel y (by
      obtain ⟨z, hz, rfl⟩ := List.mem_map.mp hy
      exact List.mem_map.mpr ⟨z, List.mem_of_mem_take hz, rfl⟩)) (rel _ (List.mem_map.mpr ⟨_, List.getElem_mem hP, rfl⟩))
    unfold Rel at r1
    rw [dot_wsum] at r1
    have r2 : dot n (fn x) (sol (List.range n).reverse (P.map fn) n) = last * fn x n := by
      rw [fx n (by omega), ← r1]
      unfold dot
      congr 1
      refine List.map_congr_left fun j hj => ?_
      rw [fx j (by have := List.mem_range.mp hj; omega)]
    rw [dot_from hk (fun j hj => by rw [fx j (by omega)]; exact bd_col (List.mem_reverse.mpr (List.mem_range.mpr hj)))] at r2
    have p1 := pv k x hk hx
    have ek : cs.getD (n - 1 - k) 0 = k := by
      rw [ec, List.getD_eq_getElem?_getD, List.getElem?_eq_getElem (by rw [List.length_reverse, List.length_range]; omega), List.getElem_reverse, List.getElem_range]
      show (List.range n).length - 1 - (n - 1 - k) = k
      rw [List.length_range]
      omega
    rw [ek] at p1
    refine ⟨by rw [ex, rowOf_len], p1, ?_⟩
    omega
  · have hx' : fn x ∈ P.map fn := List.mem_map.mpr ⟨x, s.perm.mem_iff.mpr hx, rfl⟩
    have := rel _ hx'
    unfold Rel at this
    rw [dot_wsum] at this
    exact this
  · unfold sol
    rw [Int.natAbs_neg]
    refine bd_bound (Nat.mul_pos (by omega) hM) (fun x hx => ?_) (unit_lim hM k) lenP (by rw [List.length_reverse, List.length_range]; exact hN) n
    obtain ⟨y, hy, rfl⟩ := List.mem_map.mp hx
    exact lim y (s.perm.mem_iff.mp hy)
end
end DT
-- DF
/-! an elimination can be carried to its end -/
namespace DT
theorem St.fin {T : List (List Int)} {L : Nat} : ∀ (m : Nat) {c r : Nat} {rows : List (List Int)} {sign last : Int} {cs : List Nat} {P : List (List Int)}, St T L c r rows sign last cs P → c + m = L →
    ∃ r' rows' sign' last' cs' P', St T L L r' rows' sign' last' cs' P' ∧ r' ≤ r + m
  | 0, c, r, rows, sign, last, cs, P, s, e => by
    obtain rfl : c = L := by omega
    exact ⟨r, rows, sign, last, cs, P, s, by omega⟩
  | m + 1, c, r, rows, sign, last, cs, P, s, e => by
    by_cases h : ∃ (k : Nat) (x : List Int), r ≤ k ∧ rows[k]? = some x ∧ fn x c ≠ 0
    · obtain ⟨k, x, hk, hx, nx⟩ := h
      have hkl : k < rows.length := (List.getElem?_eq_some_iff.mp hx).1
      have step : ∀ {rows1 : List (List Int)} {sign1 : Int} {P1 : List (List Int)}, St T L c r rows1 sign1 last cs P1 → rows1[r]? = some x → ∃ r' rows' sign' last' cs' P', St T L L r' rows' sign' last' cs' P' ∧ r' ≤ r + (m + 1) := by
        intro rows1 sign1 P1 s1 h1
        obtain ⟨a, b, z, d, f, g, i, j⟩ := St.fin m (s1.step (rows2 := rows1.take (r + 1) ++ (rows1.drop (r + 1)).map fun y => low L (fn x c) (fn y c) last y x) (by omega) h1 nx (by
          rw [List.length_append, List.length_map, List.length_take, List.length_drop]; omega) (fun k => by
          have hr : r < rows1.length := (List.getElem?_eq_some_iff.mp h1).1
          by_cases z : k ≤ r
          · rw [if_pos z, List.getElem?_append_left (by rw [List.length_take]; omega), List.getElem?_take, if_pos (by omega)]
          · rw [if_neg z, List.getElem?_append_right (by rw [List.length_take]; omega), List.getElem?_map, List.getElem?_drop, List.length_take]
            congr 2
            omega)) (by omega)
        exact ⟨a, b, z, d, f, g, i, by omega⟩
      rcases Nat.lt_or_ge r k with z | z
      · exact step (s.swap z hkl) (by rw [swp_get (by omega) hkl, if_neg (by omega), if_pos rfl, hx])
      · obtain rfl : r = k := by omega
        exact step s hx
    · obtain ⟨a, b, z, d, f, g, i, j⟩ := St.fin m (s.skip (by omega) fun k x hk hx => by
        by_cases z : fn x c = 0
        · exact z
        · exact absurd ⟨k, x, hk, hx, z⟩ h) (by omega)
      exact ⟨a, b, z, d, f, g, i, by omega⟩
/-- no pivot in a column of a square: its determinant is 0 -/
theorem St.dead {T : List (List Int)} {L c r : Nat} {rows : List (List Int)} {sign last : Int} {cs : List Nat} {P : List (List Int)} (s : St T L c r rows sign last cs P) (h : T.length = L) (hc : r < c) : dt (List.range L).reverse (T.map fn) = 0 := by
  have := s.cl
  obtain ⟨r', rows', sign', last', cs', P', s', hr⟩ := s.fin (L - c) (by omega)
  have := s'.square h
  rw [if_pos (by omega)] at this
  exact this
end DT
-- DK
/-! only nought is nought at all rows of a regular table -/
namespace DT
theorem dot_lin (a b : Int) (x y S : Nat → Int) : ∀ n : Nat, dot n (fun j => a * x j + b * y j) S = a * dot n x S + b * dot n y S
  | 0 => by show (0 : Int) = a * 0 + b * 0; omega
  | n + 1 => by
    rw [dot_succ, dot_succ, dot_succ, dot_lin a b x y S n]
    grind
theorem dot_sub (c d : Int) (x S R : Nat → Int) : ∀ n : Nat, dot n x (fun j => S j * c - R j * d) = dot n x S * c - dot n x R * d
  | 0 => by show (0 : Int) = 0 * c - 0 * d; omega
  | n + 1 => by
    rw [dot_succ, dot_succ, dot_succ, dot_sub c d x S R n]
    grind
theorem dot_zero {n : Nat} {x S : Nat → Int} (h : ∀ j, j < n → x j = 0) : dot n x S = 0 := by
  unfold dot
  exact isum_nil fun j hj => by rw [h j (List.mem_range.mp hj), Int.zero_mul]
theorem dot_lc {n : Nat} {S : Nat → Int} : ∀ {ms : List Int} {R : List Rw}, (∀ x ∈ R, dot n x S = 0) → dot n (lc ms R) S = 0
  | [], R, _ => by rw [lc_nil]; exact dot_zero fun _ _ => rfl
  | m :: ms, [], _ => dot_zero fun _ _ => rfl
  | m :: ms, x :: R, h => by
    show dot n (fun j => m * x j + 1 * lc ms R j) S = 0
    rw [dot_lin, h x List.mem_cons_self, dot_lc fun y hy => h y (List.mem_cons_of_mem _ hy), Int.mul_zero, Int.mul_zero]
    rfl
theorem dot_unit {n k : Nat} (hk : k < n) (S : Nat → Int) : dot n (unit k) S = S k := by
  rw [dot_from hk (fun j hj => show unit k j = 0 from if_neg (by omega))]
  have : tl (unit k) S k (n - (k + 1)) = 0 := by
    unfold tl
    refine isum_nil fun i _ => ?_
    rw [show unit k (k + 1 + i) = 0 from if_neg (by omega), Int.zero_mul]
  rw [this, show unit k k = 1 from if_pos rfl]
  omega
theorem kernel {n : Nat} {R : List Rw} {S : Nat → Int} (e : R.length = n) (d : dt (List.range n).reverse R ≠ 0) (h : ∀ x ∈ R, dot n x S = 0) {k : Nat} (hk : k < n) : S k = 0 := by
  obtain ⟨ms, _, hm⟩ := bd_ms (List.range n).reverse R (unit k)
  have h1 : dot n (bd (List.range n).reverse R (unit k)) S = 0 := dot_zero fun j hj => bd_col (List.mem_reverse.mpr (List.mem_range.mpr hj))
  rw [hm, dot_lin, dot_lc h, dot_unit hk] at h1
  rcases Int.mul_eq_zero.mp (show dt (List.range n).reverse R * S k = 0 by omega) with z | z
  · exact absurd z d
  · exact z
end DT
-- DP
/-! values of polynomials, their zeros; tables of polynomials: the rank at a point -/
namespace DP
open K00 (cf pval trim Can padd pmul conv)
open DT (dt fn Rw Rk Zr St)
theorem pval_zero (x : Int) : ∀ a : List Int, (∀ m, cf a m = 0) → pval x a = 0
  | [], _ => rfl
  | c :: r, h => by
    show pval x r * x + c = 0
    rw [pval_zero x r fun m => by have := h (m + 1); rwa [K00.cf_cons_succ] at this]
    have := h 0
    rw [K00.cf_cons_zero] at this
    rw [this]; omega
theorem pval_ext (x : Int) : ∀ a b : List Int, (∀ m, cf a m = cf b m) → pval x a = pval x b
  | [], b, h => (pval_zero x b fun m => by rw [← h]; rfl).symm
  | c :: r, [], h => pval_zero x _ fun m => by rw [h]; rfl
  | c :: r, e :: q, h => by
    show pval x r * x + c = pval x q * x + e
    have h0 := h 0
    rw [K00.cf_cons_zero, K00.cf_cons_zero] at h0
    rw [pval_ext x r q fun m => by have := h (m + 1); rwa [K00.cf_cons_succ, K00.cf_cons_succ] at this, h0]
def ladd : List Int → List Int → List Int
  | [], b => b
  | a :: r, [] => a :: r
  | a :: r, b :: q => (a + b) :: ladd r q
theorem pval_ladd (x : Int) : ∀ a b : List Int, pval x (ladd a b) = pval x a + pval x b
  | [], b => by show pval x b = 0 + pval x b; omega
  | a :: r, [] => by show pval x (a :: r) = pval x (a :: r) + 0; omega
  | a :: r, b :: q => by
    show pval x (ladd r q) * x + (a + b) = pval x r * x + a + (pval x q * x + b)
    rw [pval_ladd x r q]
    grind
theorem cf_ladd : ∀ (a b : List Int) (m : Nat), cf (ladd a b) m = cf a m + cf b m
  | [], b, m => by show cf b m = 0 + cf b m; omega
  | a :: r, [], m => by show cf (a :: r) m = cf (a :: r) m + 0; omega
  | a :: r, b :: q, 0 => rfl
  | a :: r, b :: q, m + 1 => cf_ladd r q m
theorem ladd_len : ∀ a b : List Int, (ladd a b).length = max a.length b.length
  | [], b => by show b.length = max 0 b.length; omega
  | a :: r, [] => by show (a :: r).length = max (a :: r).length 0; omega
  | a :: r, b :: q => by
    show (ladd r q).length + 1 = max (r.length + 1) (q.length + 1)
    rw [ladd_len r q]
    omega
theorem pval_padd (x : Int) (a b : List Int) : pval x (padd a b) = pval x a + pval x b := by
  rw [← pval_ladd]
  exact pval_ext x _ _ fun m => by rw [K00.cf_padd, cf_ladd]
theorem pval_scale (x c : Int) : ∀ b : List Int, pval x (b.map (c * ·)) = c * pval x b
  | [] => by show (0 : Int) = c * 0; omega
  | a :: r => by
    show pval x (r.map (c * ·)) * x + c * a = c * (pval x r * x + a)
    rw [pval_scale x c r]
    grind
theorem pval_shift (x : Int) (r : List Int) : ∀ n : Nat, pval x (List.replicate n 0 ++ r) = pval x r * x ^ n
  | 0 => by rw [Int.pow_zero, Int.mul_one]; rfl
  | n + 1 => by
    show pval x (List.replicate n 0 ++ r) * x + 0 = _
    rw [pval_shift x r n, Int.pow_succ]
    grind
theorem pval_take (x : Int) : ∀ (a : List Int) (n : Nat), pval x (a.take (n + 1)) = pval x (a.take n) + cf a n * x ^ n
  | [], n => by
    rw [List.take_nil, List.take_nil, show cf [] n = 0 from rfl]
    show (0 : Int) = 0 + 0 * x ^ n
    omega
  | c :: r, 0 => by
    show 0 * x + c = 0 + c * x ^ 0
    rw [Int.pow_zero]; omega
  | c :: r, n + 1 => by
    show pval x (r.take (n + 1)) * x + c = pval x (r.take n) * x + c + cf r n * x ^ (n + 1)
    rw [pval_take x r n, Int.pow_succ]
    grind
def tn (a b : List Int) : Nat → List Int
  | 0 => []
  | n + 1 => padd (tn a b n) (List.replicate n 0 ++ if cf a n ≠ 0 then b.map (cf a n * ·) else [])
theorem cf_tn (a b : List Int) : ∀ (n m : Nat), cf (tn a b n) m = conv a b n m
  | 0, m => rfl
  | n + 1, m => K00.conv_turn (fun m => cf_tn a b n m) m
theorem pval_tn (x : Int) (a b : List Int) : ∀ n : Nat, pval x (tn a b n) = pval x (a.take n) * pval x b
  | 0 => by show (0 : Int) = 0 * _; omega
  | n + 1 => by
    show pval x (padd (tn a b n) _) = _
    rw [pval_padd, pval_tn x a b n, pval_shift, pval_take]
    split
    · rw [pval_scale]; grind
    · rename_i h
      have : cf a n = 0 := Decidable.byContradiction h
      rw [this]
      show _ + 0 * x ^ n = _
      grind
theorem pval_pmul (x : Int) (a b : List Int) : pval x (pmul a b) = pval x a * pval x b := by
  rw [pval_ext x (pmul a b) (tn a b a.length) fun m => by rw [K00.cf_pmul, cf_tn], pval_tn, List.take_length]
theorem pval_trim (x : Int) (a : List Int) : pval x (trim a) = pval x a := pval_ext x _ _ (K00.cf_trim a)
/-! functions of a degree -/
def lmul : List Int → List Int → List Int
  | [], _ => []
  | a :: r, b => ladd (b.map (a * ·)) (0 :: lmul r b)
theorem pval_lmul (x : Int) : ∀ a b : List Int, pval x (lmul a b) = pval x a * pval x b
  | [], b => by show (0 : Int) = 0 * _; omega
  | a :: r, b => by
    show pval x (ladd _ _) = (pval x r * x + a) * pval x b
    rw [pval_ladd, pval_scale]
    show a * pval x b + (pval x (lmul r b) * x + 0) = _
    rw [pval_lmul x r b]
    grind
theorem lmul_len {E : Nat} {b : List Int} (hb : b.length ≤ E + 1) : ∀ (a : List Int) (D : Nat), a.length ≤ D + 1 → (lmul a b).length ≤ D + E + 1
  | [], _, _ => Nat.zero_le _
  | a :: r, D, h => by
    show (ladd (b.map (a * ·)) (0 :: lmul r b)).length ≤ _
    rw [ladd_len, List.length_map, List.length_cons]
    rw [List.length_cons] at h
    cases D with
    | zero =>
      have : r = [] := List.length_eq_zero_iff.mp (by omega)
      subst this
      show max b.length (0 + 1) ≤ _
      omega
    | succ D =>
      have := lmul_len hb r D (by omega)
      omega
def PF (D : Nat) (f : Int → Int) : Prop := ∃ p : List Int, p.length ≤ D + 1 ∧ ∀ x, f x = pval x p
theorem PF.zero (D : Nat) : PF D fun _ => 0 := ⟨[], Nat.zero_le _, fun _ => rfl⟩
theorem PF.one : PF 0 fun _ => 1 := ⟨[1], Nat.le_refl _, fun x => by show (1 : Int) = 0 * x + 1; omega⟩
theorem PF.mono {D E : Nat} {f : Int → Int} (h : PF D f) (l : D ≤ E) : PF E f := let ⟨p, a, b⟩ := h; ⟨p, by omega, b⟩
theorem PF.add {D : Nat} {f g : Int → Int} (h : PF D f) (k : PF D g) : PF D fun x => f x + g x := by
  obtain ⟨p, a, b⟩ := h
  obtain ⟨q, c, d⟩ := k
  exact ⟨ladd p q, by rw [ladd_len]; omega, fun x => by show f x + g x = _; rw [pval_ladd, b, d]⟩
theorem PF.smul {D : Nat} {f : Int → Int} (c : Int) (h : PF D f) : PF D fun x => c * f x := by
  obtain ⟨p, a, b⟩ := h
  exact ⟨p.map (c * ·), by rw [List.length_map]; exact a, fun x => by show c * f x = _; rw [pval_scale, b]⟩
theorem PF.mul {D E : Nat} {f g : Int → Int} (h : PF D f) (k : PF E g) : PF (D + E) fun x => f x * g x := by
  obtain ⟨p, a, b⟩ := h
  obtain ⟨q, c, d⟩ := k
  exact ⟨lmul p q, lmul_len c p D a, fun x => by show f x * g x = _; rw [pval_lmul, b, d]⟩
/-! zeros -/
theorem pval_div (a : Int) : ∀ p : List Int, ∃ q : List Int, q.length ≤ p.length - 1 ∧ ∀ x, pval x p = pval a p + (x - a) * pval x q
  | [] => ⟨[], Nat.le_refl _, fun x => by show (0 : Int) = 0 + (x - a) * 0; omega⟩
  | [c] => ⟨[], Nat.le_refl _, fun x => by show 0 * x + c = 0 * a + c + (x - a) * 0; omega⟩
  | c :: e :: r => by
    obtain ⟨q, h1, h2⟩ := pval_div a (e :: r)
    refine ⟨pval a (e :: r) :: q, by rw [List.length_cons, List.length_cons]; rw [List.length_cons] at h1; rw [List.length_cons]; omega, fun x => ?_⟩
    show pval x (e :: r) * x + c = pval a (e :: r) * a + c + (x - a) * (pval x q * x + pval a (e :: r))
    rw [h2 x]
    generalize pval a (e :: r) = y
    grind
theorem pval_roots : ∀ (n : Nat) (p : List Int), p.length ≤ n → ∀ as : List Int, as.Nodup → as.length = n → (∀ a ∈ as, pval a p = 0) → ∀ x, pval x p = 0
  | 0, p, h, as, _, _, _ => fun x => by
    rw [List.length_eq_zero_iff.mp (Nat.le_zero.mp h)]; rfl
  | n + 1, p, h, [], _, e, _ => by simp at e
  | n + 1, p, h, a :: as, nd, e, hr => fun x => by
    obtain ⟨n1, n2⟩ := List.nodup_cons.mp nd
    obtain ⟨q, h1, h2⟩ := pval_div a p
    have z := hr a List.mem_cons_self
    have hq := pval_roots n q (by omega) as n2 (by simpa using e) fun b hb => by
      have h3 := h2 b
      rw [hr b (List.mem_cons_of_mem _ hb), z, Int.zero_add] at h3
      rcases Int.mul_eq_zero.mp h3.symm with w | w
      · exact absurd (show a = b by omega) (fun y => n1 (y ▸ hb))
      · exact w
    rw [h2 x, z, hq x, Int.mul_zero]; rfl
theorem nodup_cast {l : List Nat} (h : l.Nodup) : (l.map fun k => ((k : Nat) : Int)).Nodup := by
  rw [List.nodup_iff_pairwise_ne, List.pairwise_map]
  exact (List.nodup_iff_pairwise_ne.mp h).imp fun n z => n (by omega)
theorem PF.hit {D : Nat} {f : Int → Int} (h : PF D f) {x0 : Int} (n : f x0 ≠ 0) : ∃ k : Nat, k ≤ D ∧ f (k : Nat) ≠ 0 := by
  obtain ⟨p, a, b⟩ := h
  by_cases e : ∃ k : Nat, k ≤ D ∧ f (k : Nat) ≠ 0
  · exact e
  · exfalso
    have z := pval_roots (D + 1) p a ((List.range (D + 1)).map fun k => ((k : Nat) : Int)) (nodup_cast List.nodup_range) (by rw [List.length_map, List.length_range]) (fun y hy => by
      obtain ⟨k, hk, rfl⟩ := List.mem_map.mp hy
      have hk := List.mem_range.mp hk
      rw [← b]
      exact Decidable.byContradiction fun w => e ⟨k, by omega, w⟩) x0
    exact n ((b x0).trans z)
/-- nought everywhere: all numbers are 0 -/
theorem cf_of_zero : ∀ (p : List Int), (∀ x, pval x p = 0) → ∀ m, cf p m = 0
  | [], _, m => rfl
  | c :: r, h, m => by
    have hc : c = 0 := by
      have := h 0
      have e : pval 0 (c :: r) = pval 0 r * 0 + c := rfl
      rw [e] at this
      omega
    have hr : ∀ x, pval x r = 0 := pval_roots r.length r (Nat.le_refl _) ((List.range r.length).map fun k => ((k + 1 : Nat) : Int)) (by
        have := nodup_cast (l := (List.range r.length).map (· + 1)) (by
          rw [List.nodup_iff_pairwise_ne, List.pairwise_map]
          exact (List.nodup_iff_pairwise_ne.mp List.nodup_range).imp fun n z => n (by omega))
        rw [List.map_map] at this
        exact this) (by rw [List.length_map, List.length_range]) fun y hy => by
      obtain ⟨k, hk, rfl⟩ := List.mem_map.mp hy
      have := h ((k + 1 : Nat) : Int)
      have e : pval ((k + 1 : Nat) : Int) (c :: r) = pval ((k + 1 : Nat) : Int) r * ((k + 1 : Nat) : Int) + c := rfl
      rw [e, hc, Int.add_zero] at this
      rcases Int.mul_eq_zero.mp this with z | z
      · exact z
      · omega
    cases m with
    | zero => exact hc
    | succ m => exact cf_of_zero r hr m
theorem can_hit {p : List Int} (h : Can p) (n : p ≠ []) : ∃ x, pval x p ≠ 0 := by
  by_cases e : ∃ x, pval x p ≠ 0
  · exact e
  · exfalso
    rcases h with z | z
    · exact n z
    · exact z (cf_of_zero p (fun x => Decidable.byContradiction fun w => e ⟨x, w⟩) _)
theorem filter_or {α : Type} (p q : α → Bool) : ∀ l : List α, (l.filter fun a => p a || q a).length ≤ (l.filter p).length + (l.filter q).length
  | [] => Nat.zero_le _
  | a :: l => by
    have := filter_or p q l
    rw [List.filter_cons, List.filter_cons, List.filter_cons]
    cases p a <;> cases q a <;> simp <;> omega
theorem zeros_le {p : List Int} (h : ∃ x, pval x p ≠ 0) (N : Nat) : ((List.range N).filter fun k => decide (pval ((k : Nat) : Int) p = 0)).length ≤ p.length - 1 := by
  obtain ⟨x, hx⟩ := h
  rcases Nat.lt_or_ge ((List.range N).filter fun k => decide (pval ((k : Nat) : Int) p = 0)).length p.length with z | z
  · omega
  · exfalso
    refine hx (pval_roots p.length p (Nat.le_refl _) ((((List.range N).filter fun k => decide (pval ((k : Nat) : Int) p = 0)).take p.length).map fun k => ((k : Nat) : Int)) (nodup_cast ?_) (by rw [List.length_map, List.length_take]; omega) (fun y hy => ?_) x)
    · exact (List.nodup_range.sublist List.filter_sublist).sublist (List.take_sublist _ _)
    · obtain ⟨k, hk, rfl⟩ := List.mem_map.mp hy
      exact of_decide_eq_true (List.mem_filter.mp (List.mem_of_mem_take hk)).2
theorem all_zeros_le (N : Nat) : ∀ ps : List (List Int), (∀ p ∈ ps, ∃ x, pval x p ≠ 0) → ((List.range N).filter fun k => ps.any fun p => decide (pval ((k : Nat) : Int) p = 0)).length ≤ (ps.map fun p => p.length - 1).sum
  | [], _ => by
    rw [List.filter_eq_nil_iff.mpr (fun a _ => by simp)]
    exact Nat.zero_le _
  | p :: ps, h => by
    have h1 := zeros_le (h p List.mem_cons_self) N
    have h2 := all_zeros_le N ps fun q hq => h q (List.mem_cons_of_mem _ hq)
    have h3 := filter_or (fun k : Nat => decide (pval ((k : Nat) : Int) p = 0)) (fun k : Nat => ps.any fun p => decide (pval ((k : Nat) : Int) p = 0)) (List.range N)
    rw [List.map_cons, List.sum_cons]
    have e : ((List.range N).filter fun k => (p :: ps).any fun p => decide (pval ((k : Nat) : Int) p = 0)) = (List.range N).filter fun k => decide (pval ((k : Nat) : Int) p = 0) || ps.any fun p => decide (pval ((k : Nat) : Int) p = 0) := rfl
    rw [e]
    omega
/-- a point from 0 on at which none is nought -/
theorem parts_hit {ps : List (List Int)} (h : ∀ p ∈ ps, ∃ x, pval x p ≠ 0) {D : Nat} (hD : (ps.map fun p => p.length - 1).sum ≤ D) : ∃ k : Nat, k ≤ D ∧ ∀ p ∈ ps, pval ((k : Nat) : Int) p ≠ 0 := by
  by_cases e : ∃ k : Nat, k ≤ D ∧ ∀ p ∈ ps, pval ((k : Nat) : Int) p ≠ 0
  · exact e
  · exfalso
    have := all_zeros_le (D + 1) ps h
    rw [List.filter_eq_self.mpr (fun k hk => ?_), List.length_range] at this
    · omega
    · have hk := List.mem_range.mp hk
      rw [List.any_eq_true]
      exact Decidable.byContradiction fun w => e ⟨k, by omega, fun p hp z => w ⟨p, hp, decide_eq_true z⟩⟩
/-! determinants -/
section
variable {α : Type} {g : α → Int → Rw} {d : α → Nat}
def sd (d : α → Nat) (l : List α) : Nat := (l.map d).sum
theorem sd_mid (a : α) (pre r : List α) : sd d (pre ++ a :: r) = d a + sd d (pre ++ r) := by
  unfold sd
  rw [List.map_append, List.map_append, List.map_cons, List.sum_append, List.sum_append, List.sum_cons]
  omega
theorem pf_ex (h : ∀ a j, PF (d a) fun x => g a x j) {j : Nat} {cs : List Nat} (ih : ∀ l : List α, l.length = cs.length → PF (sd d l) fun x => dt cs (l.map (g · x))) : ∀ rest pre : List α, pre.length + rest.length = cs.length + 1 → PF (sd d (pre ++ rest)) fun x => DT.ex (fun y => y j) (dt cs) (pre.map (g · x)) (rest.map (g · x))
  | [], pre, _ => PF.zero _
  | a :: r, pre, e => by
    rw [List.length_cons] at e
    have h1 := ((h a j).mul (ih (pre ++ r) (by rw [List.length_append]; omega))).smul (DT.sg r.length)
    rw [← sd_mid] at h1
    have h2 := pf_ex h (j := j) ih r (pre ++ [a]) (by rw [List.length_append]; show _ + 1 + _ = _; omega)
    rw [List.append_assoc] at h2
    obtain ⟨p, l, z⟩ := h1.add h2
    refine ⟨p, l, fun x => ?_⟩
    rw [← z x]
    show DT.ex _ (dt cs) (pre.map (g · x)) (g a x :: r.map (g · x)) = DT.sg r.length * (g a x j * dt cs ((pre ++ r).map (g · x))) + DT.ex _ (dt cs) ((pre ++ [a]).map (g · x)) (r.map (g · x))
    rw [DT.ex_cons, List.length_map, List.map_append, List.map_append, Int.mul_assoc]
    rfl
theorem pf_dt (h : ∀ a j, PF (d a) fun x => g a x j) : ∀ (cs : List Nat) (l : List α), l.length = cs.length → PF (sd d l) fun x => dt cs (l.map (g · x))
  | [], l, e => by
    rw [List.length_eq_zero_iff.mp e]
    exact PF.one
  | j :: cs, l, e => pf_ex h (fun l hl => pf_dt h cs l hl) l [] (by show 0 + _ = _; rw [Nat.zero_add, e]; rfl)
end
/-! tables -/
abbrev Tb := List (List (List Int))
def vrow (x : Int) (row : List (List Int)) : List Int := row.map (pval x)
def vals (x : Int) (tab : Tb) : List (List Int) := tab.map (vrow x)
def rdeg (row : List (List Int)) : Nat := (row.map fun e => e.length - 1).foldl max 0
def reach (tab : Tb) : Nat := sd rdeg tab
theorem foldl_max : ∀ (l : List Nat) (a : Nat), a ≤ l.foldl max a ∧ ∀ b ∈ l, b ≤ l.foldl max a
  | [], a => ⟨Nat.le_refl _, fun _ z => by cases z⟩
  | b :: l, a => by
    obtain ⟨h1, h2⟩ := foldl_max l (max a b)
    refine ⟨Nat.le_trans (Nat.le_max_left _ _) h1, fun c hc => ?_⟩
    rcases List.mem_cons.mp hc with rfl | hc
    · exact Nat.le_trans (Nat.le_max_right _ _) h1
    · exact h2 c hc
theorem rdeg_le {row : List (List Int)} {e : List Int} (h : e ∈ row) : e.length ≤ rdeg row + 1 := by
  have := (foldl_max (row.map fun e => e.length - 1) 0).2 _ (List.mem_map_of_mem h)
  unfold rdeg
  omega
theorem fn_vrow (x : Int) (row : List (List Int)) (j : Nat) : fn (vrow x row) j = pval x (row.getD j []) := by
  unfold fn vrow
  rw [List.getD_eq_getElem?_getD, List.getD_eq_getElem?_getD, List.getElem?_map]
  cases row[j]? <;> rfl
theorem pf_row (row : List (List Int)) (j : Nat) : PF (rdeg row) fun x => fn (vrow x row) j := by
  rw [show (fun x => fn (vrow x row) j) = fun x => pval x (row.getD j []) from funext fun x => fn_vrow x row j]
  rw [List.getD_eq_getElem?_getD]
  cases e : row[j]? with
  | none => exact PF.zero _
  | some p => exact ⟨p, rdeg_le (List.mem_of_getElem? e), fun _ => rfl⟩
theorem sum_sub {d : Nat → Nat} {a b : List Nat} (h : a.Sublist b) : sd d a ≤ sd d b := by
  unfold sd
  induction h with
  | slnil => exact Nat.le_refl _
  | cons x _ ih => rw [List.map_cons, List.sum_cons]; omega
  | cons_cons x _ ih => rw [List.map_cons, List.map_cons, List.sum_cons, List.sum_cons]; omega
/-- the greatest rank comes up within reach -/
theorem reach_hit {tab : Tb} {L : Nat} (w : ∀ row ∈ tab, row.length = L) {r : Nat} {x0 : Int} (h : Rk ((vals x0 tab).map fn) r) : ∃ k : Nat, k ≤ reach tab ∧ ¬ Zr ((vals ((k : Nat) : Int) tab).map fn) r := by
  have wid : ∀ x ∈ vals x0 tab, x.length = L := fun x hx => by
    obtain ⟨row, hr, rfl⟩ := List.mem_map.mp hx
    unfold vrow
    rw [List.length_map, w row hr]
  obtain ⟨r', rows, sg, la, cs, P, s, _⟩ := (St.init wid).fin L (by omega)
  obtain rfl := s.rk.one h
  obtain ⟨rs, ks, h1, h2, h3, h4, h5⟩ := s.minor
  have ln : ∀ x, (vals x tab).length = tab.length := fun x => by unfold vals; rw [List.length_map]
  rw [ln] at h1
  have g0 : ∀ (x : Int) (i : Nat), fn ((vals x tab).getD i []) = fn (vrow x (tab.getD i [])) := fun x i => by
    unfold vals
    rw [List.getD_eq_getElem?_getD, List.getD_eq_getElem?_getD, List.getElem?_map]
    cases tab[i]? <;> rfl
  have pf := pf_dt (α := Nat) (g := fun i x => fn (vrow x (tab.getD i []))) (d := fun i => rdeg (tab.getD i [])) (fun i j => pf_row (tab.getD i []) j) ks.reverse rs (by rw [List.length_reverse, h3, h4])
  obtain ⟨k, hk, nz⟩ := pf.hit (x0 := x0) (by
    show dt ks.reverse (rs.map fun i => fn (vrow x0 (tab.getD i []))) ≠ 0
    rw [List.map_congr_left fun i _ => g0 x0 i] at h5
    exact h5)
  refine ⟨k, Nat.le_trans hk ?_, fun z => nz (z ks.reverse _ (by rw [List.length_reverse, h4]) (by rw [List.length_map, h3]) fun y hy => ?_)⟩
  · refine Nat.le_trans (sum_sub h1) ?_
    unfold reach sd
    have e := congrArg (List.map rdeg) (DT.map_getD tab [])
    rw [List.map_map] at e
    rw [← e]
    exact Nat.le_refl _
  · obtain ⟨i, hi, rfl⟩ := List.mem_map.mp hy
    have hi := List.mem_range.mp (h1.subset hi)
    refine List.mem_map_of_mem (List.mem_map.mpr ⟨tab.getD i [], ?_, rfl⟩)
    rw [List.getD_eq_getElem?_getD, List.getElem?_eq_getElem hi]
    exact List.getElem_mem hi
end DP
-- DM
/-! tables with parts on their diagonal, rows and columns added: the rank at each point -/
namespace DP
open K00 (cf pval trim Can padd pmul conv)
open DT (dt fn Rw Rk Zr St)
section
variable {α : Type} {z : α} {n c : Nat}
def dgr (z : α) (c i : Nat) (ds : List α) : List α := (List.range c).map fun j => if i = j then ds.getD i z else z
def dg (z : α) (n c : Nat) (ds : List α) : List (List α) := (List.range n).map fun i => dgr z c i ds
theorem dg_len (ds : List α) : (dg z n c ds).length = n := by unfold dg; rw [List.length_map, List.length_range]
theorem dg_at {i : Nat} (ds : List α) (h : i < n) : (dg z n c ds)[i]? = some (dgr z c i ds) := by
  unfold dg
  rw [List.getElem?_map, List.getElem?_range h]
  rfl
theorem dgr_len {i : Nat} (ds : List α) : (dgr z c i ds).length = c := by unfold dgr; rw [List.length_map, List.length_range]
theorem dgr_snoc {i : Nat} {ds : List α} {d : α} (h : ds.length ≠ i) : dgr z c i (ds ++ [d]) = dgr z c i ds := by
  unfold dgr
  refine List.map_congr_left fun j _ => ?_
  by_cases e : i = j
  · rw [if_pos e, if_pos e, List.getD_eq_getElem?_getD, List.getD_eq_getElem?_getD]
    rcases Nat.lt_or_ge i ds.length with z | z
    · rw [List.getElem?_append_left z]
    · rw [List.getElem?_append_right z, List.getElem?_eq_none (by rw [List.length_singleton]; omega), List.getElem?_eq_none z]
  · rw [if_neg e, if_neg e]
theorem dgr_put {ds : List α} {d : α} (h : ds.length < c) : (dgr z c ds.length ds).set ds.length d = dgr z c ds.length (ds ++ [d]) := by
  apply List.ext_getElem?
  intro j
  by_cases hj : j < c
  · have g : ∀ es : List α, (dgr z c ds.length es)[j]? = some (if ds.length = j then es.getD ds.length z else z) := fun es => by
      unfold dgr
      rw [List.getElem?_map, List.getElem?_range hj]
      rfl
    rw [g (ds ++ [d])]
    by_cases e : ds.length = j
    · subst e
      rw [List.getElem?_set_self (by rw [dgr_len]; exact h), if_pos rfl, List.getD_eq_getElem?_getD, List.getElem?_append_right (Nat.le_refl _), Nat.sub_self]
      rfl
    · rw [List.getElem?_set_ne e, g ds, if_neg e, if_neg e]
  · rw [List.getElem?_eq_none (by rw [List.length_set, dgr_len]; omega), List.getElem?_eq_none (by rw [dgr_len]; omega)]
theorem dg_put {ds : List α} {d : α} (hn : ds.length < n) (hc : ds.length < c) : (dg z n c ds).set ds.length ((dgr z c ds.length ds).set ds.length d) = dg z n c (ds ++ [d]) := by
  apply List.ext_getElem?
  intro i
  by_cases hi : i < n
  · rw [dg_at (ds ++ [d]) hi]
    by_cases e : ds.length = i
    · subst e
      rw [List.getElem?_set_self (by rw [dg_len]; exact hn), dgr_put hc]
    · rw [List.getElem?_set_ne e, dg_at ds hi, dgr_snoc e]
  · rw [List.getElem?_eq_none (by rw [List.length_set, dg_len]; omega), List.getElem?_eq_none (by rw [dg_len]; omega)]
end
def cnt (ds : List Int) : Nat := (ds.filter fun d => decide (d ≠ 0)).length
theorem cnt_idx : ∀ (n : Nat) (es : List Int), es.length = n → ((List.range n).filter fun i => decide (es.getD i 0 ≠ 0)).length = cnt es := by
  intro n
  induction n with
  | zero => intro es h; rw [List.length_eq_zero_iff.mp h]; rfl
  | succ n ih =>
    intro es h
    obtain ⟨l, d, rfl⟩ : ∃ l d, es = l ++ [d] := ⟨es.dropLast, es.getLast (by intro z; rw [z] at h; simp at h), (List.dropLast_concat_getLast _).symm⟩
    have hl : l.length = n := by rw [List.length_append] at h; simpa using h
    have e1 : (List.range n).filter (fun i => decide ((l ++ [d]).getD i 0 ≠ 0)) = (List.range n).filter fun i => decide (l.getD i 0 ≠ 0) := by
      refine List.filter_congr fun i hi => ?_
      have := List.mem_range.mp hi
      rw [List.getD_eq_getElem?_getD, List.getD_eq_getElem?_getD, List.getElem?_append_left (by omega)]
    have e2 : (l ++ [d]).getD n 0 = d := by
      rw [List.getD_eq_getElem?_getD, List.getElem?_append_right (by omega), hl, Nat.sub_self]; rfl
    rw [List.range_succ, List.filter_append, List.length_append, e1, ih l hl]
    unfold cnt
    rw [List.filter_append, List.length_append]
    congr 1
    rw [List.filter_cons, List.filter_cons, e2]
    by_cases h : d = 0
    · rw [decide_eq_false (not_not_intro h)]; rfl
    · rw [decide_eq_true h]; rfl
theorem fn_dgr {c i : Nat} {es : List Int} (h : es.length ≤ c) : fn (dgr 0 c i es) = DT.E (fun i => es.getD i 0) i := by
  funext j
  show _ = if i = j then es.getD i 0 else 0
  by_cases hj : j < c
  · unfold fn dgr
    rw [List.getD_eq_getElem?_getD, List.getElem?_map, List.getElem?_range hj]
    rfl
  · have : fn (dgr 0 c i es) j = 0 := by
      unfold fn
      rw [List.getD_eq_getElem?_getD, List.getElem?_eq_none (by rw [dgr_len]; omega)]; rfl
    rw [this]
    by_cases e : i = j
    · rw [if_pos e, List.getD_eq_getElem?_getD, List.getElem?_eq_none (by omega)]; rfl
    · rw [if_neg e]
theorem rk_dg {n c : Nat} {es : List Int} (hn : es.length ≤ n) (hc : es.length ≤ c) : Rk ((dg 0 n c es).map fn) (cnt es) := by
  have hm : (dg 0 n c es).map fn = (List.range n).map (DT.E fun i => es.getD i 0) := by
    unfold dg
    rw [List.map_map]
    exact List.map_congr_left fun i _ => fn_dgr hc
  have zero : ∀ i, es.length ≤ i → es.getD i 0 = 0 := fun i h => by rw [List.getD_eq_getElem?_getD, List.getElem?_eq_none h]; rfl
  rw [hm, ← cnt_idx es.length es rfl]
  refine DT.rk_diag (fun i => es.getD i 0) _ _ (List.nodup_range.filter _) (fun i hi => ?_) (fun x hx => ?_)
  · obtain ⟨h1, h2⟩ := List.mem_filter.mp hi
    have := List.mem_range.mp h1
    exact ⟨of_decide_eq_true h2, List.mem_map_of_mem (List.mem_range.mpr (by omega))⟩
  · obtain ⟨i, hi, rfl⟩ := List.mem_map.mp hx
    by_cases z : es.getD i 0 = 0
    · right
      funext j
      show (if i = j then es.getD i 0 else 0) = 0
      split
      · exact z
      · rfl
    · left
      refine ⟨i, List.mem_filter.mpr ⟨List.mem_range.mpr ?_, decide_eq_true z⟩, rfl⟩
      rcases Nat.lt_or_ge i es.length with w | w
      · exact w
      · exact absurd (zero i w) z
theorem vals_dg {n c : Nat} (x : Int) (ps : List (List Int)) : vals x (dg [] n c ps) = dg 0 n c (ps.map (pval x)) := by
  unfold vals dg
  rw [List.map_map]
  refine List.map_congr_left fun i _ => ?_
  show vrow x (dgr [] c i ps) = dgr 0 c i (ps.map (pval x))
  unfold vrow dgr
  rw [List.map_map]
  refine List.map_congr_left fun j _ => ?_
  show pval x (if i = j then ps.getD i [] else []) = if i = j then (ps.map (pval x)).getD i 0 else 0
  split
  · rw [List.getD_eq_getElem?_getD, List.getD_eq_getElem?_getD, List.getElem?_map]
    cases ps[i]? <;> rfl
  · rfl
/-- how many of the parts are not nought at x -/
def cntP (x : Int) (ps : List (List Int)) : Nat := cnt (ps.map (pval x))
/-- polynomials of the size that comes up -/
def Po (B : Nat) (e : List Int) : Prop := Can e ∧ e.length ≤ 5 ∧ ∀ m, (cf e m).natAbs ≤ B
theorem Po.nil (B : Nat) : Po B [] := ⟨.inl rfl, Nat.zero_le _, fun m => Nat.zero_le _⟩
theorem Po.up {B C : Nat} {e : List Int} (h : Po B e) (l : B ≤ C) : Po C e := ⟨h.1, h.2.1, fun m => Nat.le_trans (h.2.2 m) l⟩
/-- what the made table keeps -/
structure Mp (n c B : Nat) (ps : List (List Int)) (tab : Tb) : Prop where
  len : tab.length = n
  wid : ∀ row ∈ tab, row.length = c
  po : ∀ row ∈ tab, ∀ e ∈ row, Po B e
  rk : ∀ x, Rk ((vals x tab).map fn) (cntP x ps)
theorem Mp.diag {n c B : Nat} {ps : List (List Int)} (hn : ps.length ≤ n) (hc : ps.length ≤ c) (h : ∀ e ∈ ps, Po B e) : Mp n c B ps (dg [] n c ps) := by
  refine ⟨dg_len ps, fun row hr => ?_, fun row hr e he => ?_, fun x => ?_⟩
  · obtain ⟨i, _, rfl⟩ := List.mem_map.mp hr
    exact dgr_len ps
  · obtain ⟨i, _, rfl⟩ := List.mem_map.mp hr
    obtain ⟨j, _, rfl⟩ := List.mem_map.mp he
    split
    · rw [List.getD_eq_getElem?_getD]
      cases e : ps[i]? with
      | none => exact Po.nil B
      | some p => exact h p (List.mem_of_getElem? e)
    · exact Po.nil B
  · rw [vals_dg]
    exact rk_dg (by rw [List.length_map]; exact hn) (by rw [List.length_map]; exact hc)
/-- one element and the other one's multiple -/
def mix (f a b : List Int) : List Int := padd a (pmul f b)
theorem pval_mix (x : Int) (f a b : List Int) : pval x (mix f a b) = pval x a + pval x f * pval x b := by
  unfold mix
  rw [pval_padd, pval_pmul]
theorem conv_bound {A B : Nat} {a b : List Int} (ha : ∀ m, (cf a m).natAbs ≤ A) (hb : ∀ m, (cf b m).natAbs ≤ B) : ∀ n m : Nat, (conv a b n m).natAbs ≤ n * (A * B)
  | 0, _ => Nat.zero_le _
  | n + 1, m => by
    show (conv a b n m + cf a n * (if n ≤ m then cf b (m - n) else 0)).natAbs ≤ _
    rw [Nat.succ_mul]
    refine Nat.le_trans (Int.natAbs_add_le _ _) (Nat.add_le_add (conv_bound ha hb n m) ?_)
    rw [Int.natAbs_mul]
    refine Nat.mul_le_mul (ha n) ?_
    split
    · exact hb _
    · exact Nat.zero_le _
theorem pmul_bound {A B : Nat} {a b : List Int} (ha : ∀ m, (cf a m).natAbs ≤ A) (hb : ∀ m, (cf b m).natAbs ≤ B) (m : Nat) : (cf (pmul a b) m).natAbs ≤ a.length * (A * B) := by
  rw [K00.cf_pmul]
  exact conv_bound ha hb _ _
theorem mix_bound {B : Nat} {f a b : List Int} (hf : f.length ≤ 2) (hf2 : ∀ m, (cf f m).natAbs ≤ 3) (ha : ∀ m, (cf a m).natAbs ≤ B) (hb : ∀ m, (cf b m).natAbs ≤ B) (m : Nat) : (cf (mix f a b) m).natAbs ≤ 7 * B := by
  unfold mix
  rw [K00.cf_padd]
  have h1 := pmul_bound hf2 hb m
  have h2 : f.length * (3 * B) ≤ 2 * (3 * B) := Nat.mul_le_mul_right _ hf
  have h3 := ha m
  have := Int.natAbs_add_le (cf a m) (cf (pmul f b) m)
  omega
theorem pmul_len1 (a b : List Int) : (pmul a b).length ≤ a.length + b.length - 1 := by
  rcases K00.can_pmul a b with z | z
  · rw [z]; exact Nat.zero_le _
  · rcases Nat.lt_or_ge (a.length + b.length - 1) (pmul a b).length with w | w
    · exfalso
      rw [K00.cf_pmul] at z
      exact z (K00.conv_out (by omega) (Nat.le_refl _))
    · exact w
theorem po_mem {B : Nat} {row : List (List Int)} (h : ∀ e ∈ row, Po B e) (j : Nat) : Po B (row.getD j []) := by
  rw [List.getD_eq_getElem?_getD]
  cases e : row[j]? with
  | none => exact Po.nil B
  | some p => exact h p (List.mem_of_getElem? e)
/-- a row of mixes -/
def mixrow (c : Nat) (f : List Int) (a b : List (List Int)) : List (List Int) := (List.range c).map fun j => mix f (a.getD j []) (b.getD j [])
theorem fn_mixrow {c : Nat} {f : List Int} {a b : List (List Int)} (x : Int) (ha : a.length = c) (hb : b.length = c) : fn (vrow x (mixrow c f a b)) = DT.addR (pval x f) (fn (vrow x a)) (fn (vrow x b)) := by
  funext j
  show _ = fn (vrow x a) j + pval x f * fn (vrow x b) j
  rw [fn_vrow, fn_vrow, fn_vrow]
  rcases Nat.lt_or_ge j c with h | h
  · have : (mixrow c f a b).getD j [] = mix f (a.getD j []) (b.getD j []) := by
      unfold mixrow
      rw [List.getD_eq_getElem?_getD, List.getElem?_map, List.getElem?_range h]
      rfl
    rw [this, pval_mix]
  · have z : ∀ l : List (List Int), l.length = c → l.getD j [] = [] := fun l hl => by rw [List.getD_eq_getElem?_getD, List.getElem?_eq_none (by omega)]; rfl
    rw [z _ (by unfold mixrow; rw [List.length_map, List.length_range]), z a ha, z b hb]
    show (0 : Int) = 0 + pval x f * 0
    omega
theorem Mp.row {n c B : Nat} {ps : List (List Int)} {tab : Tb} (h : Mp n c B ps tab) {i o : Nat} {a b : List (List Int)} (ne : i ≠ o) (ha : tab[i]? = some a) (hb : tab[o]? = some b) {f : List Int} (hf : f.length ≤ 2) (hf2 : ∀ m, (cf f m).natAbs ≤ 3)
    (l : ∀ e ∈ mixrow c f a b, e.length ≤ 5) : Mp n c (7 * B) ps (tab.set i (mixrow c f a b)) := by
  have wa := h.wid a (List.mem_of_getElem? ha)
  have wb := h.wid b (List.mem_of_getElem? hb)
  refine ⟨by rw [List.length_set, h.len], fun row hr => ?_, fun row hr e he => ?_, fun x => ?_⟩
  · rcases List.mem_or_eq_of_mem_set hr with z | rfl
    · exact h.wid row z
    · unfold mixrow; rw [List.length_map, List.length_range]
  · rcases List.mem_or_eq_of_mem_set hr with z | rfl
    · exact (h.po row z e he).up (by omega)
    · refine ⟨?_, l e he, ?_⟩
      · obtain ⟨j, _, rfl⟩ := List.mem_map.mp he
        exact K00.can_padd _ _
      · obtain ⟨j, _, rfl⟩ := List.mem_map.mp he
        exact mix_bound hf hf2 (po_mem (h.po a (List.mem_of_getElem? ha)) j).2.2 (po_mem (h.po b (List.mem_of_getElem? hb)) j).2.2
  · have e : (vals x (tab.set i (mixrow c f a b))).map fn = ((vals x tab).map fn).set i (DT.addR (pval x f) (fn (vrow x a)) (fn (vrow x b))) := by
      unfold vals
      rw [List.map_set, List.map_set, fn_mixrow x wa wb]
    rw [e]
    have g : ∀ (k : Nat) (r : List (List Int)), tab[k]? = some r → ((vals x tab).map fn)[k]? = some (fn (vrow x r)) := fun k r hk => by
      unfold vals
      rw [List.getElem?_map, List.getElem?_map, hk]
      rfl
    exact (h.rk x).add ne (g i a ha) (g o b hb)
/-- a column of mixes -/
def mixcol (f : List Int) (j o : Nat) (row : List (List Int)) : List (List Int) := row.set j (mix f (row.getD j []) (row.getD o []))
theorem fn_mixcol {f : List Int} {j o : Nat} {row : List (List Int)} (x : Int) (hj : j < row.length) : fn (vrow x (mixcol f j o row)) = DT.colOp j o (pval x f) (fn (vrow x row)) := by
  funext k
  show _ = if k = j then fn (vrow x row) j + pval x f * fn (vrow x row) o else fn (vrow x row) k
  rw [fn_vrow, fn_vrow, fn_vrow, fn_vrow]
  unfold mixcol
  by_cases e : k = j
  · subst e
    rw [if_pos rfl, List.getD_eq_getElem?_getD, List.getElem?_set_self hj]
    exact pval_mix x f _ _
  · rw [if_neg e, List.getD_eq_getElem?_getD, List.getElem?_set_ne (fun z => e z.symm), ← List.getD_eq_getElem?_getD]
theorem Mp.col {n c B : Nat} {ps : List (List Int)} {tab : Tb} (h : Mp n c B ps tab) {j o : Nat} (ne : j ≠ o) (hj : j < c) {f : List Int} (hf : f.length ≤ 2) (hf2 : ∀ m, (cf f m).natAbs ≤ 3)
    (l : ∀ row ∈ tab, (mix f (row.getD j []) (row.getD o [])).length ≤ 5) : Mp n c (7 * B) ps (tab.map (mixcol f j o)) := by
  refine ⟨by rw [List.length_map, h.len], fun row hr => ?_, fun row hr e he => ?_, fun x => ?_⟩
  · obtain ⟨r, hr2, rfl⟩ := List.mem_map.mp hr
    unfold mixcol
    rw [List.length_set]
    exact h.wid r hr2
  · obtain ⟨r, hr2, rfl⟩ := List.mem_map.mp hr
    rcases List.mem_or_eq_of_mem_set he with z | rfl
    · exact (h.po r hr2 e z).up (by omega)
    · exact ⟨K00.can_padd _ _, l r hr2, mix_bound hf hf2 (po_mem (h.po r hr2) j).2.2 (po_mem (h.po r hr2) o).2.2⟩
  · have e : (vals x (tab.map (mixcol f j o))).map fn = ((vals x tab).map fn).map (DT.colOp j o (pval x f)) := by
      unfold vals
      rw [List.map_map, List.map_map, List.map_map, List.map_map]
      refine List.map_congr_left fun r hr => ?_
      exact fn_mixcol x (by rw [h.wid r hr]; exact hj)
    rw [e]
    exact (h.rk x).col ne
theorem pval_bound {B : Nat} {x : Int} {X : Nat} (hx : x.natAbs ≤ X) (hX : 1 ≤ X) : ∀ (e : List Int), (∀ m, (cf e m).natAbs ≤ B) → (pval x e).natAbs ≤ e.length * B * X ^ e.length
  | [], _ => Nat.zero_le _
  | a :: r, h => by
    have ih := pval_bound hx hX r fun m => by have := h (m + 1); rwa [K00.cf_cons_succ] at this
    have ha := h 0
    rw [K00.cf_cons_zero] at ha
    show (pval x r * x + a).natAbs ≤ _
    rw [List.length_cons, Nat.pow_succ]
    refine Nat.le_trans (Int.natAbs_add_le _ _) ?_
    rw [Int.natAbs_mul]
    have h1 : (pval x r).natAbs * x.natAbs ≤ r.length * B * X ^ r.length * X := Nat.mul_le_mul ih hx
    have h2 : 1 ≤ X ^ r.length * X := Nat.mul_pos (Nat.pow_pos hX) hX
    have h3 : a.natAbs ≤ B * (X ^ r.length * X) := Nat.le_trans ha (Nat.le_mul_of_pos_right _ h2)
    have e : (r.length + 1) * B * (X ^ r.length * X) = r.length * B * X ^ r.length * X + B * (X ^ r.length * X) := by
      rw [Nat.add_mul, Nat.add_mul, Nat.one_mul, Nat.mul_assoc, Nat.mul_assoc, Nat.mul_assoc]
    rw [e]
    exact Nat.add_le_add h1 h3
end DP
-- B3
namespace K03
open PySem PySem.Spec PyProof.Rows L2
def topS (i : Nat) : Stmt := PySem.Challenge.pw_unsaidsizes_k03_ranks_of_polynomials.main.body.getD i (.Pass ⟨0, 0, 0, 0⟩)
abbrev s_first_row : Stmt := topS 1
theorem sc_first_row : FnScope ["rows", "start", "column", "k"] ["rows", "start", "column"] (defScope s_first_row) := ⟨rfl, rfl, rfl, by decide +kernel, rfl, by decide +kernel, by decide +kernel⟩
abbrev s_lowered : Stmt := topS 2
theorem sc_lowered : FnScope ["row", "pivot", "column", "last", "up", "down", "own", "other"] ["row", "pivot", "column", "last"] (defScope s_lowered) := ⟨rfl, rfl, rfl, by decide +kernel, rfl, by decide +kernel, by decide +kernel⟩
abbrev s_triangle : Stmt := topS 3
theorem sc_triangle : FnScope ["numbers", "width", "rows", "found", "sign", "last", "column", "at", "k", "row"] ["numbers", "width"] (defScope s_triangle) := ⟨rfl, rfl, rfl, by decide +kernel, rfl, by decide +kernel, by decide +kernel⟩
abbrev s_degree : Stmt := topS 5
theorem sc_degree : FnScope ["one"] ["one"] (defScope s_degree) := ⟨rfl, rfl, rfl, by decide +kernel, rfl, by decide +kernel, by decide +kernel⟩
abbrev s_value : Stmt := topS 6
theorem sc_value : FnScope ["one", "at", "total", "number"] ["one", "at"] (defScope s_value) := ⟨rfl, rfl, rfl, by decide +kernel, rfl, by decide +kernel, by decide +kernel⟩
abbrev s_width : Stmt := topS 8
theorem sc_width : FnScope ["table"] ["table"] (defScope s_width) := ⟨rfl, rfl, rfl, by decide +kernel, rfl, by decide +kernel, by decide +kernel⟩
abbrev s_value_at : Stmt := topS 9
theorem sc_value_at : FnScope ["table", "at", "row", "one"] ["table", "at"] (defScope s_value_at) := ⟨rfl, rfl, rfl, by decide +kernel, rfl, by decide +kernel, by decide +kernel⟩
abbrev s_number_rank : Stmt := topS 10
theorem sc_number_rank : FnScope ["numbers", "_", "found"] ["numbers"] (defScope s_number_rank) := ⟨rfl, rfl, rfl, by decide +kernel, rfl, by decide +kernel, by decide +kernel⟩
abbrev s_reach : Stmt := topS 11
theorem sc_reach : FnScope ["table", "row", "one"] ["table"] (defScope s_reach) := ⟨rfl, rfl, rfl, by decide +kernel, rfl, by decide +kernel, by decide +kernel⟩
abbrev s_ranks : Stmt := topS 12
theorem sc_ranks : FnScope ["table", "most", "ranks", "at"] ["table"] (defScope s_ranks) := ⟨rfl, rfl, rfl, by decide +kernel, rfl, by decide +kernel, by decide +kernel⟩
abbrev s_rank : Stmt := topS 13
theorem sc_rank : FnScope ["table"] ["table"] (defScope s_rank) := ⟨rfl, rfl, rfl, by decide +kernel, rfl, by decide +kernel, by decide +kernel⟩
abbrev s_point : Stmt := topS 14
theorem sc_point : FnScope ["table", "ranks"] ["table"] (defScope s_point) := ⟨rfl, rfl, rfl, by decide +kernel, rfl, by decide +kernel, by decide +kernel⟩
abbrev s_law_draws : Stmt := topS 16
theorem sc_law_draws : FnScope ["script", "draws", "k", "rest", "turn", "mixed"] ["script"] (defScope s_law_draws) := ⟨rfl, rfl, rfl, by decide +kernel, rfl, by decide +kernel, by decide +kernel⟩
abbrev s_law_at : Stmt := topS 17
theorem sc_law_at : FnScope ["draws", "k", "many"] ["draws", "k", "many"] (defScope s_law_at) := ⟨rfl, rfl, rfl, by decide +kernel, rfl, by decide +kernel, by decide +kernel⟩
abbrev s_law_is_integer : Stmt := topS 18
theorem sc_law_is_integer : FnScope ["actual"] ["actual"] (defScope s_law_is_integer) := ⟨rfl, rfl, rfl, by decide +kernel, rfl, by decide +kernel, by decide +kernel⟩
abbrev s_law_plus : Stmt := topS 19
theorem sc_law_plus : FnScope ["one", "two", "k", "total", "last"] ["one", "two"] (defScope s_law_plus) := ⟨rfl, rfl, rfl, by decide +kernel, rfl, by decide +kernel, by decide +kernel⟩
abbrev s_law_times : Stmt := topS 20
theorem sc_law_times : FnScope ["one", "two", "total", "k", "m", "number"] ["one", "two"] (defScope s_law_times) := ⟨rfl, rfl, rfl, by decide +kernel, rfl, by decide +kernel, by decide +kernel⟩
abbrev s_law_value : Stmt := topS 21
theorem sc_law_value : FnScope ["one", "at", "total", "power", "number"] ["one", "at"] (defScope s_law_value) := ⟨rfl, rfl, rfl, by decide +kernel, rfl, by decide +kernel, by decide +kernel⟩
abbrev s_law_menu : Stmt := topS 22
theorem sc_law_menu : FnScope ["cell", "roots"] ["cell"] (defScope s_law_menu) := ⟨rfl, rfl, rfl, by decide +kernel, rfl, by decide +kernel, by decide +kernel⟩
abbrev s_law_deep : Stmt := topS 23
theorem sc_law_deep : FnScope ["draws", "many", "lost", "parts", "k", "part", "root"] ["draws", "many"] (defScope s_law_deep) := ⟨rfl, rfl, rfl, by decide +kernel, rfl, by decide +kernel, by decide +kernel⟩
abbrev s_law_made : Stmt := topS 24
theorem sc_law_made : FnScope ["draws", "rows", "columns", "k", "parts", "i", "j", "table", "turn", "cell", "factor", "other", "line", "part", "element"] ["draws", "rows", "columns"] (defScope s_law_made) := ⟨rfl, rfl, rfl, by decide +kernel, rfl, by decide +kernel, by decide +kernel⟩
abbrev s_law_point : Stmt := topS 25
theorem sc_law_point : FnScope ["parts", "at", "part"] ["parts"] (defScope s_law_point) := ⟨rfl, rfl, rfl, by decide +kernel, rfl, by decide +kernel, by decide +kernel⟩
abbrev s_law_reaches : Stmt := topS 26
theorem sc_law_reaches : FnScope ["draws", "table", "due", "i", "sizes", "told", "j", "size", "k"] ["draws"] (defScope s_law_reaches) := ⟨rfl, rfl, rfl, by decide +kernel, rfl, by decide +kernel, by decide +kernel⟩
abbrev s_law : Stmt := topS 27
theorem sc_law : FnScope ["script", "draws", "rows", "columns", "table", "parts", "kept", "degrees", "told", "row", "number", "element"] ["script"] (defScope s_law) := ⟨rfl, rfl, rfl, by decide +kernel, rfl, by decide +kernel, by decide +kernel⟩
/-- a def as it stands behind the top -/
structure Def (K : PySem.W.Frag) (mg : Str → Option Value) (x : Str) (st : Stmt) (ps : List Str) where
  a : Addr
  fd : FuncData
  F : Fun K x x st a fd
  b : Binds K fd ps []
  g : mg x = some (.ref a)
structure Txt (K : PySem.W.Frag) (mg : Str → Option Value) where
  first_row : Def K mg "_first_row" s_first_row ["rows", "start", "column"]
  lowered : Def K mg "_lowered" s_lowered ["row", "pivot", "column", "last"]
  triangle : Def K mg "triangle" s_triangle ["numbers", "width"]
  degree : Def K mg "degree" s_degree ["one"]
  value : Def K mg "value" s_value ["one", "at"]
  width : Def K mg "_width" s_width ["table"]
  value_at : Def K mg "value_at" s_value_at ["table", "at"]
  number_rank : Def K mg "number_rank" s_number_rank ["numbers"]
  reach : Def K mg "reach" s_reach ["table"]
  ranks : Def K mg "_ranks" s_ranks ["table"]
  rank : Def K mg "rank" s_rank ["table"]
  point : Def K mg "point" s_point ["table"]
  law_draws : Def K mg "_law_draws" s_law_draws ["script"]
  law_at : Def K mg "_law_at" s_law_at ["draws", "k", "many"]
  law_is_integer : Def K mg "_law_is_integer" s_law_is_integer ["actual"]
  law_plus : Def K mg "_law_plus" s_law_plus ["one", "two"]
  law_times : Def K mg "_law_times" s_law_times ["one", "two"]
  law_value : Def K mg "_law_value" s_law_value ["one", "at"]
  law_menu : Def K mg "_law_menu" s_law_menu ["cell"]
  law_deep : Def K mg "_law_deep" s_law_deep ["draws", "many"]
  law_made : Def K mg "_law_made" s_law_made ["draws", "rows", "columns"]
  law_point : Def K mg "_law_point" s_law_point ["parts"]
  law_reaches : Def K mg "_law_reaches" s_law_reaches ["draws"]
  law : Def K mg "law" s_law ["script"]
  m_abs : mg "abs" = none
  m_all : mg "all" = none
  m_bool : mg "bool" = none
  m_int : mg "int" = none
  m_isinstance : mg "isinstance" = none
  m_len : mg "len" = none
  m_list : mg "list" = none
  m_max : mg "max" = none
  m_min : mg "min" = none
  m_range : mg "range" = none
  m_repr : mg "repr" = none
  m_reversed : mg "reversed" = none
  m_sum : mg "sum" = none
  m_zip : mg "zip" = none

/-! ### words -/
theorem same_upd {H : Hp} {p : Addr} {o : HO} (h : H p = none) : Same H (upd H p o) := fun b x e => by
  rw [upd_ne (ne_of_none e h)]
  exact e
theorem same_over {H H' : Hp} {p : Addr} {o : HO} (s : Same H H') (h : H p = none) : Same H (upd H' p o) := fun b x e => by
  rw [upd_ne (ne_of_none e h)]
  exact s _ _ e
theorem Same.seqT {K : PySem.W.Frag} {H H' : Hp} {a : Addr} {xs : List V} (e : Same H H') (h : SqT K H a xs) : SqT K H' a xs := by
  rcases h with (h | ⟨o, h⟩) | h
  · exact .inl (.inl (e _ _ h))
  · exact .inl (.inr ⟨o, e _ _ h⟩)
  · exact .inr h
/-- two lists in step -/
inductive A2 {α β : Type} (R : α → β → Prop) : List α → List β → Prop
  | nil : A2 R [] []
  | cons {a b as bs} : R a b → A2 R as bs → A2 R (a :: as) (b :: bs)
namespace A2
variable {α β γ : Type} {R S : α → β → Prop} {as : List α} {bs : List β}
theorem mono (f : ∀ a b, R a b → S a b) : ∀ {as : List α} {bs : List β}, A2 R as bs → A2 S as bs
  | _, _, .nil => .nil
  | _, _, .cons h t => .cons (f _ _ h) (mono f t)
theorem len : ∀ {as : List α} {bs : List β}, A2 R as bs → as.length = bs.length
  | _, _, .nil => rfl
  | _, _, .cons _ t => by rw [List.length_cons, List.length_cons, len t]
theorem get : ∀ {as : List α} {bs : List β}, A2 R as bs → ∀ {i : Nat} {a : α}, as[i]? = some a → ∃ b, bs[i]? = some b ∧ R a b
  | _, _, .nil, i, a, h => by simp at h
  | _, _, .cons h t, 0, a, e => by simp at e; subst e; exact ⟨_, rfl, h⟩
  | _, _, .cons h t, i + 1, a, e => get t (i := i) (by simpa using e)
theorem get' : ∀ {as : List α} {bs : List β}, A2 R as bs → ∀ {i : Nat} {b : β}, bs[i]? = some b → ∃ a, as[i]? = some a ∧ R a b
  | _, _, .nil, i, a, h => by simp at h
  | _, _, .cons h t, 0, a, e => by simp at e; subst e; exact ⟨_, rfl, h⟩
  | _, _, .cons h t, i + 1, a, e => get' t (i := i) (by simpa using e)
theorem snoc {a : α} {b : β} (h : R a b) : ∀ {as : List α} {bs : List β}, A2 R as bs → A2 R (as ++ [a]) (bs ++ [b])
  | _, _, .nil => .cons h .nil
  | _, _, .cons x t => .cons x (snoc h t)
theorem mem : ∀ {as : List α} {bs : List β}, A2 R as bs → ∀ a ∈ as, ∃ b ∈ bs, R a b
  | _, _, .cons h t, a, m => by
    rcases List.mem_cons.mp m with rfl | m
    · exact ⟨_, List.mem_cons_self, h⟩
    · obtain ⟨b, hb, r⟩ := mem t a m
      exact ⟨b, List.mem_cons_of_mem _ hb, r⟩
theorem of_map {f : β → α} (h : ∀ b, b ∈ bs → R (f b) b) : A2 R (bs.map f) bs := by
  induction bs with
  | nil => exact .nil
  | cons b r ih => exact .cons (h b List.mem_cons_self) (ih fun c hc => h c (List.mem_cons_of_mem _ hc))
end A2
theorem take_snoc {α : Type} {xs : List α} {i : Nat} {x : α} (h : xs[i]? = some x) : xs.take (i + 1) = xs.take i ++ [x] := by
  rw [List.take_add_one, h]; rfl
/-- a list of ints stands at a -/
def IL (H : Hp) (a : Addr) (ns : List Int) : Prop := H a = some (.lst (ns.map V.int))
theorem IL.sq {K : PySem.W.Frag} {H : Hp} {a : Addr} {ns : List Int} (h : IL H a ns) : SqL K H a (ns.map V.int) := SqL.of h
theorem IL.same {H H' : Hp} {a : Addr} {ns : List Int} (h : IL H a ns) (s : Same H H') : IL H' a ns := s _ _ h
theorem il_upd {H : Hp} {p : Addr} {ns : List Int} : IL (upd H p (.lst (ns.map V.int))) p ns := upd_same
theorem app_ints {ds : List Int} {x : Int} : ds.map V.int ++ [V.int x] = (ds ++ [x]).map V.int := by rw [List.map_append]; rfl
theorem small {n : Nat} (h : n ≤ 60000) : n ≤ sizeLine := Nat.le_trans h (by decide)
theorem small' {n : Nat} (h : n < 60000) : n < sizeLine := Nat.lt_of_lt_of_le h (by decide)

theorem mem_at {α : Type} {xs : List α} {i : Nat} {x : α} (h : xs[i]? = some x) : x ∈ xs := List.mem_of_getElem? h
theorem at_getD {α : Type} {xs : List α} {j : Nat} {d : α} (h : j < xs.length) : xs[j]? = some (xs.getD j d) := by
  rw [List.getD_eq_getElem?_getD, List.getElem?_eq_getElem h]; rfl
theorem ix_ok {n j : Nat} {i : Int} (e : i = (j : Int)) (h : j < n) : ixN n i = some j := by
  unfold ixN
  rw [if_pos (by omega), if_pos (by omega), e]; rfl
/-! new lists -/
/-- lists of flat things, all new, in a new list -/
def Rows (H H' : Hp) (p : Addr) (rows : List (List V)) : Prop := ∃ rs : List Addr, H' p = some (.lst (rs.map V.ref)) ∧ A2 (fun r row => H' r = some (.lst row)) rs rows ∧ ∀ r ∈ rs, H r = none ∧ r ≠ p
/-- each of es once -/
def Inj (es : List Addr) : Prop := ∀ (i j : Nat) (e : Addr), es[i]? = some e → es[j]? = some e → i = j
/-- lists of such, all new -/
def Tabs (H H' : Hp) (p : Addr) (tab : List (List (List V))) : Prop := ∃ rs : List Addr, H' p = some (.lst (rs.map V.ref)) ∧ (∀ r ∈ rs, H r = none ∧ r ≠ p) ∧ Inj rs ∧
  A2 (fun r row => ∃ es : List Addr, H' r = some (.lst (es.map V.ref)) ∧ A2 (fun e x => H' e = some (.lst x)) es row ∧ ∀ e ∈ es, H e = none ∧ e ≠ p ∧ e ∉ rs) rs tab
/-- all but D stand as they stood -/
def SameX (D : Addr) (H H' : Hp) : Prop := ∀ c o, c ≠ D → H c = some o → H' c = some o
theorem sx {D : Addr} {H H' : Hp} (s : Same H H') : SameX D H H' := fun c o _ h => s c o h
theorem SameX.trans {D : Addr} {H H1 H2 : Hp} (a : SameX D H H1) (b : SameX D H1 H2) : SameX D H H2 := fun c o n h => b c o n (a c o n h)
theorem SameX.put {D : Addr} {H : Hp} {o : HO} : SameX D H (upd H D o) := fun c x n h => by
  rw [upd_ne n]; exact h
theorem SameX.seqT {K : PySem.W.Frag} {D : Addr} {H H' : Hp} {a : Addr} {xs : List V} (e : SameX D H H') (n : a ≠ D) (h : SqT K H a xs) : SqT K H' a xs := by
  rcases h with (h | ⟨o, h⟩) | h
  · exact .inl (.inl (e _ _ n h))
  · exact .inl (.inr ⟨o, e _ _ n h⟩)
  · exact .inr h
section
variable {J : It} {n : Nat} {G : Hp → Prop} {Y : Nat → Hp → V → Hp → Prop} {g : TG} {tt : TT} {te : TE} {vs : List Nat} {σ : L2.St} {H1 : Hp} {D : Addr} {Qd : Hp → Prop}
/-- what a comprehension wants of its turns -/
abbrev LcW (J : It) (g : TG) (tt : TT) (te : TE) (vs : List Nat) (σ : L2.St) (H1 : Hp) (D : Addr) (Qd : Hp → Prop) : Prop :=
  ∃ W : Nat → Nat → Hp → Prop, (∃ m, W 0 m (upd H1 D (.lst []))) ∧ ∀ i m H, W i m H →
      (J.stop i H ∧ Qd H) ∨ (J.go i H ∧ ∃ Nx : Hp → Prop, (∀ H', Nx H' → ∃ m', m' < m ∧ W (i + 1) m' H') ∧ ∀ x H', J.yld i H x H' → g x (wipe σ vs) H' fun σ2 H2 => wipe σ2 vs = wipe σ vs ∧ tt σ2 H2 fun b H3 =>
        if b = true then te σ2 H3 fun y H4 => ∃ acc, H4 D = some (.lst acc) ∧ acc.length < sizeLine ∧ Nx (upd H4 D (.lst (acc ++ [y]))) else Nx H3)
theorem lc_inv (w : Walk J n G Y) (R : Nat → Hp → List V → Prop) (nD : H1 D = none) (hG : ∀ H', Same H1 H' → G H') (hl : n < sizeLine) (h0 : R 0 (upd H1 D (.lst [])) [])
    (hs : ∀ i x H Hx ys, i < n → Same H1 H → H D = some (.lst ys) → R i H ys → Y i H x Hx → ∀ (Qt : VK) (Qf : Hp → Prop), (∀ y H4, Same H H4 → R (i + 1) (upd H4 D (.lst (ys ++ [y]))) (ys ++ [y]) → Qt y H4) →
      (∀ H3, Same H H3 → R (i + 1) H3 ys → Qf H3) → g x (wipe σ vs) Hx fun σ2 H2 => wipe σ2 vs = wipe σ vs ∧ tt σ2 H2 fun b H3 => if b = true then te σ2 H3 Qt else Qf H3)
    (hd : ∀ H ys, Same H1 H → H D = some (.lst ys) → R n H ys → Qd H) : LcW J g tt te vs σ H1 D Qd := by
  refine lc_it w (fun i H => Same H1 H ∧ ∃ ys, ys.length ≤ i ∧ H D = some (.lst ys) ∧ R i H ys) ⟨same_upd nD, [], Nat.le_refl _, upd_same, h0⟩ (fun i H _ p => hG H p.1) (fun i x H Hx hi p y => ?_) (fun H p => ?_)
  · obtain ⟨sm, ys, hn, hD, hR⟩ := p
    refine hs i x H Hx ys hi sm hD hR y (fun y H4 => ∃ acc, H4 D = some (.lst acc) ∧ acc.length < sizeLine ∧ Same H1 (upd H4 D (.lst (acc ++ [y]))) ∧ ∃ zs, zs.length ≤ i + 1 ∧ upd H4 D (.lst (acc ++ [y])) D = some (.lst zs) ∧ R (i + 1) (upd H4 D (.lst (acc ++ [y]))) zs) _ (fun y H4 s4 r => ?_) (fun H3 s3 r => ?_)
    · exact ⟨ys, s4 _ _ hD, by omega, same_over (sm.trans s4) nD, ys ++ [y], by rw [List.length_append]; exact Nat.succ_le_succ hn, upd_same, r⟩
    · exact ⟨sm.trans s3, ys, by omega, s3 _ _ hD, r⟩
  · obtain ⟨sm, ys, _, hD, hR⟩ := p
    exact hd H ys sm hD hR
/-- item by item -/
theorem lc_fm {α β : Type} (w : Walk J n G Y) (ls : List α) (f : α → Option β) (rel : Hp → V → β → Prop) (mono : ∀ H H' v b, SameX D H H' → rel H v b → rel H' v b) (hn : ls.length = n) (nD : H1 D = none)
    (hG : ∀ H', Same H1 H' → G H') (hl : n < sizeLine)
    (hs : ∀ i x H Hx ys l, ls[i]? = some l → Same H1 H → H D = some (.lst ys) → Y i H x Hx → ∀ (Qt : VK) (Qf : Hp → Prop), (∀ y H4 b, f l = some b → Same H H4 → rel H4 y b → Qt y H4) →
      (f l = none → ∀ H3, Same H H3 → Qf H3) → g x (wipe σ vs) Hx fun σ2 H2 => wipe σ2 vs = wipe σ vs ∧ tt σ2 H2 fun b H3 => if b = true then te σ2 H3 Qt else Qf H3)
    (hd : ∀ H ys, Same H1 H → H D = some (.lst ys) → A2 (rel H) ys (ls.filterMap f) → Qd H) : LcW J g tt te vs σ H1 D Qd := by
  refine lc_inv w (fun i H ys => A2 (rel H) ys ((ls.take i).filterMap f)) nD hG hl .nil (fun i x H Hx ys hi sm hD hR y Qt Qf qt qf => ?_) (fun H ys sm hD hR => ?_)
  · obtain ⟨l, hl⟩ : ∃ l, ls[i]? = some l := ⟨ls[i]'(by omega), by simp [show i < ls.length by omega]⟩
    refine hs i x H Hx ys l hl sm hD y Qt Qf (fun y H4 b hb s4 r => ?_) (fun hb H3 s3 => ?_)
    · refine qt y H4 s4 ?_
      rw [take_snoc hl, List.filterMap_append]
      show A2 _ _ (_ ++ List.filterMap f [l])
      rw [show List.filterMap f [l] = [b] by simp [hb]]
      exact A2.snoc (mono _ _ _ _ SameX.put r) (hR.mono fun _ _ z => mono _ _ _ _ ((sx s4).trans SameX.put) z)
    · refine qf H3 s3 ?_
      rw [take_snoc hl, List.filterMap_append]
      show A2 _ _ (_ ++ List.filterMap f [l])
      rw [show List.filterMap f [l] = [] by simp [hb], List.append_nil]
      exact hR.mono fun _ _ z => mono _ _ _ _ (sx s3) z
  · rw [List.take_of_length_le (by omega)] at hR
    exact hd H ys sm hD hR
end
/-- a text so many times -/
theorem op_mulS {X : Cx} : OpR X (binaryOp .Mult) (fun x y H Q => ∃ (z : Str) (n : Int), x = .str z ∧ y = .int n ∧ z.length ≤ 1 ∧ -1000 ≤ n ∧ n ≤ 1000 ∧ Q (.str (Txt.mul z n)) H) := by
  intro pins s σ H x y v u Q I rx ry h
  obtain ⟨z, n, rfl, rfl, h1, h2, h3, q⟩ := h
  obtain ⟨t, rfl⟩ := rx
  obtain ⟨t', rfl⟩ := ry
  exact SB.mul (mulOk_of 1 1000 h1 h3 (by omega) (by decide) (by decide)) fun t k => ⟨.str _, H, I.tok _, ⟨_, rfl⟩, q⟩
def rLenS (K : PySem.W.Frag) : List V → Hp → VK → Prop := fun xs H Q => ∃ p ys, xs = [.ref p] ∧ (SqL K H p ys ∨ SqT K H p ys) ∧ Q (.int (ys.length : Nat)) H
theorem call_lenC {X : Cx} : CallR X (.builtin "len") (rLenS X.K) := call_len_seq
theorem r65 {k : Nat} {A : Around} (r : Room k A) : A.units + 65 < cLine := by have := r.un; omega
theorem log_small {n : Nat} (h : n < 2 ^ 30) : n.log2 < 1920 := by
  rcases Nat.eq_zero_or_pos n with rfl | p
  · decide
  · exact Nat.lt_of_lt_of_le ((Nat.log2_lt (by omega)).mpr h) (by decide)
/-! ### number tables -/
/-- a table of numbers: a list of lists -/
def NT (H : Hp) (p : Addr) (T : List (List Int)) : Prop := ∃ as : List Addr, H p = some (.lst (as.map V.ref)) ∧ A2 (fun a x => IL H a x) as T
theorem NT.same {H H' : Hp} {p : Addr} {T : List (List Int)} (s : Same H H') (h : NT H p T) : NT H' p T := let ⟨as, a, b⟩ := h; ⟨as, s _ _ a, b.mono fun _ _ z => z.same s⟩
theorem il_x {H H' : Hp} {q a : Addr} {x : List Int} {ys : List V} (n : a ≠ q) (s : SameX q H H') (h : IL H a x) : IL H' a x := s _ _ n h
theorem NT.row {H : Hp} {p : Addr} {T : List (List Int)} (h : NT H p T) {k : Nat} {x : List Int} (hk : T[k]? = some x) : ∃ (as : List Addr) (a : Addr), H p = some (.lst (as.map V.ref)) ∧ atI (as.map V.ref) ((k : Nat) : Int) = some (.ref a) ∧ as[k]? = some a ∧ IL H a x := by
  obtain ⟨as, hp, hA⟩ := h
  obtain ⟨a, ha, hx⟩ := hA.get' hk
  refine ⟨as, a, hp, atI_nat ?_, ha, hx⟩
  rw [List.getElem?_map, ha]
  rfl
theorem il_at {x : List Int} {j : Nat} (h : j < x.length) : atI (x.map V.int) ((j : Nat) : Int) = some (.int (DT.fn x j)) := by
  refine atI_nat ?_
  rw [List.getElem?_map, List.getElem?_eq_getElem h]
  show some (V.int x[j]) = some (V.int (x.getD j 0))
  rw [List.getD_eq_getElem?_getD, List.getElem?_eq_getElem h]
  rfl
theorem log_lt {n m : Nat} (h : n < 2 ^ m) (hm : 0 < m) : n.log2 < m := by
  rcases Nat.eq_zero_or_pos n with rfl | z
  · rw [Nat.log2_zero]; exact hm
  · exact (Nat.log2_lt (by omega)).mpr h
def rListC (K : PySem.W.Frag) : List V → Hp → VK → Prop := fun xs H Q => ∃ p ys, xs = [.ref p] ∧ (SqL K H p ys ∨ SqT K H p ys) ∧ ∀ l, H l = none → Q (.ref l) (upd H l (.lst ys))
theorem call_listC {X : Cx} : CallR X (.type "list") (rListC X.K) := call_list_of
theorem take_all {α : Type} {p : α → Prop} {xs : List α} {i : Nat} {x : α} (h : xs[i]? = some x) (a : ∀ y ∈ xs.take i, p y) (b : p x) : ∀ y ∈ xs.take (i + 1), p y := fun y hy => by
  rw [take_snoc h] at hy
  rcases List.mem_append.mp hy with hy | hy
  · exact a y hy
  · rw [List.mem_singleton.mp hy]; exact b

end K03
-- C3
namespace K03
open PySem PySem.Spec PyProof.Rows L2
section
variable {P : Program} {w : World} {K : PySem.W.Frag} {mg : Str → Option Value} {base : Heap}
/-! ### the elimination -/
def sp_first_row : Sp := fun vs H Q _ => ∃ (p : Addr) (T : List (List Int)) (r c L : Nat), vs = [.ref p, .int (r : Nat), .int (c : Nat)] ∧ NT H p T ∧ (∀ x ∈ T, x.length = L) ∧ c < L ∧ T.length ≤ 1000 ∧ r ≤ T.length ∧
  (∀ (k : Nat) (x : List Int), r ≤ k → T[k]? = some x → DT.fn x c ≠ 0 → Q (.int (k : Nat)) H) ∧ ((∀ (k : Nat) (x : List Int), r ≤ k → T[k]? = some x → DT.fn x c = 0) → Q .non H)
theorem ok_first_row (T : Txt K mg) : FnOk P w K mg base CX0 1 T.first_row.a T.first_row.fd ["rows", "start", "column"] sp_first_row := by
  refine T.first_row.F.ok sc_first_row (fun vs H Q E h => ?_) (fun cdv A outer s H vs Q E hr h => ?_)
  · obtain ⟨p, rows, r, c, L, rfl, _⟩ := h
    rfl
  · obtain ⟨p, rows, r, c, L, rfl, hT, hL, hc, hn, hr1, q1, q0⟩ := h
    refine ⟨_, (pss_cons (ps_for PassesOwn.never rfl (pi_range2 (by rfl) T.m_range (pa_cons (pv 1) (pa_cons (pe_callB call_len_seq (by rfl) T.m_len (by decide +kernel) (pa_cons (pv 0) pa_nil)) pa_nil))) (pg_name (i := 3) sc_first_row.nd rfl (.inl rfl))
        (pss_one (ps_if (pt_cmpR op_ne (pe_ix ix_list (pe_ix ix_list (pv 0) (pv 3) (fun _ _ => rfl)) (pv 2) (fun _ _ => rfl)) pe_int (nomark _))
          (pss_one (ps_ret (pv 3)))
          pss_nil)))
      (pss_one (ps_ret pe_non))), ?_⟩
    have len : ∀ as : List Addr, H p = some (.lst (as.map V.ref)) → A2 (fun a x => IL H a x) as rows → as.length = rows.length := fun as _ h => h.len
    obtain ⟨as, hp, hA⟩ := id hT
    have el := hA.len
    refine ⟨_, rfl, .ref p, rfl, p, _, rfl, .inl (.of hp), (r : Nat), (rows.length : Nat), by rw [List.length_map, el], ⟨by omega, by omega, by omega, by omega⟩, ?_⟩
    refine for_range (n := ((rows.length : Int) - (r : Int)).toNat) (lo := (r : Int)) (fun i σ G => G = H ∧ (∃ x3, σ = [some (.ref p), some (.int (r : Nat)), some (.int (c : Nat)), x3]) ∧ ∀ (k : Nat) (x : List Int), r ≤ k → k < r + i → rows[k]? = some x → DT.fn x c = 0) ⟨rfl, ⟨none, rfl⟩, fun k x h1 h2 => by omega⟩ (fun i σ G hi hP => ?_) (fun σ G hP => ?_)
    · obtain ⟨rfl, ⟨x3, rfl⟩, hz⟩ := hP
      have hk : r + i < rows.length := by omega
      obtain ⟨as2, a, hp2, ha, _, hx⟩ := hT.row (List.getElem?_eq_getElem hk)
      have lx := hL _ (List.getElem_mem hk)
      rw [show (r : Int) + (i : Int) = ((r + i : Nat) : Int) by omega]
      refine ⟨.ref p, rfl, _, rfl, p, _, _, _, rfl, rfl, .of hp2, ha, _, rfl, a, _, _, _, rfl, rfl, hx.sq, il_at (by rw [lx]; exact hc), rfl, _, rfl, ?_⟩
      refine ite2 (fun h => ?_) (fun h => ?_)
      · exact ⟨_, rfl, q1 (r + i) _ (by omega) (List.getElem?_eq_getElem hk) fun z => by rw [z] at h; exact absurd h (by decide)⟩
      · refine ⟨rfl, ⟨_, rfl⟩, fun k x h1 h2 h3 => ?_⟩
        rcases Nat.lt_or_ge k (r + i) with z | z
        · exact hz k x h1 z h3
        · have : k = r + i := by omega
          subst this
          rw [List.getElem?_eq_getElem hk] at h3
          cases h3
          have h := Bool.eq_false_iff.mpr h
          by_cases e : DT.fn rows[r + i] c = 0
          · exact e
          · rw [decide_eq_false (fun z => e (V.int.inj z))] at h
            exact absurd h (by decide)
    · obtain ⟨rfl, ⟨x3, rfl⟩, hz⟩ := hP
      exact q0 fun k x h1 h2 => hz k x h1 (by have := (List.getElem?_eq_some_iff.mp h2).1; omega) h2
def sp_lowered : Sp := fun vs H Q _ => ∃ (a b : Addr) (x p : List Int) (c : Nat) (last : Int), vs = [.ref a, .ref b, .int (c : Nat), .int last] ∧ IL H a x ∧ IL H b p ∧ x.length = p.length ∧ c < x.length ∧ x.length ≤ 1000 ∧ last ≠ 0 ∧ last.natAbs < 2 ^ 4000 ∧ (∀ j, (DT.fn x j).natAbs < 2 ^ 4000) ∧ (∀ j, (DT.fn p j).natAbs < 2 ^ 4000) ∧
  ∀ H' q, Same H H' → H q = none → IL H' q (DT.low x.length (DT.fn p c) (DT.fn x c) last x p) → Q (.ref q) H'
theorem ok_lowered (T : Txt K mg) : FnOk P w K mg base CX0 1 T.lowered.a T.lowered.fd ["row", "pivot", "column", "last"] sp_lowered := by
  refine T.lowered.F.ok sc_lowered (fun vs H Q E h => ?_) (fun cdv A outer s H vs Q E hr h => ?_)
  · obtain ⟨a, b, x, p, c, last, rfl, _⟩ := h
    rfl
  · obtain ⟨a, b, x, p, c, last, rfl, ha, hb, el, hc, hn, nl, bl, bx, bp, q⟩ := h
    refine ⟨_, (pss_cons (ps_asg (pe_tup (pa_cons (pe_ix ix_list (pv 1) (pv 2) (fun _ _ => rfl)) (pa_cons (pe_ix ix_list (pv 0) (pv 2) (fun _ _ => rfl)) pa_nil))) (pg_tup rfl (pgs_cons (pg_name (i := 4) sc_lowered.nd rfl (.inr rfl)) (pgs_cons (pg_name (i := 5) sc_lowered.nd rfl (.inr rfl)) pgs_nil))))
      (pss_one (ps_ret (pe_lc (own := [("own", 6), ("other", 7)]) (g := gTup K 2 (gCons (gName 6) (gCons (gName 7) gNil))) rfl sc_lowered.nd (pi_zip (by rfl) T.m_zip (pa_cons (pv 0) (pa_cons (pv 1) pa_nil))) (blkOk_by (N := ["row", "pivot", "column", "last", "up", "down", "own", "other"]) (sc := defScope s_lowered) (by decide +kernel)) (fun _ _ _ _ _ => (pg_tup rfl (pgs_cons (pg_name (i := 6) sc_lowered.nd rfl (.inl rfl)) (pgs_cons (pg_name (i := 7) sc_lowered.nd rfl (.inl rfl)) pgs_nil)))) (fun _ _ _ _ _ => pts_nil) (fun _ _ _ _ _ => (pe_op LX.op_fdivWN (pe_op op_sub (pe_op op_mulW (pv 4) (pv 6)) (pe_op op_mulW (pv 5) (pv 7))) (pv 3))))))), ?_⟩
    refine ⟨.ref b, rfl, _, rfl, b, _, _, _, rfl, rfl, hb.sq, il_at (el ▸ hc), .ref a, rfl, _, rfl, a, _, _, _, rfl, rfl, ha.sq, il_at hc, by show 2 ≤ sizeLine; decide, fun t nt => ?_⟩
    have s1 := same_upd nt (o := .tup [V.int (DT.fn p c), V.int (DT.fn x c)])
    refine ⟨t, _, rfl, .of upd_same, rfl, _, _, rfl, _, _, rfl, rfl, .ref a, rfl, .ref b, rfl, a, b, _, _, rfl, (ha.same s1).sq, (hb.same s1).sq, fun D nD => ?_⟩
    have lz : min (x.map V.int).length (p.map V.int).length = x.length := by rw [List.length_map, List.length_map]; omega
    refine lc_inv (walk_zip (n := x.length) lz.symm) (fun i G ys => ys = ((List.range i).map fun j => V.int ((DT.fn p c * DT.fn x j - DT.fn x c * DT.fn p j).fdiv last))) nD (fun G s => ⟨((ha.same s1).same s).sq, ((hb.same s1).same s).sq⟩) (small' (by omega)) rfl (fun i y G Hx ys hi sm hD hR yy Qt Qf qt qf => ?_) (fun G ys sm hD hR => ?_)
    · obtain ⟨u, x1, y1, rfl, nu, rfl, h1, h2⟩ := yy
      have e1 : x1 = V.int (DT.fn x i) := by
        have h1 : (x.map V.int)[i]? = some x1 := h1
        rw [List.getElem?_map, List.getElem?_eq_getElem hi] at h1
        cases h1
        show V.int x[i] = V.int (x.getD i 0)
        rw [List.getD_eq_getElem?_getD, List.getElem?_eq_getElem hi]; rfl
      have e2 : y1 = V.int (DT.fn p i) := by
        have h2 : (p.map V.int)[i]? = some y1 := h2
        rw [List.getElem?_map, List.getElem?_eq_getElem (el ▸ hi)] at h2
        cases h2
        show V.int p[i] = V.int (p.getD i 0)
        rw [List.getD_eq_getElem?_getD, List.getElem?_eq_getElem (el ▸ hi)]; rfl
      subst e1 e2
      have lg : ∀ z : Int, z.natAbs < 2 ^ 4000 → z.natAbs.log2 < 4000 := fun z h => log_lt h (by decide)
      have cm : ∀ z y : Int, z.natAbs < 2 ^ 4000 → y.natAbs < 2 ^ 4000 → z.natAbs.log2 + y.natAbs.log2 < 1000000 := fun z y h1 h2 => by
        have := lg z h1
        have := lg y h2
        omega
      refine ⟨u, _, rfl, .of upd_same, rfl, _, _, rfl, _, _, rfl, rfl, rfl, _, rfl, _, rfl, _, _, rfl, rfl, cm _ _ (bp c) (bx i), _, rfl, _, rfl, _, _, rfl, rfl, cm _ _ (bx c) (bp i), _, _, rfl, rfl, _, rfl, _, _, rfl, rfl, ⟨nl, Nat.lt_trans (lg _ bl) (by decide)⟩, ?_⟩
      refine qt _ _ (same_upd nu) ?_
      rw [List.range_succ, List.map_append, hR]
      rfl
    · have e : DT.low x.length (DT.fn p c) (DT.fn x c) last x p = (List.range x.length).map fun j => (DT.fn p c * DT.fn x j - DT.fn x c * DT.fn p j).fdiv last := rfl
      refine q _ D (s1.trans sm) (s1.free nD) ?_
      unfold IL
      rw [e, List.map_map, hD, hR]
      rfl
end
end K03
-- D3
namespace K03
open PySem PySem.Spec PyProof.Rows L2
section
variable {P : Program} {w : World} {K : PySem.W.Frag} {mg : Str → Option Value} {base : Heap}
/-- a table of numbers whose rows are none of q -/
def NX (q : Addr) (H : Hp) (T : List (List Int)) (as : List Addr) : Prop := H q = some (.lst (as.map V.ref)) ∧ A2 (fun a x => a ≠ q ∧ IL H a x) as T
theorem NX.nt {q : Addr} {H : Hp} {T : List (List Int)} {as : List Addr} (h : NX q H T as) : NT H q T := ⟨as, h.1, h.2.mono fun _ _ z => z.2⟩
theorem NX.same {q : Addr} {H H' : Hp} {T : List (List Int)} {as : List Addr} (s : Same H H') (h : NX q H T as) : NX q H' T as := ⟨s _ _ h.1, h.2.mono fun _ _ z => ⟨z.1, z.2.same s⟩⟩
theorem A2.set {α β : Type} {R : α → β → Prop} {a : α} {b : β} (h : R a b) : ∀ {as : List α} {bs : List β} {j : Nat}, A2 R as bs → A2 R (as.set j a) (bs.set j b)
  | _, _, _, .nil => .nil
  | _, _, 0, .cons x t => .cons h t
  | _, _, j + 1, .cons x t => .cons x (A2.set h t)
theorem NX.put {q a : Addr} {H : Hp} {T : List (List Int)} {as : List Addr} {x : List Int} {k : Nat} (h : NX q H T as) (n : a ≠ q) (hx : IL H a x) : NX q (upd H q (.lst ((as.map V.ref).set k (.ref a)))) (T.set k x) (as.set k a) := by
  refine ⟨by rw [upd_same, List.map_set], A2.set ⟨n, ?_⟩ (h.2.mono fun b y z => ⟨z.1, ?_⟩)⟩
  · exact (upd_ne n).trans hx
  · exact (upd_ne z.1).trans z.2
theorem NX.row {q : Addr} {H : Hp} {T : List (List Int)} {as : List Addr} (h : NX q H T as) {k : Nat} {x : List Int} (hk : T[k]? = some x) : ∃ a, atI (as.map V.ref) ((k : Nat) : Int) = some (.ref a) ∧ as[k]? = some a ∧ a ≠ q ∧ IL H a x := by
  obtain ⟨a, ha, n, hx⟩ := h.2.get' hk
  refine ⟨a, atI_nat ?_, ha, n, hx⟩
  rw [List.getElem?_map, ha]
  rfl
def sp_triangle (K : PySem.W.Frag) : Sp := fun vs H Q _ => ∃ (p : Addr) (T : List (List Int)) (L w M N : Nat), vs = [.ref p, .int (w : Nat)] ∧ NT H p T ∧ (∀ x ∈ T, x.length = L) ∧ w ≤ L ∧ L ≤ 1000 ∧ T.length ≤ N ∧ N ≤ 1000 ∧ (∀ x ∈ T, DT.Lim M (DT.fn x)) ∧ 0 < N * M ∧ (N * M) ^ N < 2 ^ 4000 ∧
  ∀ H' t q rows r sign last cs P, Same H H' → DT.St T L w r rows sign last cs P → NT H' q rows → SqT K H' t [.ref q, .int (r : Nat), .int sign, .int last] → Q (.ref t) H'
theorem ok_triangle (T : Txt K mg) : FnOk P w K mg base CX0 2 T.triangle.a T.triangle.fd ["numbers", "width"] (sp_triangle K) := by
  refine T.triangle.F.ok sc_triangle (fun vs H Q E h => ?_) (fun cdv A outer s H vs Q E hr h => ?_)
  · obtain ⟨p, Tb, L, w, M, N, rfl, _⟩ := h
    rfl
  · obtain ⟨p, Tb, L, w, M, N, rfl, hT, hL, hw, hL1, hn, hN, lim, hM, hB, q⟩ := h
    refine ⟨_, (pss_cons (ps_setLc (i := 2) (own := [("row", 9)]) rfl sc_triangle.nd rfl rfl (sw_true rfl rfl rfl (by decide +kernel)) (pi_list (pv 0)) (blkOk_by (N := ["numbers", "width", "rows", "found", "sign", "last", "column", "at", "k", "row"]) (sc := defScope s_triangle) (by decide +kernel)) (fun _ _ _ _ _ => (pg_name (i := 9) sc_triangle.nd rfl (.inl rfl))) (fun _ _ _ _ _ => pts_nil) (fun _ _ _ _ _ => (pe_callTy (T := "list") (r := rListC K) call_listC (by rfl) T.m_list (by decide +kernel) (pa_cons (pv 9) pa_nil))))
      (pss_cons (ps_asg (pe_tup (pa_cons pe_int (pa_cons pe_int (pa_cons pe_int pa_nil)))) (pg_tup rfl (pgs_cons (pg_name (i := 3) sc_triangle.nd rfl (.inl rfl)) (pgs_cons (pg_name (i := 4) sc_triangle.nd rfl (.inl rfl)) (pgs_cons (pg_name (i := 5) sc_triangle.nd rfl (.inl rfl)) pgs_nil)))))
      (pss_cons (ps_for PassesOwn.never rfl (pi_range1 (by rfl) T.m_range (pa_cons (pv 1) pa_nil)) (pg_name (i := 6) sc_triangle.nd rfl (.inl rfl))
        (pss_cons (ps_set (i := 7) sc_triangle.nd rfl (.inl rfl) (pe_call (ok_first_row T) (hr.mono (by decide)) (by rfl) T.first_row.g T.first_row.F.kp T.first_row.b .nil pass0 (pa_cons (pv 2) (pa_cons (pv 3) (pa_cons (pv 6) pa_nil)))))
        (pss_cons (ps_if (pt_cmpR op_isN (pv 7) pe_non (nomark _))
          (pss_one ps_continue)
          pss_nil)
        (pss_cons (ps_if (pt_cmpR op_ne (pv 7) (pv 3) (nomark _))
          (pss_cons (ps_asg (pe_tup (pa_cons (pe_ix ix_list (pv 2) (pv 7) (fun _ _ => rfl)) (pa_cons (pe_ix ix_list (pv 2) (pv 3) (fun _ _ => rfl)) pa_nil))) (pg_tup rfl (pgs_cons (pg_sub (pv 2) (pv 3) set_list) (pgs_cons (pg_sub (pv 2) (pv 7) set_list) pgs_nil))))
          (pss_one (ps_set (i := 4) sc_triangle.nd rfl (.inl rfl) (pe_un un_neg (pv 4)))))
          pss_nil)
        (pss_cons (ps_for PassesOwn.never rfl (pi_range2 (by rfl) T.m_range (pa_cons (pe_op op_add (pv 3) pe_int) (pa_cons (pe_callB call_len_seq (by rfl) T.m_len (by decide +kernel) (pa_cons (pv 2) pa_nil)) pa_nil))) (pg_name (i := 8) sc_triangle.nd rfl (.inl rfl))
          (pss_one (ps_asg (pe_call (ok_lowered T) (hr.mono (by decide)) (by rfl) T.lowered.g T.lowered.F.kp T.lowered.b .nil pass0 (pa_cons (pe_ix ix_list (pv 2) (pv 8) (fun _ _ => rfl)) (pa_cons (pe_ix ix_list (pv 2) (pv 3) (fun _ _ => rfl)) (pa_cons (pv 6) (pa_cons (pv 5) pa_nil))))) (pg_sub (pv 2) (pv 8) set_list))))
        (pss_cons (ps_set (i := 5) sc_triangle.nd rfl (.inl rfl) (pe_ix ix_list (pe_ix ix_list (pv 2) (pv 3) (fun _ _ => rfl)) (pv 6) (fun _ _ => rfl)))
        (pss_one (ps_aug (i := 3) sc_triangle.nd rfl (.inl rfl) pe_int ip_add))))))))
      (pss_one (ps_ret (pe_tup (pa_cons (pv 2) (pa_cons (pv 3) (pa_cons (pv 4) (pa_cons (pv 5) pa_nil)))))))))), ?_⟩
    obtain ⟨as0, hp, hA⟩ := id hT
    have el0 := hA.len
    refine ⟨.ref p, rfl, p, rfl, ⟨_, .of hp⟩, fun D nD => ?_⟩
    refine lc_inv (walk_list (xs := as0.map V.ref)) (fun i G ys => ∃ as : List Addr, ys = as.map V.ref ∧ A2 (fun a x => a ≠ D ∧ IL G a x) as (Tb.take i)) nD (fun G s => .of (s _ _ hp)) (small' (by rw [List.length_map]; omega)) ⟨[], rfl, .nil⟩ (fun i y G Hx ys hi sm hD hR yy Qt Qf qt qf => ?_) (fun G ys sm hD hR => ?_)
    · obtain ⟨rfl, hx⟩ := yy
      obtain ⟨as, rfl, hA2⟩ := hR
      have hx2 : (as0.map V.ref)[i]? = some y := hx
      rw [List.getElem?_map] at hx2
      cases e : as0[i]? with
      | none => rw [e] at hx2; cases hx2
      | some a =>
        rw [e] at hx2
        cases hx2
        obtain ⟨x, ex, ha⟩ := hA.get e
        have ha2 := ha.same sm
        refine ⟨rfl, _, rfl, a, _, rfl, .inl ha2.sq, fun l nl => ?_⟩
        have lD : l ≠ D := fun z => by rw [z, hD] at nl; cases nl
        refine qt _ _ (same_upd nl) ⟨as ++ [l], by rw [List.map_append]; rfl, ?_⟩
        rw [take_snoc ex]
        refine A2.snoc ⟨lD, (upd_ne lD).trans upd_same⟩ (hA2.mono fun b y z => ⟨z.1, (upd_ne z.1).trans (z.2.same (same_upd nl))⟩)
    · obtain ⟨as, rfl, hA2⟩ := hR
      rw [List.take_of_length_le (by rw [List.length_map]; omega)] at hA2
      have nx0 : NX D G Tb as := ⟨hD, hA2⟩
      refine ⟨by show 3 ≤ sizeLine; decide, fun t nt => ⟨t, _, rfl, .of upd_same, rfl, _, _, rfl, _, _, rfl, _, _, rfl, rfl, ?_⟩⟩
      have st := same_upd nt (o := .tup [V.int 0, V.int 1, V.int 1])
      have nx1 := nx0.same st
      have sH := sm.trans st
      generalize upd G t _ = G0 at nx1 sH
      refine ⟨_, rfl, (w : Nat), rfl, by omega, by omega, ?_⟩
      rw [Int.toNat_natCast]
      refine for_range (n := w) (lo := 0) (fun i σ G => SameX D G0 G ∧ ∃ (r : Nat) (rows : List (List Int)) (sign last : Int) (cs : List Nat) (P : List (List Int)) (as : List Addr) (x6 x7 x8 : Option V), σ = [some (.ref p), some (.int (w : Nat)), some (.ref D), some (.int (r : Nat)), some (.int sign), some (.int last), x6, x7, x8, none] ∧ DT.St Tb L i r rows sign last cs P ∧ NX D G rows as)
        ⟨fun _ _ _ h => h, 0, Tb, 1, 1, [], Tb, as, none, none, none, rfl, .init hL, nx1⟩ (fun i σ G hi hP => ?_) (fun σ G hP => ?_)
      · obtain ⟨sx, r, rows, sign, last, cs, P, as, x6, x7, x8, rfl, st, nx⟩ := hP
        have bd := st.bound hM lim hn
        have lenR : rows.length = Tb.length := st.len.trans st.perm.length_eq
        have lr := st.rn
        rw [← st.len] at lr
        have hiL : i < L := by omega
        have rl : ∀ x ∈ rows, x.length = L := fun x hx => by
          obtain ⟨k, hk⟩ := List.mem_iff_getElem?.mp hx
          have kl : k < P.length := st.len ▸ (List.getElem?_eq_some_iff.mp hk).1
          by_cases hkr : k < r
          · rw [st.tp k x _ hkr hk (List.getElem?_eq_getElem kl), DT.rowOf_len]
          · rw [st.lo k x _ (by omega) hk (List.getElem?_eq_getElem kl), DT.rowOf_len]
        rw [show (0 : Int) + (i : Int) = ((i : Nat) : Int) by omega]
        refine ⟨.ref D, rfl, _, rfl, _, rfl, D, rows, r, i, L, rfl, nx.nt, rl, hiL, by omega, lr, fun k0 pv hk hpv hne => ?_, fun hz => ?_⟩
        · refine ⟨_, rfl, rfl, _, rfl, ?_⟩
          rw [decide_eq_false (fun z => nomatch z)]
          refine iteF ?_
          have hk0 : k0 < rows.length := (List.getElem?_eq_some_iff.mp hpv).1
          refine ⟨_, rfl, _, rfl, rfl, _, rfl, ?_⟩
          refine ite2 (fun hd => ?_) (fun hd => ?_)
          · have hkr : r < k0 := by
              rcases Nat.lt_or_ge r k0 with z | z
              · exact z
              · have : k0 = r := by omega
                subst this
                rw [decide_eq_true rfl] at hd
                cases hd
            have hr0 : r < rows.length := by omega
            have er := List.getElem?_eq_getElem hr0
            obtain ⟨ak, hak, hak2, nk, hxk⟩ := nx.row hpv
            obtain ⟨ar, har, har2, nr, hxr⟩ := nx.row er
            have elen := nx.2.len
            refine ⟨.ref D, rfl, _, rfl, D, _, _, _, rfl, rfl, .of nx.1, hak, .ref D, rfl, _, rfl, D, _, _, _, rfl, rfl, .of nx.1, har, by show 2 ≤ sizeLine; decide, fun u nu => ?_⟩
            have su := same_upd nu (o := .tup [V.ref ak, V.ref ar])
            have nxu := nx.same su
            refine ⟨u, _, rfl, .of upd_same, rfl, _, _, rfl, .ref D, rfl, _, rfl, D, _, _, _, rfl, rfl, nxu.1, ix_ok rfl (by rw [List.length_map]; omega), ?_⟩
            have nxa := nxu.put (k := r) nk (hxk.same su)
            refine ⟨_, _, rfl, .ref D, rfl, _, rfl, D, _, _, _, rfl, rfl, nxa.1, ix_ok rfl (by rw [List.length_map, List.length_set]; omega), ?_⟩
            have hxr2 : IL (upd (upd G u (.tup [V.ref ak, V.ref ar])) D (.lst ((as.map V.ref).set r (.ref ak)))) ar rows[r] := (upd_ne nr).trans (hxr.same su)
            have nxb := nxa.put (k := k0) nr hxr2
            have sx1 := ((sx.trans (K03.sx su)).trans (SameX.put (D := D) (o := .lst ((as.map V.ref).set r (.ref ak))))).trans (SameX.put (D := D) (o := .lst (((as.set r ak).map V.ref).set k0 (.ref ar))))
            rw [← DT.swp_some er hpv] at nxb
            refine ⟨rfl, _, rfl, _, rfl, ?_⟩
            generalize upd (upd (upd G u _) D _) D _ = G1 at nxb sx1
            have st1 := st.swap hkr hk0
            have nx1 := nxb
            have bd1 := st1.bound hM lim hn
            have lenR1 : (DT.swp rows r k0).length = Tb.length := by rw [DT.swp_len, lenR]
            have hpr : (DT.swp rows r k0)[r]? = some pv := by rw [DT.swp_get hr0 hk0, if_neg (by omega), if_pos rfl, hpv]
            have rl1 : ∀ x ∈ DT.swp rows r k0, x.length = L := fun x hx => by
              rw [DT.swp_some er hpv] at hx
              rcases List.mem_or_eq_of_mem_set hx with hx | rfl
              · rcases List.mem_or_eq_of_mem_set hx with hx | rfl
                · exact rl x hx
                · exact rl _ (List.mem_of_getElem? hpv)
              · exact rl _ (List.getElem_mem hr0)
            have hkn : r < (DT.swp rows r k0).length := (List.getElem?_eq_some_iff.mp hpr).1
            have elen := nx1.2.len
            refine ⟨_, rfl, _, _, rfl, rfl, .ref D, rfl, D, _, rfl, .inl (.of nx1.1), ((r : Nat) + 1 : Int), ((DT.swp rows r k0).length : Nat), by rw [List.length_map, elen], ⟨by omega, by omega, by omega, by omega⟩, ?_⟩
            refine for_range (n := (((DT.swp rows r k0).length : Int) - ((r : Int) + 1)).toNat) (lo := (r : Int) + 1) (fun j σ G2 => SameX D G1 G2 ∧ ∃ (rows3 : List (List Int)) (as3 : List Addr) (x8 : Option V), σ = [some (.ref p), some (.int (w : Nat)), some (.ref D), some (.int (r : Nat)), some (.int (-sign)), some (.int last), some (.int (i : Nat)), some (.int (k0 : Nat)), x8, none] ∧ NX D G2 rows3 as3 ∧ rows3.length = (DT.swp rows r k0).length ∧ ∀ m, rows3[m]? = if r < m ∧ m < r + 1 + j then (DT.swp rows r k0)[m]?.map (fun x => DT.low L (DT.fn pv i) (DT.fn x i) last x pv) else (DT.swp rows r k0)[m]?)
              ⟨fun _ _ _ h => h, (DT.swp rows r k0), ((as.set r ak).set k0 ar), _, rfl, nx1, rfl, fun m => by rw [if_neg (by omega)]⟩ (fun j σ G2 hj hP2 => ?_) (fun σ G2 hP2 => ?_)
            · obtain ⟨sx2, rows3, as3, x8', rfl, nx3, l3, h3⟩ := hP2
              have hm : r + 1 + j < (DT.swp rows r k0).length := by omega
              have e1 := h3 (r + 1 + j)
              rw [if_neg (by omega), List.getElem?_eq_getElem hm] at e1
              have e2 := h3 r
              rw [if_neg (by omega), hpr] at e2
              obtain ⟨ak, hak, _, nk, hxk⟩ := nx3.row e1
              obtain ⟨ar, har, _, nr, hxr⟩ := nx3.row e2
              have lk := rl1 _ (List.getElem_mem hm)
              have lp := rl1 _ (List.mem_of_getElem? hpr)
              rw [show (r : Int) + 1 + (j : Int) = ((r + 1 + j : Nat) : Int) by omega]
              refine ⟨.ref D, rfl, _, rfl, D, _, _, _, rfl, rfl, .of nx3.1, hak, .ref D, rfl, _, rfl, D, _, _, _, rfl, rfl, .of nx3.1, har, _, rfl, _, rfl, ak, ar, _, pv, i, last, rfl, hxk, hxr, by rw [lk, lp], by rw [lk]; exact hiL, by omega, st1.ne, Nat.lt_of_le_of_lt bd1.2 hB, fun j => Nat.lt_of_le_of_lt (bd1.1 _ (List.getElem_mem hm) j) hB, fun j => Nat.lt_of_le_of_lt (bd1.1 _ (List.mem_of_getElem? hpr) j) hB, fun G3 u s3 nu hu => ?_⟩
              have uD : u ≠ D := fun z => by rw [z, nx3.1] at nu; cases nu
              have nx4 := nx3.same s3
              have l3a := nx4.2.len
              refine ⟨.ref D, rfl, _, rfl, D, _, _, _, rfl, rfl, nx4.1, ix_ok rfl (by rw [List.length_map]; omega), ?_⟩
              rw [lk] at hu
              refine ⟨(sx2.trans (K03.sx s3)).trans SameX.put, _, _, _, rfl, nx4.put uD hu, by rw [List.length_set, l3], fun m => ?_⟩
              rw [List.getElem?_set]
              by_cases em : r + 1 + j = m
              · subst em
                rw [if_pos rfl, if_pos (by omega), if_pos ⟨by omega, by omega⟩, List.getElem?_eq_getElem hm]
                rfl
              · rw [if_neg em, h3 m]
                by_cases z : r < m ∧ m < r + 1 + j
                · rw [if_pos z, if_pos ⟨z.1, by omega⟩]
                · rw [if_neg z, if_neg (by omega)]
            · obtain ⟨sx2, rows3, as3, x8', rfl, nx3, l3, h3⟩ := hP2
              have h3' : ∀ m, rows3[m]? = if m ≤ r then (DT.swp rows r k0)[m]? else (DT.swp rows r k0)[m]?.map (fun x => DT.low L (DT.fn pv i) (DT.fn x i) last x pv) := fun m => by
                rw [h3 m]
                by_cases z : m ≤ r
                · rw [if_neg (by omega), if_pos z]
                · rw [if_neg z]
                  by_cases z2 : m < (DT.swp rows r k0).length
                  · rw [if_pos ⟨by omega, by omega⟩]
                  · rw [if_neg (by omega), List.getElem?_eq_none (by omega)]
                    rfl
              have e2 := h3' r
              rw [if_pos (Nat.le_refl _), hpr] at e2
              obtain ⟨ar, har, _, nr, hxr⟩ := nx3.row e2
              have lp := rl1 _ (List.mem_of_getElem? hpr)
              have st2 := st1.step hiL hpr hne l3 h3'
              refine ⟨.ref D, rfl, _, rfl, D, _, _, _, rfl, rfl, .of nx3.1, har, _, rfl, ar, _, _, _, rfl, rfl, hxr.sq, il_at (by rw [lp]; exact hiL), _, rfl, _, _, rfl, rfl, ?_⟩
              exact ⟨sx1.trans sx2, r + 1, rows3, (-sign), _, _, _, as3, _, _, _, rfl, st2, nx3⟩
          · have e : r = k0 := by
              rcases Decidable.em (k0 = r) with z | z
              · exact z.symm
              · exfalso
                apply hd
                rw [decide_eq_false (fun q => z (by have := V.int.inj q; omega))]
                rfl
            subst e
            have st1 := st
            have nx1 := nx
            have bd1 := bd
            have rl1 := rl
            have sx1 := sx
            have hpr := hpv
            have lenR1 := lenR
            have hkn : r < rows.length := (List.getElem?_eq_some_iff.mp hpr).1
            have elen := nx1.2.len
            refine ⟨_, rfl, _, _, rfl, rfl, .ref D, rfl, D, _, rfl, .inl (.of nx1.1), ((r : Nat) + 1 : Int), (rows.length : Nat), by rw [List.length_map, elen], ⟨by omega, by omega, by omega, by omega⟩, ?_⟩
            refine for_range (n := ((rows.length : Int) - ((r : Int) + 1)).toNat) (lo := (r : Int) + 1) (fun j σ G2 => SameX D G G2 ∧ ∃ (rows3 : List (List Int)) (as3 : List Addr) (x8 : Option V), σ = [some (.ref p), some (.int (w : Nat)), some (.ref D), some (.int (r : Nat)), some (.int sign), some (.int last), some (.int (i : Nat)), some (.int (r : Nat)), x8, none] ∧ NX D G2 rows3 as3 ∧ rows3.length = rows.length ∧ ∀ m, rows3[m]? = if r < m ∧ m < r + 1 + j then rows[m]?.map (fun x => DT.low L (DT.fn pv i) (DT.fn x i) last x pv) else rows[m]?)
              ⟨fun _ _ _ h => h, rows, as, _, rfl, nx1, rfl, fun m => by rw [if_neg (by omega)]⟩ (fun j σ G2 hj hP2 => ?_) (fun σ G2 hP2 => ?_)
            · obtain ⟨sx2, rows3, as3, x8', rfl, nx3, l3, h3⟩ := hP2
              have hm : r + 1 + j < rows.length := by omega
              have e1 := h3 (r + 1 + j)
              rw [if_neg (by omega), List.getElem?_eq_getElem hm] at e1
              have e2 := h3 r
              rw [if_neg (by omega), hpr] at e2
              obtain ⟨ak, hak, _, nk, hxk⟩ := nx3.row e1
              obtain ⟨ar, har, _, nr, hxr⟩ := nx3.row e2
              have lk := rl1 _ (List.getElem_mem hm)
              have lp := rl1 _ (List.mem_of_getElem? hpr)
              rw [show (r : Int) + 1 + (j : Int) = ((r + 1 + j : Nat) : Int) by omega]
              refine ⟨.ref D, rfl, _, rfl, D, _, _, _, rfl, rfl, .of nx3.1, hak, .ref D, rfl, _, rfl, D, _, _, _, rfl, rfl, .of nx3.1, har, _, rfl, _, rfl, ak, ar, _, pv, i, last, rfl, hxk, hxr, by rw [lk, lp], by rw [lk]; exact hiL, by omega, st1.ne, Nat.lt_of_le_of_lt bd1.2 hB, fun j => Nat.lt_of_le_of_lt (bd1.1 _ (List.getElem_mem hm) j) hB, fun j => Nat.lt_of_le_of_lt (bd1.1 _ (List.mem_of_getElem? hpr) j) hB, fun G3 u s3 nu hu => ?_⟩
              have uD : u ≠ D := fun z => by rw [z, nx3.1] at nu; cases nu
              have nx4 := nx3.same s3
              have l3a := nx4.2.len
              refine ⟨.ref D, rfl, _, rfl, D, _, _, _, rfl, rfl, nx4.1, ix_ok rfl (by rw [List.length_map]; omega), ?_⟩
              rw [lk] at hu
              refine ⟨(sx2.trans (K03.sx s3)).trans SameX.put, _, _, _, rfl, nx4.put uD hu, by rw [List.length_set, l3], fun m => ?_⟩
              rw [List.getElem?_set]
              by_cases em : r + 1 + j = m
              · subst em
                rw [if_pos rfl, if_pos (by omega), if_pos ⟨by omega, by omega⟩, List.getElem?_eq_getElem hm]
                rfl
              · rw [if_neg em, h3 m]
                by_cases z : r < m ∧ m < r + 1 + j
                · rw [if_pos z, if_pos ⟨z.1, by omega⟩]
                · rw [if_neg z, if_neg (by omega)]
            · obtain ⟨sx2, rows3, as3, x8', rfl, nx3, l3, h3⟩ := hP2
              have h3' : ∀ m, rows3[m]? = if m ≤ r then rows[m]? else rows[m]?.map (fun x => DT.low L (DT.fn pv i) (DT.fn x i) last x pv) := fun m => by
                rw [h3 m]
                by_cases z : m ≤ r
                · rw [if_neg (by omega), if_pos z]
                · rw [if_neg z]
                  by_cases z2 : m < rows.length
                  · rw [if_pos ⟨by omega, by omega⟩]
                  · rw [if_neg (by omega), List.getElem?_eq_none (by omega)]
                    rfl
              have e2 := h3' r
              rw [if_pos (Nat.le_refl _), hpr] at e2
              obtain ⟨ar, har, _, nr, hxr⟩ := nx3.row e2
              have lp := rl1 _ (List.mem_of_getElem? hpr)
              have st2 := st1.step hiL hpr hne l3 h3'
              refine ⟨.ref D, rfl, _, rfl, D, _, _, _, rfl, rfl, .of nx3.1, har, _, rfl, ar, _, _, _, rfl, rfl, hxr.sq, il_at (by rw [lp]; exact hiL), _, rfl, _, _, rfl, rfl, ?_⟩
              exact ⟨sx1.trans sx2, r + 1, rows3, sign, _, _, _, as3, _, _, _, rfl, st2, nx3⟩
        · refine ⟨_, rfl, rfl, _, rfl, ?_⟩
          rw [decide_eq_true rfl]
          refine iteT ?_
          exact ⟨sx, r, rows, sign, last, cs, P, as, _, _, _, rfl, st.skip hiL hz, nx⟩
      · obtain ⟨sx, r, rows, sign, last, cs, P, as, x6, x7, x8, rfl, st, nx⟩ := hP
        have sF : Same H G := fun b o e => sx b o (fun z => by rw [z, nD] at e; cases e) (sH b o e)
        refine ⟨.ref D, rfl, _, rfl, _, rfl, _, rfl, by show 4 ≤ sizeLine; decide, fun u nu => ?_⟩
        have su := same_upd nu (o := .tup [V.ref D, V.int (r : Nat), V.int sign, V.int last])
        exact q _ u D rows r sign last cs P (sF.trans su) st ((nx.same su).nt) (.of upd_same)
end
end K03
-- E3
namespace K03
open PySem PySem.Spec PyProof.Rows L2
section
variable {P : Program} {w : World} {K : PySem.W.Frag} {mg : Str → Option Value} {base : Heap} {Ps : List Addr}
/-! ### the rank, the determinant -/
def sp_width : Sp := fun vs H Q _ => ∃ (p : Addr) (as : List Addr) (L : Nat), vs = [.ref p] ∧ H p = some (.lst (as.map V.ref)) ∧ (∀ a ∈ as, ∃ xs, H a = some (.lst xs) ∧ xs.length = L) ∧ Q (.int ((if as = [] then 0 else L : Nat) : Int)) H
theorem ok_width (T : Txt K mg) : FnOk P w K mg base CX0 1 T.width.a T.width.fd ["table"] sp_width := by
  refine T.width.F.ok sc_width (fun vs H Q E h => ?_) (fun cdv A outer s H vs Q E hr h => ?_)
  · obtain ⟨p, as, L, rfl, _⟩ := h
    rfl
  · obtain ⟨p, as, L, rfl, hp, hL, q⟩ := h
    refine ⟨_, (pss_one (ps_ret (pe_ifExp (pt_truth (pv 0) (by intro _; rfl)) (pe_callB call_len_seq (by rfl) T.m_len (by decide +kernel) (pa_cons (pe_ix ix_list (pv 0) pe_int (fun _ _ => rfl)) pa_nil)) pe_int))), ?_⟩
    refine ⟨.ref p, rfl, _, .inl ⟨_, .of hp, rfl⟩, ?_⟩
    cases as with
    | nil => exact q
    | cons a as =>
      rw [if_neg (by simp)] at q
      obtain ⟨xs, hx, lx⟩ := hL a List.mem_cons_self
      refine ⟨.ref p, rfl, p, _, _, _, rfl, rfl, .of hp, atI_nat (j := 0) rfl, a, _, rfl, .inl (.of hx), ?_⟩
      rw [lx]
      exact q
def sp_number_rank : Sp := fun vs H Q _ => ∃ (p : Addr) (Tb : List (List Int)) (L M N : Nat), vs = [.ref p] ∧ NT H p Tb ∧ (∀ x ∈ Tb, x.length = L) ∧ L ≤ 1000 ∧ Tb.length ≤ N ∧ N ≤ 1000 ∧ (∀ x ∈ Tb, DT.Lim M (DT.fn x)) ∧ 0 < N * M ∧ (N * M) ^ N < 2 ^ 4000 ∧
  ∀ H' r rows sign last cs P, Same H H' → DT.St Tb (if Tb = [] then 0 else L) (if Tb = [] then 0 else L) r rows sign last cs P → Q (.int (r : Nat)) H'
theorem ok_number_rank (T : Txt K mg) : FnOk P w K mg base CX0 3 T.number_rank.a T.number_rank.fd ["numbers"] sp_number_rank := by
  refine T.number_rank.F.ok sc_number_rank (fun vs H Q E h => ?_) (fun cdv A outer s H vs Q E hr h => ?_)
  · obtain ⟨p, Tb, L, M, N, rfl, _⟩ := h
    rfl
  · obtain ⟨p, Tb, L, M, N, rfl, hT, hL, hL1, hn, hN, lim, hM, hB, q⟩ := h
    refine ⟨_, (pss_cons (ps_asg (pe_call (ok_triangle T) (hr.mono (by decide)) (by rfl) T.triangle.g T.triangle.F.kp T.triangle.b .nil pass0 (pa_cons (pv 0) (pa_cons (pe_call (ok_width T) (hr.mono (by decide)) (by rfl) T.width.g T.width.F.kp T.width.b .nil pass0 (pa_cons (pv 0) pa_nil)) pa_nil))) (pg_tup rfl (pgs_cons (pg_name (i := 1) sc_number_rank.nd rfl (.inl rfl)) (pgs_cons (pg_name (i := 2) sc_number_rank.nd rfl (.inl rfl)) (pgs_cons (pg_name (i := 1) sc_number_rank.nd rfl (.inl rfl)) (pgs_cons (pg_name (i := 1) sc_number_rank.nd rfl (.inl rfl)) pgs_nil))))))
      (pss_one (ps_ret (pv 2)))), ?_⟩
    have hL0 : ∀ x ∈ Tb, x.length = if Tb = [] then 0 else L := fun x hx => by
      rw [if_neg (fun z => by rw [z] at hx; cases hx)]
      exact hL x hx
    obtain ⟨as, hp, hA⟩ := id hT
    have el := hA.len
    refine ⟨.ref p, rfl, .ref p, rfl, p, as, L, rfl, hp, fun a ha => ?_, ?_⟩
    · obtain ⟨x, hx, ih⟩ := hA.mem a ha
      exact ⟨_, ih, by rw [List.length_map, hL x hx]⟩
    rw [show (if as = [] then 0 else L) = if Tb = [] then 0 else L from by cases as <;> cases Tb <;> simp at el ⊢]
    refine ⟨p, Tb, if Tb = [] then 0 else L, if Tb = [] then 0 else L, M, N, rfl, hT, hL0, Nat.le_refl _, by split <;> omega, hn, hN, lim, hM, hB, fun H' t qa rows r sign last cs P0 s st nt ht => ?_⟩
    exact ⟨t, _, rfl, ht, rfl, _, _, rfl, _, _, rfl, _, _, rfl, _, _, rfl, rfl, _, rfl, q H' r rows sign last cs P0 s st⟩
end
end K03
-- P3
namespace K03
open PySem PySem.Spec PyProof.Rows L2
open K00 (cf trim padd pmul conv cf_lt cf_ge cf_some at_cf cf_trim can_trim trim_len take_trim cf_take padd_of pmul_of padd_nil padd_len cf_padd cf_pmul can_padd can_pmul trim_can Can can_ext conv_turn conv_out cf_shift cf_scale cf_map_range trim_eq can_iff pval pval_last pow_bound)
theorem cut_to {ns : List Int} {m : Nat} (h : m ≤ ns.length) : cutV (ns.map V.int) none (some (m : Int)) = (ns.take m).map V.int := by
  unfold cutV
  rw [HT.sIx_none, HT.sIx_nat, List.drop_zero, List.length_map, Nat.min_eq_left h, Nat.sub_zero, List.map_take]
theorem set_map {xs : List Int} {i : Nat} {r : Int} : (xs.map V.int).set i (V.int r) = (xs.set i r).map V.int := by rw [List.map_set]
theorem mem_set {α : Type} {xs : List α} {i : Nat} {y x : α} (h : x ∈ xs.set i y) : x ∈ xs ∨ x = y := List.mem_or_eq_of_mem_set h
theorem at_map' {ns : List Int} {i : Int} {m : Nat} (e : i = (m : Int)) (h : m < ns.length) : atI (ns.map V.int) i = some (V.int (cf ns m)) := by
  rw [e]
  refine atI_nat ?_
  rw [List.getElem?_map, at_getD (d := 0) h]; rfl
section
variable {P : Program} {w : World} {K : PySem.W.Frag} {mg : Str → Option Value} {base : Heap}
def Out (H : Hp) (Q : VK) (r : List Int) : Prop := ∀ H' p, Same H H' → H p = none → IL H' p r → Q (.ref p) H'
theorem il_ne {H : Hp} {p q : Addr} {o : HO} {ns : List Int} (h : IL H q ns) (n : H p = none) : IL (upd H p o) q ns := by
  show upd H p o q = _
  rw [upd_ne (ne_of_none h n)]
  exact h
theorem il_upd_ne {H : Hp} {p q : Addr} {o : HO} {ns : List Int} (h : IL H q ns) (n : q ≠ p) : IL (upd H p o) q ns := by
  show upd H p o q = _
  rw [upd_ne n]
  exact h
theorem map_at {ns : List Int} {m : Nat} (h : m < ns.length) : (ns.map V.int)[m]? = some (V.int (cf ns m)) := by
  rw [List.getElem?_map, at_cf h]; rfl
theorem map_get {ns : List Int} {m : Nat} {x : V} (h : (ns.map V.int)[m]? = some x) : m < ns.length ∧ x = V.int (cf ns m) := by
  have hl := (List.getElem?_eq_some_iff.mp h).1
  rw [List.length_map] at hl
  exact ⟨hl, Option.some.inj (h.symm.trans (map_at hl))⟩
theorem len_set {xs : List Int} {j : Nat} {y : Int} : (xs.map V.int).set j (V.int y) = (xs.set j y).map V.int := by rw [List.map_set]
theorem cf_set {xs : List Int} {j : Nat} {y : Int} {m : Nat} (h : j < xs.length) : cf (xs.set j y) m = if m = j then y else cf xs m := by
  unfold cf
  rw [List.getD_eq_getElem?_getD, List.getD_eq_getElem?_getD]
  by_cases e : m = j
  · rw [if_pos e, e, List.getElem?_set_self h]; rfl
  · rw [if_neg e, List.getElem?_set_ne (Ne.symm e)]
theorem at_mapI {ns : List Int} {m : Nat} (h : m < ns.length) : atI (ns.map V.int) (m : Int) = some (V.int (cf ns m)) := atI_nat (map_at h)
theorem rep_one (n : Nat) (x : Int) : (List.replicate n [V.int x]).flatten = (List.replicate n x).map V.int := by
  induction n with
  | zero => rfl
  | succ n ih => rw [List.replicate_succ, List.replicate_succ, List.flatten_cons, ih, List.map_cons]; rfl
theorem cf_rep (n m : Nat) : cf (List.replicate n 0) m = 0 := by
  unfold cf
  rw [List.getD_eq_getElem?_getD, List.getElem?_replicate]
  split <;> rfl
theorem fr {H H' : Hp} (s : Same H H') {p : Addr} (h : H' p = none) : H p = none := s.free h
def sp2 (f : List Int → List Int → List Int) : Sp := fun vs H Q _ => ∃ (a b : Addr) (ns ms : List Int), vs = [.ref a, .ref b] ∧ IL H a ns ∧ IL H b ms ∧ ns.length ≤ 400 ∧ ms.length ≤ 400 ∧ Out H Q (f ns ms)
def Bd (ns : List Int) : Prop := ∀ m, (cf ns m).natAbs < 2 ^ 200
theorem wide200 {x y : Int} (hx : x.natAbs < 2 ^ 200) (hy : y.natAbs < 2 ^ 200) : CMulW x y := wide_mul hx hy (by decide) (by decide) (by decide)
theorem wipe1 {σ : L2.St} {i : Nat} {x : Option V} : wipe ((wipe σ [i]).set i x) [i] = wipe σ [i] := by
  show ((σ.set i none).set i x).set i none = σ.set i none
  rw [List.set_set, List.set_set]
theorem lc_rel {K : PySem.W.Frag} {a : Addr} {xs : List V} {te : TE} {i : Nat} {σ : L2.St} {H1 : Hp} {D : Addr} {Qd : Hp → Prop} (R : Nat → V → Prop) (nD : H1 D = none) (hS : SqL K H1 a xs) (hl : xs.length < sizeLine)
    (ht : ∀ (j : Nat) (x : V) (H' : Hp) (Q : VK), xs[j]? = some x → Same H1 H' → (∀ y, R j y → Q y H') → te ((wipe σ [i]).set i (some x)) H' Q)
    (hd : ∀ H' ys, Same H1 H' → H' D = some (.lst ys) → ys.length = xs.length → (∀ j y, ys[j]? = some y → R j y) → Qd H') :
    ∃ W : Nat → Nat → Hp → Prop, (∃ m, W 0 m (upd H1 D (.lst []))) ∧ ∀ i' m H, W i' m H →
      ((Itl K a).stop i' H ∧ Qd H) ∨ ((Itl K a).go i' H ∧ ∃ Nx : Hp → Prop, (∀ H', Nx H' → ∃ m', m' < m ∧ W (i' + 1) m' H') ∧ ∀ x H', (Itl K a).yld i' H x H' → (gName i) x (wipe σ [i]) H' fun σ2 H2 => wipe σ2 [i] = wipe σ [i] ∧ tYes σ2 H2 fun b H3 =>
        if b = true then te σ2 H3 fun y H4 => ∃ acc, H4 D = some (.lst acc) ∧ acc.length < sizeLine ∧ Nx (upd H4 D (.lst (acc ++ [y]))) else Nx H3) := by
  refine lc_list (xs := xs) (fun j H => Same H1 H ∧ ∃ ys, H D = some (.lst ys) ∧ ys.length = j ∧ ∀ k y, ys[k]? = some y → R k y) ⟨same_upd nD, [], upd_same, rfl, fun k y h => by simp at h⟩ (fun j H _ p => p.1.seq hS) (fun j x H hx p => ?_) (fun H p => ?_)
  · obtain ⟨sm, ys, hy, hn, hr⟩ := p
    refine ⟨wipe1, ?_⟩
    refine ht j x H _ hx sm fun y r => ?_
    have hj := (List.getElem?_eq_some_iff.mp hx).1
    refine ⟨ys, hy, by omega, same_over sm nD, _, upd_same, by simp [hn], fun k z hz => ?_⟩
    rcases Nat.lt_or_ge k ys.length with q | q
    · rw [List.getElem?_append_left q] at hz
      exact hr k z hz
    · have e : k = ys.length := by
        have := (List.getElem?_eq_some_iff.mp hz).1
        simp at this
        omega
      subst e
      rw [List.getElem?_append_right (Nat.le_refl _)] at hz
      simp at hz
      rw [← hz, hn]
      exact r
  · obtain ⟨sm, ys, hy, hn, hr⟩ := p
    exact hd H ys sm hy hn hr
theorem lc_relR {n : Nat} {te : TE} {i : Nat} {σ : L2.St} {H1 : Hp} {D : Addr} {Qd : Hp → Prop} (R : Nat → V → Prop) (nD : H1 D = none) (hl : n < sizeLine)
    (ht : ∀ (j : Nat) (H' : Hp) (Q : VK), j < n → Same H1 H' → (∀ y, R j y → Q y H') → te ((wipe σ [i]).set i (some (.int (j : Nat)))) H' Q)
    (hd : ∀ H' ys, Same H1 H' → H' D = some (.lst ys) → ys.length = n → (∀ j y, ys[j]? = some y → R j y) → Qd H') :
    ∃ W : Nat → Nat → Hp → Prop, (∃ m, W 0 m (upd H1 D (.lst []))) ∧ ∀ i' m H, W i' m H →
      ((Itr 0 n).stop i' H ∧ Qd H) ∨ ((Itr 0 n).go i' H ∧ ∃ Nx : Hp → Prop, (∀ H', Nx H' → ∃ m', m' < m ∧ W (i' + 1) m' H') ∧ ∀ x H', (Itr 0 n).yld i' H x H' → (gName i) x (wipe σ [i]) H' fun σ2 H2 => wipe σ2 [i] = wipe σ [i] ∧ tYes σ2 H2 fun b H3 =>
        if b = true then te σ2 H3 fun y H4 => ∃ acc, H4 D = some (.lst acc) ∧ acc.length < sizeLine ∧ Nx (upd H4 D (.lst (acc ++ [y]))) else Nx H3) := by
  refine lc_range (n := n) (lo := 0) (fun j H => Same H1 H ∧ ∃ ys, H D = some (.lst ys) ∧ ys.length = j ∧ ∀ k y, ys[k]? = some y → R k y) ⟨same_upd nD, [], upd_same, rfl, fun k y h => by simp at h⟩ (fun j H hj p => ?_) (fun H p => ?_)
  · obtain ⟨sm, ys, hy, hn, hr⟩ := p
    rw [Int.zero_add]
    refine ⟨wipe1, ?_⟩
    refine ht j H _ hj sm fun y r => ?_
    refine ⟨ys, hy, by omega, same_over sm nD, _, upd_same, by simp [hn], fun k z hz => ?_⟩
    rcases Nat.lt_or_ge k ys.length with q | q
    · rw [List.getElem?_append_left q] at hz
      exact hr k z hz
    · have e : k = ys.length := by
        have := (List.getElem?_eq_some_iff.mp hz).1
        simp at this
        omega
      subst e
      rw [List.getElem?_append_right (Nat.le_refl _)] at hz
      simp at hz
      rw [← hz, hn]
      exact r
  · obtain ⟨sm, ys, hy, hn, hr⟩ := p
    exact hd H ys sm hy hn hr
theorem ints_of {ys : List V} {n : Nat} (f : Nat → Int) (hn : ys.length = n) (h : ∀ (j : Nat) (y : V), ys[j]? = some y → y = V.int (f j)) : ys = ((List.range n).map f).map V.int := by
  refine List.ext_getElem? fun j => ?_
  rcases Nat.lt_or_ge j n with q | q
  · have e : ys[j]? = some ys[j] := List.getElem?_eq_getElem (by omega)
    rw [e, h j _ e]
    simp [q]
  · rw [List.getElem?_eq_none (by omega), List.getElem?_eq_none (by simpa using q)]
theorem ints_ex {ys : List V} {R : Nat → Int → Prop} (h : ∀ (j : Nat) (y : V), ys[j]? = some y → ∃ n, y = V.int n ∧ R j n) : ∃ ns : List Int, ys = ns.map V.int ∧ ∀ j, j < ns.length → R j (cf ns j) := by
  refine ⟨ys.map fun y => match y with | .int n => n | _ => 0, ?_, fun j hj => ?_⟩
  · refine List.ext_getElem? fun j => ?_
    rcases Nat.lt_or_ge j ys.length with q | q
    · have e : ys[j]? = some ys[j] := List.getElem?_eq_getElem q
      obtain ⟨n, e2, _⟩ := h j _ e
      rw [List.getElem?_map, List.getElem?_map, e, e2]; rfl
    · rw [List.getElem?_eq_none q, List.getElem?_eq_none (by simpa using q)]
  · rw [List.length_map] at hj
    have e : ys[j]? = some ys[j] := List.getElem?_eq_getElem hj
    obtain ⟨n, e2, r⟩ := h j _ e
    rw [e2] at e
    rw [cf_some (x := n) (by rw [List.getElem?_map, e]; rfl)]
    exact r
theorem scale_range (c : Int) (ns : List Int) : (List.range ns.length).map (fun j => c * cf ns j) = ns.map (c * ·) := by
  refine List.ext_getElem (by simp) fun j h1 h2 => ?_
  simp only [List.length_map] at h2
  simp only [List.getElem_map, List.getElem_range]
  rw [cf_lt h2]
def LastOk (ns : List Int) (i L : Nat) : Prop := L ≤ i ∧ (∀ m, L ≤ m → m < i → cf ns m = 0) ∧ (L = 0 ∨ cf ns (L - 1) ≠ 0)
theorem LastOk.zero (ns : List Int) : LastOk ns 0 0 := ⟨Nat.le_refl _, fun m _ h => absurd h (Nat.not_lt_zero _), .inl rfl⟩
theorem LastOk.keep {ns : List Int} {i L : Nat} (h : LastOk ns i L) (h0 : cf ns i = 0) : LastOk ns (i + 1) L := ⟨by have := h.1; omega, fun m h1 h2 => by
  by_cases e : m = i
  · rw [e]; exact h0
  · exact h.2.1 m h1 (by omega), h.2.2⟩
theorem LastOk.new {ns : List Int} {i L : Nat} (h0 : cf ns i ≠ 0) : LastOk ns (i + 1) (i + 1) := ⟨Nat.le_refl _, fun m h1 h2 => by omega, .inr h0⟩
theorem LastOk.take {ns : List Int} {L : Nat} (h : LastOk ns ns.length L) : ns.take L = trim ns := take_trim h.1 (fun m hm => by
  rcases Nat.lt_or_ge m ns.length with q | q
  · exact h.2.1 m hm q
  · exact cf_ge q) h.2.2
theorem for_revL {K : PySem.W.Frag} {a : Addr} {ns : List Int} {g : TG} {tb : TS} {D : Ends} {σ : L2.St} {H : Hp} (Pv : Nat → L2.St → Hp → Prop) (h0 : Pv 0 σ H) (hl : ∀ i σ H, i ≤ ns.length → Pv i σ H → SqL K H a (ns.map V.int))
    (hs : ∀ i σ H, i < ns.length → Pv i σ H → g (.int (cf ns (ns.length - 1 - i))) σ H fun σ2 H2 => tb { D with nx := Pv (i + 1), ct := Pv (i + 1), bk := D.nx } σ2 H2) (hd : ∀ σ H, Pv ns.length σ H → D.nx σ H) :
    ∃ W : Nat → Nat → L2.St → Hp → Prop, (∃ m, W 0 m σ H) ∧ ∀ i m σ H, W i m σ H →
      ((Itv K a (ns.map V.int).length).stop i H ∧ D.nx σ H) ∨ ((Itv K a (ns.map V.int).length).go i H ∧ ∃ N : L2.St → Hp → Prop, (∀ σ' H', N σ' H' → ∃ m', m' < m ∧ W (i + 1) m' σ' H') ∧ ∀ x H', (Itv K a (ns.map V.int).length).yld i H x H' → g x σ H' fun σ2 H2 => tb { D with nx := N, ct := N, bk := D.nx } σ2 H2) := by
  refine ⟨fun i m σ H => m = ns.length - i ∧ i ≤ ns.length ∧ Pv i σ H, ⟨ns.length, by simp, Nat.zero_le _, h0⟩, ?_⟩
  rintro i m σ H ⟨rfl, hi, p⟩
  have q := hl i σ H hi p
  by_cases hlt : i < ns.length
  · refine .inr ⟨⟨by rw [List.length_map]; exact hlt, _, _, q, map_at (m := (ns.map V.int).length - 1 - i) (by rw [List.length_map]; omega)⟩, Pv (i + 1), fun σ' H' p' => ⟨ns.length - (i + 1), by omega, rfl, hlt, p'⟩, fun x H' y => ?_⟩
    obtain ⟨e, y⟩ := y
    subst e
    have e2 := (map_get (y _ q)).2
    rw [List.length_map] at e2
    subst e2
    exact hs i σ _ hlt p
  · have e : i = ns.length := by omega
    subst e
    exact .inl ⟨by show (ns.map V.int).length ≤ ns.length; rw [List.length_map]; exact Nat.le_refl _, hd σ H p⟩
def sp_value : Sp := fun vs H Q _ => ∃ (a : Addr) (ns : List Int) (x : Int), vs = [.ref a, .int x] ∧ IL H a ns ∧ x.natAbs ≤ 1000 ∧ Q (.int (pval x ns)) H
theorem ok_value (T : Txt K mg) : FnOk P w K mg base CX0 1 T.value.a T.value.fd ["one", "at"] sp_value := by
  refine T.value.F.ok sc_value (fun vs H Q E h => ?_) (fun cdv A outer s H vs Q E hr h => ?_)
  · obtain ⟨a, ns, x, rfl, _⟩ := h
    rfl
  · obtain ⟨a, ns, x, rfl, ha, hx, q⟩ := h
    refine ⟨_, (pss_cons (ps_set (i := 2) sc_value.nd rfl (.inl rfl) pe_int)
      (pss_cons (ps_for PassesOwn.never rfl (pi_reversed (by rfl) T.m_reversed (pa_cons (pv 0) pa_nil)) (pg_name (i := 3) sc_value.nd rfl (.inl rfl))
        (pss_one (ps_set (i := 2) sc_value.nd rfl (.inl rfl) (pe_op op_add (pe_op op_mul (pv 2) (pv 1)) (pv 3)))))
      (pss_one (ps_ret (pv 2))))), ?_⟩
    refine ⟨.ref a, rfl, a, _, rfl, ha.sq, ?_⟩
    refine for_revL (ns := ns) (fun i σ H' => H' = H ∧ ∃ v3, σ = [some (.ref a), some (.int x), some (.int (pval x (ns.drop (ns.length - i)))), v3]) ⟨rfl, none, ?_⟩ (fun i σ H' hi p => ?_) (fun i σ H' hi p => ?_) (fun σ H' p => ?_)
    · rw [Nat.sub_zero, List.drop_length]; rfl
    · rw [p.1]; exact ha.sq
    · obtain ⟨rfl, v3, rfl⟩ := p
      refine ⟨_, rfl, _, rfl, _, _, rfl, rfl, .inr ⟨by omega, by omega⟩, _, rfl, _, _, rfl, rfl, rfl, some (.int (cf ns (ns.length - 1 - i))), ?_⟩
      rw [pval_last x ns i hi]
      rfl
    · obtain ⟨rfl, v3, rfl⟩ := p
      refine ⟨_, rfl, ?_⟩
      rw [Nat.sub_self]
      exact q
theorem zeros_of (n : Nat) : (List.range n).map (fun _ => (0 : Int)) = List.replicate n 0 := by
  refine List.ext_getElem (by simp) fun j h1 h2 => by simp
theorem ok_law_plus (T : Txt K mg) : FnOk P w K mg base CX0 1 T.law_plus.a T.law_plus.fd ["one", "two"] (sp2 padd) := by
  refine T.law_plus.F.ok sc_law_plus (fun vs H Q E h => ?_) (fun cdv A outer s H vs Q E hr h => ?_)
  · obtain ⟨a, b, ns, ms, rfl, _⟩ := h
    rfl
  · obtain ⟨a, b, ns, ms, rfl, ha, hb, hla, hlb, q⟩ := h
    refine ⟨_, (pss_cons (ps_setLc (i := 3) (own := [("k", 2)]) rfl sc_law_plus.nd rfl rfl (sw_true rfl rfl rfl (by decide +kernel)) (pi_range1 (by rfl) T.m_range (pa_cons (pe_callB (call_max2 rfl) (by rfl) T.m_max (by decide +kernel) (pa_cons (pe_callB call_len_seq (by rfl) T.m_len (by decide +kernel) (pa_cons (pv 0) pa_nil)) (pa_cons (pe_callB call_len_seq (by rfl) T.m_len (by decide +kernel) (pa_cons (pv 1) pa_nil)) pa_nil))) pa_nil)) (blkOk_by (N := ["one", "two", "k", "total", "last"]) (sc := defScope s_law_plus) (by decide +kernel)) (fun _ _ _ _ _ => (pg_name (i := 2) sc_law_plus.nd rfl (.inl rfl))) (fun _ _ _ _ _ => pts_nil) (fun _ _ _ _ _ => pe_int))
      (pss_cons (ps_for PassesOwn.never rfl (pi_range1 (by rfl) T.m_range (pa_cons (pe_callB call_len_seq (by rfl) T.m_len (by decide +kernel) (pa_cons (pv 0) pa_nil)) pa_nil)) (pg_name (i := 2) sc_law_plus.nd rfl (.inl rfl))
        (pss_one (ps_asg (pe_op op_add (pe_ix ix_list (pv 3) (pv 2) (fun _ _ => rfl)) (pe_ix ix_list (pv 0) (pv 2) (fun _ _ => rfl))) (pg_sub (pv 3) (pv 2) set_list))))
      (pss_cons (ps_for PassesOwn.never rfl (pi_range1 (by rfl) T.m_range (pa_cons (pe_callB call_len_seq (by rfl) T.m_len (by decide +kernel) (pa_cons (pv 1) pa_nil)) pa_nil)) (pg_name (i := 2) sc_law_plus.nd rfl (.inl rfl))
        (pss_one (ps_asg (pe_op op_add (pe_ix ix_list (pv 3) (pv 2) (fun _ _ => rfl)) (pe_ix ix_list (pv 1) (pv 2) (fun _ _ => rfl))) (pg_sub (pv 3) (pv 2) set_list))))
      (pss_cons (ps_set (i := 4) sc_law_plus.nd rfl (.inl rfl) pe_int)
      (pss_cons (ps_for PassesOwn.never rfl (pi_range1 (by rfl) T.m_range (pa_cons (pe_callB call_len_seq (by rfl) T.m_len (by decide +kernel) (pa_cons (pv 3) pa_nil)) pa_nil)) (pg_name (i := 2) sc_law_plus.nd rfl (.inl rfl))
        (pss_one (ps_if (pt_cmpR op_ne (pe_ix ix_list (pv 3) (pv 2) (fun _ _ => rfl)) pe_int (nomark _))
          (pss_one (ps_set (i := 4) sc_law_plus.nd rfl (.inl rfl) (pe_op op_add (pv 2) pe_int)))
          pss_nil)))
      (pss_one (ps_ret (pe_slice sl_list (pv 3) po_none (po_some (pv 4)))))))))), ?_⟩
    obtain ⟨L, hL, eL⟩ : ∃ L : Nat, L = max ns.length ms.length ∧ (if ((ms.map V.int).length : Int) > ((ns.map V.int).length : Int) then ((ms.map V.int).length : Int) else ((ns.map V.int).length : Int)) = (L : Int) := by
      refine ⟨_, rfl, ?_⟩
      rw [List.length_map, List.length_map]
      split <;> omega
    refine ⟨.ref a, rfl, a, _, rfl, .inl ha.sq, .ref b, rfl, b, _, rfl, .inl hb.sq, _, _, rfl, (L : Int), congrArg (fun z => [V.int z]) eL, by omega, by omega, fun p hp => ?_⟩
    refine lc_relR (n := (L : Int).toNat) (fun j y => y = .int 0) hp (small' (by omega)) (fun j H' Q' hj sm hq => hq _ rfl) (fun H' ys sm hy hn hr => ?_)
    rw [Int.toNat_natCast] at hn
    have e := ints_of (fun _ => 0) hn hr
    rw [zeros_of] at e
    have hp0 : IL H' p (List.replicate L 0) := by show H' p = _; rw [hy, e]
    -- the first one
    refine ⟨.ref a, rfl, a, _, rfl, .inl (ha.same sm).sq, _, rfl, by rw [List.length_map]; omega, by rw [List.length_map]; omega, ?_⟩
    rw [List.length_map]
    refine for_range (n := (ns.length : Int).toNat) (lo := 0) (fun i σ H' => Same H H' ∧ ∃ t v2 v4, σ = [some (.ref a), some (.ref b), v2, some (.ref p), v4] ∧ IL H' p t ∧ t.length = L ∧ ∀ m, cf t m = if m < i then cf ns m else 0) ⟨sm, List.replicate L 0, none, none, rfl, hp0, by simp, fun m => by rw [cf_rep]; simp⟩ (fun i σ H' hi hP => ?_) (fun σ H' hP => ?_)
    · obtain ⟨sm, t, v2, v4, rfl, hp', ht, hc⟩ := hP
      refine ⟨.ref p, rfl, _, rfl, p, _, _, _, rfl, rfl, hp'.sq, at_map' (m := i) (by omega) (by omega), .ref a, rfl, _, rfl, a, _, _, _, rfl, rfl, (ha.same sm).sq, at_map' (m := i) (by omega) (by omega), _, _, rfl, rfl, _, rfl, _, rfl, p, _, _, i, rfl, rfl, hp', ix_ok (by omega) (by rw [List.length_map, ht]; omega), ?_⟩
      rw [len_set]
      refine ⟨same_over sm hp, _, _, _, rfl, il_upd, by rw [List.length_set, ht], fun m => ?_⟩
      rw [cf_set (by omega), hc, hc]
      by_cases e : m = i
      · subst e
        rw [if_pos rfl, if_neg (Nat.lt_irrefl _), if_pos (Nat.lt_succ_self _)]; omega
      · rw [if_neg e]
        by_cases q : m < i
        · rw [if_pos q, if_pos (by omega)]
        · rw [if_neg q, if_neg (by omega)]
    obtain ⟨sm, t, v2, v4, rfl, hp', ht, hc⟩ := hP
    rw [Int.toNat_natCast] at hc
    -- the second one
    refine ⟨.ref b, rfl, b, _, rfl, .inl (hb.same sm).sq, _, rfl, by rw [List.length_map]; omega, by rw [List.length_map]; omega, ?_⟩
    rw [List.length_map]
    refine for_range (n := (ms.length : Int).toNat) (lo := 0) (fun i σ H' => Same H H' ∧ ∃ t v2 v4, σ = [some (.ref a), some (.ref b), v2, some (.ref p), v4] ∧ IL H' p t ∧ t.length = L ∧ ∀ m, cf t m = cf ns m + if m < i then cf ms m else 0) ⟨sm, t, v2, v4, rfl, hp', ht, fun m => ?_⟩ (fun i σ H' hi hP => ?_) (fun σ H' hP => ?_)
    · rw [hc]
      split
      · simp
      · rename_i q
        rw [cf_ge (show ns.length ≤ m by omega)]; simp
    · obtain ⟨sm, t, v2, v4, rfl, hp', ht, hc⟩ := hP
      refine ⟨.ref p, rfl, _, rfl, p, _, _, _, rfl, rfl, hp'.sq, at_map' (m := i) (by omega) (by omega), .ref b, rfl, _, rfl, b, _, _, _, rfl, rfl, (hb.same sm).sq, at_map' (m := i) (by omega) (by omega), _, _, rfl, rfl, _, rfl, _, rfl, p, _, _, i, rfl, rfl, hp', ix_ok (by omega) (by rw [List.length_map, ht]; omega), ?_⟩
      rw [len_set]
      refine ⟨same_over sm hp, _, _, _, rfl, il_upd, by rw [List.length_set, ht], fun m => ?_⟩
      rw [cf_set (by omega), hc, hc]
      by_cases e : m = i
      · subst e
        rw [if_pos rfl, if_neg (Nat.lt_irrefl _), if_pos (Nat.lt_succ_self _)]; omega
      · rw [if_neg e]
        by_cases q : m < i
        · rw [if_pos q, if_pos (by omega)]
        · rw [if_neg q, if_neg (by omega)]
    obtain ⟨sm, t, v2, v4, rfl, hp', ht, hc⟩ := hP
    rw [Int.toNat_natCast] at hc
    -- the last number
    refine ⟨.ref p, rfl, p, _, rfl, .inl hp'.sq, _, rfl, by rw [List.length_map]; omega, by rw [List.length_map]; omega, ?_⟩
    rw [List.length_map]
    refine for_range (n := (t.length : Int).toNat) (lo := 0) (fun i σ H2 => H2 = H' ∧ ∃ v2 l, σ = [some (.ref a), some (.ref b), v2, some (.ref p), some (.int (l : Nat))] ∧ LastOk t i l) ⟨rfl, v2, 0, rfl, .zero t⟩ (fun i σ H2 hi hP => ?_) (fun σ H2 hP => ?_)
    · obtain ⟨rfl, v2, l, rfl, hl⟩ := hP
      refine ⟨.ref p, rfl, _, rfl, p, _, _, _, rfl, rfl, hp'.sq, at_map' (m := i) (by omega) (by omega), rfl, _, rfl, ?_⟩
      by_cases h0 : cf t i = 0
      · rw [h0]
        exact iteF ⟨rfl, _, l, rfl, hl.keep h0⟩
      · rw [show (!decide (V.int (cf t i) = V.int 0)) = true by rw [decide_eq_false (fun z => h0 (V.int.inj z))]; rfl]
        refine iteT ⟨_, rfl, _, _, rfl, rfl, rfl, some (.int (0 + (i : Int))), i + 1, ?_, .new (L := l) h0⟩
        show [some (V.ref a), some (V.ref b), some (V.int (0 + (i : Int))), some (V.ref p), some (V.int (0 + (i : Int) + 1))] = _
        rw [show (0 + (i : Int) + 1) = ((i + 1 : Nat) : Int) by omega]
    · obtain ⟨rfl, v2, l, rfl, hl⟩ := hP
      rw [Int.toNat_natCast] at hl
      refine ⟨.ref p, rfl, _, rfl, _, rfl, p, _, rfl, hp'.sq, fun r hr => ?_⟩
      rw [cut_to hl.1, hl.take, padd_of (t := t) fun m => ?_]
      · exact q _ r (sm.trans (same_upd hr)) (sm.free hr) il_upd
      · rw [hc]
        split
        · rfl
        · rw [cf_ge (show ms.length ≤ m by omega)]
theorem rep_flat (b : Bool) (xs : List V) : (List.replicate (if b then (1 : Int) else 0).toNat xs).flatten = if b then xs else [] := by
  cases b with
  | false => rfl
  | true => show (xs :: []).flatten = xs; simp
theorem ok_law_times (T : Txt K mg) : FnOk P w K mg base CX0 2 T.law_times.a T.law_times.fd ["one", "two"] (fun vs H Q _ => ∃ (a b : Addr) (ns ms : List Int), vs = [.ref a, .ref b] ∧ IL H a ns ∧ IL H b ms ∧ ns.length ≤ 100 ∧ ms.length ≤ 100 ∧ Bd ns ∧ Bd ms ∧ Out H Q (pmul ns ms)) := by
  refine T.law_times.F.ok sc_law_times (fun vs H Q E h => ?_) (fun cdv A outer s H vs Q E hr h => ?_)
  · obtain ⟨a, b, ns, ms, rfl, _⟩ := h
    rfl
  · obtain ⟨a, b, ns, ms, rfl, ha, hb, hla, hlb, ba, bb, q⟩ := h
    refine ⟨_, (pss_cons (ps_set (i := 2) sc_law_times.nd rfl (.inl rfl) (pe_lst pa_nil))
      (pss_cons (ps_for PassesOwn.never rfl (pi_range1 (by rfl) T.m_range (pa_cons (pe_callB call_len_seq (by rfl) T.m_len (by decide +kernel) (pa_cons (pv 0) pa_nil)) pa_nil)) (pg_name (i := 3) sc_law_times.nd rfl (.inr rfl))
        (pss_one (ps_set (i := 2) sc_law_times.nd rfl (.inl rfl) (pe_call (ok_law_plus T) (hr.mono (by decide)) (by rfl) T.law_plus.g T.law_plus.F.kp T.law_plus.b .nil pass0 (pa_cons (pv 2) (pa_cons (pe_op op_cat (pe_lc (own := [("m", 4)]) rfl sc_law_times.nd (pi_range1 (by rfl) T.m_range (pa_cons (pv 3) pa_nil)) (blkOk_by (N := ["one", "two", "total", "k", "m", "number"]) (sc := defScope s_law_times) (by decide +kernel)) (fun _ _ _ _ _ => (pg_name (i := 4) sc_law_times.nd rfl (.inl rfl))) (fun _ _ _ _ _ => pts_nil) (fun _ _ _ _ _ => pe_int)) (pe_op op_rep (pe_lc (own := [("number", 5)]) rfl sc_law_times.nd (pi_list (pv 1)) (blkOk_by (N := ["one", "two", "total", "k", "m", "number"]) (sc := defScope s_law_times) (by decide +kernel)) (fun _ _ _ _ _ => (pg_name (i := 5) sc_law_times.nd rfl (.inl rfl))) (fun _ _ _ _ _ => pts_nil) (fun _ _ _ _ _ => (pe_op op_mulW (pe_ix (r := rIxL K) ix_list (pv 0) (pv 3) (fun _ _ => rfl)) (pv 5)))) (pe_callTy call_int1 (by rfl) T.m_int (by decide +kernel) (pa_cons (pe_cmpR op_ne (pe_ix ix_list (pv 0) (pv 3) (fun _ _ => rfl)) pe_int (nomark _)) pa_nil)))) pa_nil))))))
      (pss_one (ps_ret (pv 2))))), ?_⟩
    refine ⟨Nat.zero_le _, fun p0 hp0 => ?_⟩
    have s0 := same_upd (o := .lst []) hp0
    refine ⟨.ref a, rfl, a, _, rfl, .inl (ha.same s0).sq, _, rfl, by rw [List.length_map]; omega, by rw [List.length_map]; omega, ?_⟩
    rw [List.length_map]
    refine for_range (n := (ns.length : Int).toNat) (lo := 0) (fun i σ H' => Same H H' ∧ ∃ p t v3 v4 v5, σ = [some (.ref a), some (.ref b), some (.ref p), v3, v4, v5] ∧ H p = none ∧ IL H' p t ∧ Can t ∧ t.length ≤ i + ms.length ∧ ∀ m, cf t m = conv ns ms i m) ⟨s0, p0, [], none, none, none, rfl, hp0, upd_same, .inl rfl, Nat.zero_le _, fun m => rfl⟩ (fun i σ H' hi hP => ?_) (fun σ H' hP => ?_)
    · obtain ⟨sm, p, t, v3, v4, v5, rfl, hpn, hp', hcan, htl, hc⟩ := hP
      have hi' : i < ns.length := by omega
      refine ⟨.ref p, rfl, .int (0 + (i : Int)), rfl, _, rfl, by omega, by omega, fun D1 nD1 => ?_⟩
      refine lc_relR (n := (0 + (i : Int)).toNat) (fun j y => y = .int 0) nD1 (small' (by omega)) (fun j H' Q' hj sm hq => hq _ rfl) (fun H1 ys1 s1 hy1 hn1 hr1 => ?_)
      have e1 := ints_of (fun _ => 0) hn1 hr1
      rw [zeros_of, show (0 + (i : Int)).toNat = i by omega] at e1
      have sm1 := sm.trans s1
      refine ⟨.ref b, rfl, b, rfl, ⟨_, (hb.same sm1).sq⟩, fun D2 nD2 => ?_⟩
      refine lc_rel (a := b) (xs := ms.map V.int) (fun j y => y = .int (cf ns i * cf ms j)) nD2 (hb.same sm1).sq (by rw [List.length_map]; exact small' (by omega)) (fun j x H2 Q' hx s2 hq => ?_) (fun H2 ys2 s2 hy2 hn2 hr2 => ?_)
      · obtain ⟨hj, rfl⟩ := map_get hx
        exact ⟨.ref a, rfl, .int (0 + (i : Int)), rfl, a, _, _, _, rfl, rfl, ((ha.same sm1).same s2).sq, at_map' (m := i) (by omega) hi', _, rfl, _, _, rfl, rfl, wide200 (ba i) (bb j), hq _ rfl⟩
      rw [List.length_map] at hn2
      have e2 := ints_of (fun j => cf ns i * cf ms j) hn2 hr2
      rw [scale_range] at e2
      have sm2 := sm1.trans s2
      refine ⟨.ref a, rfl, .int (0 + (i : Int)), rfl, a, _, _, _, rfl, rfl, (ha.same sm2).sq, at_map' (m := i) (by omega) hi', rfl, .inr ⟨_, rfl, ?_⟩⟩
      have ek : (!decide (V.int (cf ns i) = V.int 0)) = decide (cf ns i ≠ 0) := by
        by_cases h0 : cf ns i = 0
        · rw [h0]; rfl
        · rw [decide_eq_false (fun z => h0 (V.int.inj z)), decide_eq_true h0]; rfl
      rw [ek]
      refine ⟨D2, _, _, rfl, rfl, hy2, by split <;> decide, by split <;> decide, ?_, fun D3 nD3 => ?_⟩
      · rw [hn2]
        refine small (Nat.le_trans (Nat.mul_le_mul_left _ (show _ ≤ 1 by split <;> decide)) (by omega))
      have s3 := s2.trans (same_upd (o := .lst (List.replicate (if decide (cf ns i ≠ 0) then (1 : Int) else 0).toNat ys2).flatten) nD3)
      have e3 : (List.replicate (if decide (cf ns i ≠ 0) then (1 : Int) else 0).toNat ys2).flatten = (if cf ns i ≠ 0 then ms.map (cf ns i * ·) else []).map V.int := by
        rw [rep_flat, e2]
        by_cases h0 : cf ns i = 0
        · rw [h0]; rfl
        · rw [decide_eq_true h0, if_pos h0]; rfl
      have l3 : (if cf ns i ≠ 0 then ms.map (cf ns i * ·) else []).length ≤ ms.length := by
        split
        · simp
        · exact Nat.zero_le _
      have hD1 := s3 _ _ hy1
      rw [e3] at hD1 s3 ⊢
      refine ⟨D1, D3, _, _, rfl, rfl, hD1, upd_same, ?_, fun D4 nD4 => ?_⟩
      · rw [List.length_map, hn1]
        exact small (by omega)
      have s4 := s3.trans (same_upd (o := .lst (ys1 ++ (if cf ns i ≠ 0 then ms.map (cf ns i * ·) else []).map V.int)) nD4)
      have e4 : ys1 ++ (if cf ns i ≠ 0 then ms.map (cf ns i * ·) else []).map V.int = (List.replicate i 0 ++ if cf ns i ≠ 0 then ms.map (cf ns i * ·) else []).map V.int := by
        rw [e1, List.map_append]
      have smF : Same H' _ := s1.trans s4
      refine ⟨p, D4, t, _, rfl, hp'.same smF, by show upd _ _ _ _ = _; rw [upd_same, e4], by omega, by rw [List.length_append, List.length_replicate]; omega, fun H5 r s5 hr5 hi5 => ?_⟩
      refine ⟨(sm.trans smF).trans s5, r, _, _, _, _, rfl, (sm.trans smF).free hr5, hi5, can_padd _ _, ?_, fun m => conv_turn hc m⟩
      have := padd_len t (List.replicate i 0 ++ if cf ns i ≠ 0 then ms.map (cf ns i * ·) else [])
      rw [List.length_append, List.length_replicate] at this
      omega
    · obtain ⟨sm, p, t, v3, v4, v5, rfl, hpn, hp', hcan, htl, hc⟩ := hP
      rw [Int.toNat_natCast] at hc
      refine ⟨_, rfl, q _ p sm hpn ?_⟩
      rw [show pmul ns ms = t from can_ext (can_pmul _ _) hcan fun m => by rw [cf_pmul, hc]]
      exact hp'
theorem pval_drop (x : Int) {ns : List Int} {i : Nat} (h : i < ns.length) : pval x (ns.drop i) = pval x (ns.drop (i + 1)) * x + cf ns i := by
  rw [List.drop_eq_getElem_cons h, ← cf_lt h]
  rfl
def sp_law_value : Sp := fun vs H Q _ => ∃ (a : Addr) (ns : List Int) (x : Int), vs = [.ref a, .int x] ∧ IL H a ns ∧ ns.length ≤ 400 ∧ Bd ns ∧ x.natAbs ≤ 1000 ∧ Q (.int (pval x ns)) H
theorem ok_law_value (T : Txt K mg) : FnOk P w K mg base CX0 1 T.law_value.a T.law_value.fd ["one", "at"] sp_law_value := by
  refine T.law_value.F.ok sc_law_value (fun vs H Q E h => ?_) (fun cdv A outer s H vs Q E hr h => ?_)
  · obtain ⟨a, ns, x, rfl, _⟩ := h
    rfl
  · obtain ⟨a, ns, x, rfl, ha, hl, hb, hx, q⟩ := h
    refine ⟨_, (pss_cons (ps_set (i := 2) sc_law_value.nd rfl (.inl rfl) pe_int)
      (pss_cons (ps_set (i := 3) sc_law_value.nd rfl (.inl rfl) pe_int)
      (pss_cons (ps_for PassesOwn.never rfl (pi_list (pv 0)) (pg_name (i := 4) sc_law_value.nd rfl (.inl rfl))
        (pss_cons (ps_set (i := 2) sc_law_value.nd rfl (.inl rfl) (pe_op op_add (pv 2) (pe_op op_mulW (pv 4) (pv 3))))
        (pss_one (ps_set (i := 3) sc_law_value.nd rfl (.inl rfl) (pe_op op_mulW (pv 3) (pv 1))))))
      (pss_one (ps_ret (pv 2)))))), ?_⟩
    refine ⟨.ref a, rfl, a, rfl, ⟨_, ha.sq⟩, ?_⟩
    refine for_list (xs := ns.map V.int) (fun i σ H' => H' = H ∧ ∃ t v4, σ = [some (.ref a), some (.int x), some (.int t), some (.int (x ^ i)), v4] ∧ t + x ^ i * pval x (ns.drop i) = pval x ns) ⟨rfl, 0, none, by rw [Int.pow_zero]; rfl, ?_⟩ (fun i σ H' _ p => by rw [p.1]; exact ha.sq) (fun i v σ H' hv hP => ?_) (fun σ H' hP => ?_)
    · rw [Int.pow_zero, List.drop_zero]; omega
    · obtain ⟨rfl, t, v4, rfl, ht⟩ := hP
      obtain ⟨hi, rfl⟩ := map_get hv
      have pb := pow_bound hx i
      refine ⟨_, rfl, _, rfl, _, rfl, _, _, rfl, rfl, wide_mul (hb i) pb (by decide) (by omega) (by omega), _, _, rfl, rfl, _, rfl, _, rfl, _, _, rfl, rfl, wide_mul (b := 10) pb (by omega) (by omega) (by decide) (by omega), rfl, t + cf ns i * x ^ i, some (.int (cf ns i)), ?_, ?_⟩
      · rw [Int.pow_succ]; rfl
      · rw [← ht, pval_drop x hi, Int.pow_succ, Int.mul_add, Int.mul_comm (cf ns i) (x ^ i), Int.mul_assoc, Int.mul_comm x]
        omega
    · obtain ⟨rfl, t, v4, rfl, ht⟩ := hP
      rw [List.length_map, List.drop_length] at ht
      refine ⟨_, rfl, ?_⟩
      have e : pval x ns = t := by rw [← ht]; show t + _ * 0 = t; omega
      rw [e] at q
      exact q
end
end K03
-- Q3
namespace K03
open PySem PySem.Spec PyProof.Rows L2
open K00 (cf pval Can)
open DP (vrow vals rdeg reach Tb)
/-- a row of polynomials stands at a; a table of them at p -/
def RowL (H : Hp) (a : Addr) (row : List (List Int)) : Prop := ∃ es : List Addr, H a = some (.lst (es.map V.ref)) ∧ A2 (fun e p => IL H e p) es row
def TbR (H : Hp) (p : Addr) (tab : Tb) : Prop := ∃ as : List Addr, H p = some (.lst (as.map V.ref)) ∧ A2 (RowL H) as tab
theorem RowL.same {H H' : Hp} {a : Addr} {row : List (List Int)} (s : Same H H') (h : RowL H a row) : RowL H' a row := let ⟨es, x, y⟩ := h; ⟨es, s _ _ x, y.mono fun _ _ z => z.same s⟩
theorem TbR.same {H H' : Hp} {p : Addr} {tab : Tb} (s : Same H H') (h : TbR H p tab) : TbR H' p tab := let ⟨as, x, y⟩ := h; ⟨as, s _ _ x, y.mono fun _ _ z => z.same s⟩
theorem ref_at {as : List Addr} {j : Nat} {x : V} (h : (as.map V.ref)[j]? = some x) : ∃ r, as[j]? = some r ∧ x = .ref r := by
  rw [List.getElem?_map] at h
  cases e : as[j]? with
  | none => rw [e] at h; cases h
  | some r => rw [e] at h; exact ⟨r, rfl, (Option.some.inj h).symm⟩
theorem foldl_max_mem : ∀ (l : List Nat) (a : Nat), l.foldl max a = a ∨ l.foldl max a ∈ l
  | [], a => .inl rfl
  | b :: l, a => by
    show l.foldl max (max a b) = a ∨ l.foldl max (max a b) ∈ b :: l
    rcases foldl_max_mem l (max a b) with z | z
    · rw [z]
      rcases Nat.le_total a b with w | w
      · rw [Nat.max_eq_right w]; exact .inr List.mem_cons_self
      · rw [Nat.max_eq_left w]; exact .inl rfl
    · exact .inr (List.mem_cons_of_mem _ z)
/-- the degrees of a row, with 0 ahead: the greatest -/
theorem rdeg_is {row : List (List Int)} {m : Int} (h : m ∈ (0 :: row.map fun e => ((e.length : Nat) : Int) - 1)) (g : ∀ y ∈ (0 :: row.map fun e => ((e.length : Nat) : Int) - 1), y ≤ m) : m = ((rdeg row : Nat) : Int) := by
  have h0 := g 0 List.mem_cons_self
  have hi : ∀ e ∈ row, ((e.length : Nat) : Int) - 1 ≤ m := fun e he => g _ (List.mem_cons_of_mem _ (List.mem_map_of_mem he))
  have lo : m ≤ ((rdeg row : Nat) : Int) := by
    rcases List.mem_cons.mp h with z | z
    · rw [z]; omega
    · obtain ⟨e, he, rfl⟩ := List.mem_map.mp z
      have := DP.rdeg_le he
      omega
  have up : ((rdeg row : Nat) : Int) ≤ m := by
    unfold rdeg
    rcases foldl_max_mem (row.map fun e => e.length - 1) 0 with z | z
    · rw [z]; exact h0
    · obtain ⟨e, he, z⟩ := List.mem_map.mp z
      rw [← z]
      have := hi e he
      omega
  omega
theorem sum_cast : ∀ l : List Nat, (l.map fun k => ((k : Nat) : Int)).sum = ((l.sum : Nat) : Int)
  | [] => rfl
  | a :: l => by rw [List.map_cons, List.sum_cons, List.sum_cons, sum_cast l]; omega
/-- the ranks at the points within reach, the greatest, where it comes up first -/
structure Rg (tab : Tb) (L : Nat) (rk : Nat → Nat) (m at0 : Nat) : Prop where
  wid : ∀ row ∈ tab, row.length = L
  rkd : ∀ k : Nat, k ≤ reach tab → DT.Rk ((vals ((k : Nat) : Int) tab).map DT.fn) (rk k)
  le : ∀ k, k ≤ reach tab → rk k ≤ m
  hit : rk at0 = m
  first : ∀ k, k < at0 → rk k < m
  within : at0 ≤ reach tab
  most : m ≤ tab.length ∧ m ≤ L ∧ (tab = [] → m = 0)
section
variable {P : Program} {w : World} {K : PySem.W.Frag} {mg : Str → Option Value} {base : Heap}
def sp_degree : Sp := fun vs H Q _ => ∃ (a : Addr) (ns : List Int), vs = [.ref a] ∧ IL H a ns ∧ Q (.int (((ns.length : Nat) : Int) - 1)) H
theorem ok_degree (T : Txt K mg) : FnOk P w K mg base CX0 1 T.degree.a T.degree.fd ["one"] sp_degree := by
  refine T.degree.F.ok sc_degree (fun vs H Q E h => ?_) (fun cdv A outer s H vs Q E hr h => ?_)
  · obtain ⟨a, ns, rfl, _⟩ := h
    rfl
  · obtain ⟨a, ns, rfl, ha, q⟩ := h
    refine ⟨_, (pss_one (ps_ret (pe_op op_sub (pe_callB call_len_seq (by rfl) T.m_len (by decide +kernel) (pa_cons (pv 0) pa_nil)) pe_int))), ?_⟩
    refine ⟨.ref a, rfl, a, _, rfl, .inl ha.sq, _, _, rfl, rfl, ?_⟩
    rw [List.length_map]
    exact q
def sp_value_at : Sp := fun vs H Q _ => ∃ (p : Addr) (tab : Tb) (x : Int), vs = [.ref p, .int x] ∧ TbR H p tab ∧ tab.length ≤ 16 ∧ (∀ r ∈ tab, r.length ≤ 16) ∧ x.natAbs ≤ 1000 ∧ ∀ H' q, Same H H' → NT H' q (vals x tab) → Q (.ref q) H'
theorem ok_value_at (T : Txt K mg) : FnOk P w K mg base CX0 2 T.value_at.a T.value_at.fd ["table", "at"] sp_value_at := by
  refine T.value_at.F.ok sc_value_at (fun vs H Q E h => ?_) (fun cdv A outer s H vs Q E hr h => ?_)
  · obtain ⟨p, tab, x, rfl, _⟩ := h
    rfl
  · obtain ⟨p, tab, x, rfl, ⟨as, hp, hA⟩, l16, r16, hx, q⟩ := h
    have el := hA.len
    refine ⟨_, (pss_one (ps_ret (pe_lc (own := [("row", 2)]) rfl sc_value_at.nd (pi_list (pv 0)) (blkOk_by (N := ["table", "at", "row", "one"]) (sc := defScope s_value_at) (by decide +kernel)) (fun _ _ _ _ _ => (pg_name (i := 2) sc_value_at.nd rfl (.inl rfl))) (fun _ _ _ _ _ => pts_nil) (fun _ _ _ _ _ => (pe_lc (wi := iList K _) (own := [("one", 3)]) rfl sc_value_at.nd (pi_list (pv 2)) (blkOk_by (N := ["table", "at", "row", "one"]) (sc := { kind := .function, names := [(".0", .local), ("row", .local), ("at", .cell)], isGenerator := false, isCoroutine := false, more := [] }) (by decide +kernel)) (fun _ _ _ _ _ => (pg_name (i := 3) sc_value_at.nd rfl (.inl rfl))) (fun _ _ _ _ _ => pts_nil) (fun _ _ _ _ _ => (pe_call (ok_value T) (hr.mono (by decide)) (by rfl) T.value.g T.value.F.kp T.value.b .nil pass0 (pa_cons (pv 3) (pa_cons (pv 1) pa_nil))))))))), ?_⟩
    refine ⟨.ref p, rfl, p, rfl, ⟨_, .of hp⟩, fun D nD => ?_⟩
    refine lc_inv (walk_list (xs := as.map V.ref)) (fun i G ys => ∃ cs : List Addr, ys = cs.map V.ref ∧ A2 (fun a r => a ≠ D ∧ IL G a r) cs (vals x (tab.take i))) nD (fun G s => .of (s _ _ hp)) (small' (by rw [List.length_map]; omega)) ⟨[], rfl, .nil⟩ (fun i y G Hx ys hi sm hD hR yy Qt Qf qt qf => ?_) (fun G ys sm hD hR => ?_)
    · obtain ⟨rfl, hy⟩ := yy
      obtain ⟨cs, rfl, hC⟩ := hR
      obtain ⟨a, ea, rfl⟩ := ref_at hy
      obtain ⟨row, er, hRow⟩ := hA.get ea
      obtain ⟨es, hes, hE⟩ := hRow.same sm
      have lr := r16 row (List.mem_of_getElem? er)
      have le := hE.len
      refine ⟨rfl, .ref a, rfl, a, rfl, ⟨_, .of hes⟩, fun D2 nD2 => ?_⟩
      refine lc_inv (walk_list (xs := es.map V.ref)) (fun j G2 ys => ys = (vrow x (row.take j)).map V.int) nD2 (fun G s => .of (s _ _ hes)) (small' (by rw [List.length_map]; omega)) rfl (fun j y2 G2 Hx2 ys2 hj sm2 hD2 hR2 yy2 Qt2 Qf2 qt2 qf2 => ?_) (fun G2 ys2 sm2 hD2 hR2 => ?_)
      · obtain ⟨rfl, hy2⟩ := yy2
        obtain ⟨e, ee, rfl⟩ := ref_at hy2
        obtain ⟨p2, ep, hI⟩ := hE.get ee
        refine ⟨rfl, .ref e, rfl, _, rfl, e, p2, x, rfl, hI.same sm2, hx, qt2 _ _ (Same.refl _) ?_⟩
        rw [hR2]
        unfold vrow
        rw [take_snoc ep, List.map_append, List.map_append]
        rfl
      · rw [List.length_map, le, List.take_length] at hR2
        subst hR2
        have dD : D2 ≠ D := fun z => by rw [z, hD] at nD2; cases nD2
        refine qt _ _ sm2 ⟨cs ++ [D2], by rw [List.map_append]; rfl, ?_⟩
        unfold vals
        rw [take_snoc er, List.map_append]
        exact A2.snoc ⟨dD, (upd_ne dD).trans hD2⟩ (hC.mono fun b y z => ⟨z.1, (upd_ne z.1).trans (z.2.same sm2)⟩)
    · obtain ⟨cs, rfl, hC⟩ := hR
      rw [List.length_map, el, List.take_length] at hC
      exact q G D sm ⟨cs, hD, hC.mono fun _ _ z => z.2⟩
def sp_reach : Sp := fun vs H Q _ => ∃ (p : Addr) (tab : Tb), vs = [.ref p] ∧ TbR H p tab ∧ tab.length ≤ 1000 ∧ (∀ r ∈ tab, r.length ≤ 1000) ∧ ∀ H', Same H H' → Q (.int ((reach tab : Nat) : Int)) H'
theorem ok_reach (T : Txt K mg) : FnOk P w K mg base CX0 2 T.reach.a T.reach.fd ["table"] sp_reach := by
  refine T.reach.F.ok sc_reach (fun vs H Q E h => ?_) (fun cdv A outer s H vs Q E hr h => ?_)
  · obtain ⟨p, tab, rfl, _⟩ := h
    rfl
  · obtain ⟨p, tab, rfl, ⟨as, hp, hA⟩, l16, r16, q⟩ := h
    have el := hA.len
    refine ⟨_, (pss_one (ps_ret (pe_callB (cr_sum rfl) (by rfl) T.m_sum (by decide +kernel) (pa_cons (pe_lc (own := [("row", 1)]) rfl sc_reach.nd (pi_list (pv 0)) (blkOk_by (N := ["table", "row", "one"]) (sc := defScope s_reach) (by decide +kernel)) (fun _ _ _ _ _ => (pg_name (i := 1) sc_reach.nd rfl (.inl rfl))) (fun _ _ _ _ _ => pts_nil) (fun _ _ _ _ _ => (pe_callB (id := "max") (r := rMax K) (cr_max rfl) (by rfl) T.m_max (by decide +kernel) (pa_cons (pe_op op_cat (pe_lst (pa_cons pe_int pa_nil)) (pe_lc (wi := iList K _) (own := [("one", 2)]) rfl sc_reach.nd (pi_list (pv 1)) (blkOk_by (N := ["table", "row", "one"]) (sc := { kind := .function, names := [(".0", .local), ("row", .local), ("max", .globalImplicit)], isGenerator := false, isCoroutine := false, more := [] }) (by decide +kernel)) (fun _ _ _ _ _ => (pg_name (i := 2) sc_reach.nd rfl (.inl rfl))) (fun _ _ _ _ _ => pts_nil) (fun _ _ _ _ _ => (pe_call (ok_degree T) (hr.mono (by decide)) (by rfl) T.degree.g T.degree.F.kp T.degree.b .nil pass0 (pa_cons (pv 2) pa_nil))))) pa_nil)))) pa_nil)))), ?_⟩
    refine ⟨.ref p, rfl, p, rfl, ⟨_, .of hp⟩, fun D nD => ?_⟩
    refine lc_inv (walk_list (xs := as.map V.ref)) (fun i G ys => ys = (((tab.take i).map rdeg).map fun k => ((k : Nat) : Int)).map V.int) nD (fun G s => .of (s _ _ hp)) (small' (by rw [List.length_map]; omega)) rfl (fun i y G Hx ys hi sm hD hR yy Qt Qf qt qf => ?_) (fun G ys sm hD hR => ?_)
    · obtain ⟨rfl, hy⟩ := yy
      obtain ⟨a, ea, rfl⟩ := ref_at hy
      obtain ⟨row, er, hRow⟩ := hA.get ea
      obtain ⟨es, hes, hE⟩ := hRow.same sm
      have lr := r16 row (List.mem_of_getElem? er)
      have le := hE.len
      refine ⟨rfl, by show 1 ≤ sizeLine; decide, fun u nu => ?_⟩
      have su := same_upd nu (o := .lst [V.int 0])
      refine ⟨.ref a, rfl, a, rfl, ⟨_, .of (su _ _ hes)⟩, fun D2 nD2 => ?_⟩
      refine lc_inv (walk_list (xs := es.map V.ref)) (fun j G2 ys => ys = ((row.take j).map fun e => ((e.length : Nat) : Int) - 1).map V.int) nD2 (fun G s => .of (s _ _ (su _ _ hes))) (small' (by rw [List.length_map]; omega)) rfl (fun j y2 G2 Hx2 ys2 hj sm2 hD2 hR2 yy2 Qt2 Qf2 qt2 qf2 => ?_) (fun G2 ys2 sm2 hD2 hR2 => ?_)
      · obtain ⟨rfl, hy2⟩ := yy2
        obtain ⟨e, ee, rfl⟩ := ref_at hy2
        obtain ⟨p2, ep, hI⟩ := hE.get ee
        refine ⟨rfl, .ref e, rfl, e, p2, rfl, (hI.same su).same sm2, qt2 _ _ (Same.refl _) ?_⟩
        rw [hR2, take_snoc ep, List.map_append, List.map_append]
        rfl
      · rw [List.length_map, le, List.take_length] at hR2
        subst hR2
        refine ⟨u, D2, _, _, rfl, rfl, sm2 _ _ upd_same, hD2, by rw [List.length_map, List.length_map]; exact small (by show 1 + _ ≤ _; omega), fun v nv => ?_⟩
        refine ⟨v, 0 :: row.map fun e => ((e.length : Nat) : Int) - 1, rfl, .of upd_same, Nat.succ_pos _, fun m hm hg => ?_⟩
        obtain rfl := rdeg_is hm hg
        refine qt _ _ ((su.trans sm2).trans (same_upd nv)) ?_
        rw [hR, take_snoc er, List.map_append, List.map_append, List.map_append]
        rfl
    · rw [List.length_map, el, List.take_length] at hR
      subst hR
      refine ⟨D, _, rfl, .of hD, ?_⟩
      rw [sum_cast]
      exact q G sm
def sp_ranks : Sp := fun vs H Q _ => ∃ (p : Addr) (tab : Tb) (L : Nat) (rk : Nat → Nat) (m at0 M N : Nat), vs = [.ref p] ∧ TbR H p tab ∧ Rg tab L rk m at0 ∧ tab.length ≤ 16 ∧ L ≤ 16 ∧ reach tab ≤ 900 ∧ tab.length ≤ N ∧ N ≤ 1000 ∧ 0 < N * M ∧ (N * M) ^ N < 2 ^ 4000 ∧ (∀ k : Nat, k ≤ reach tab → ∀ x ∈ vals ((k : Nat) : Int) tab, DT.Lim M (DT.fn x)) ∧
  ∀ H' q n, Same H H' → at0 < n → n ≤ reach tab + 1 → IL H' q ((List.range n).map fun k => ((rk k : Nat) : Int)) → Q (.ref q) H'
theorem ok_ranks (T : Txt K mg) : FnOk P w K mg base CX0 4 T.ranks.a T.ranks.fd ["table"] sp_ranks := by
  refine T.ranks.F.ok sc_ranks (fun vs H Q E h => ?_) (fun cdv A outer s H vs Q E hr h => ?_)
  · obtain ⟨p, tab, L, rk, m, at0, M, N, rfl, _⟩ := h
    rfl
  · obtain ⟨p, tab, L, rk, m, at0, M, N, rfl, hT, rg, l16, L16, r9, hn, hN, hM, hB, lim, q⟩ := h
    have r16 : ∀ r ∈ tab, r.length ≤ 16 := fun r hr2 => by rw [rg.wid r hr2]; exact L16
    refine ⟨_, (pss_cons (ps_set (i := 1) sc_ranks.nd rfl (.inl rfl) (pe_callB (call_min2 rfl) (by rfl) T.m_min (by decide +kernel) (pa_cons (pe_callB call_len_seq (by rfl) T.m_len (by decide +kernel) (pa_cons (pv 0) pa_nil)) (pa_cons (pe_call (ok_width T) (hr.mono (by decide)) (by rfl) T.width.g T.width.F.kp T.width.b .nil pass0 (pa_cons (pv 0) pa_nil)) pa_nil))))
      (pss_cons (ps_set (i := 2) sc_ranks.nd rfl (.inl rfl) (pe_lst pa_nil))
      (pss_cons (ps_for PassesOwn.never rfl (pi_range1 (by rfl) T.m_range (pa_cons (pe_op op_add (pe_call (ok_reach T) (hr.mono (by decide)) (by rfl) T.reach.g T.reach.F.kp T.reach.b .nil pass0 (pa_cons (pv 0) pa_nil)) pe_int) pa_nil)) (pg_name (i := 3) sc_ranks.nd rfl (.inl rfl))
        (pss_cons (ps_expr (pe_bm PySem.F.plainAttrs_list PySem.F.slot_list_append PySem.F.type_list_append mt_append (pv 2) (pa_cons (pe_call (ok_number_rank T) (hr.mono (by decide)) (by rfl) T.number_rank.g T.number_rank.F.kp T.number_rank.b .nil pass0 (pa_cons (pe_call (ok_value_at T) (hr.mono (by decide)) (by rfl) T.value_at.g T.value_at.F.kp T.value_at.b .nil pass0 (pa_cons (pv 0) (pa_cons (pv 3) pa_nil))) pa_nil)) pa_nil)))
        (pss_one (ps_if (pt_cmpR op_eq (pe_ix ix_list (pv 2) (pv 3) (fun _ _ => rfl)) (pv 1) (nomark _))
          (pss_one ps_break)
          pss_nil))))
      (pss_one (ps_ret (pv 2)))))), ?_⟩
    obtain ⟨as, hp, hA⟩ := id hT
    have el := hA.len
    refine ⟨.ref p, rfl, p, _, rfl, .inl (.of hp), .ref p, rfl, p, as, L, rfl, hp, fun a ha => ?_, ?_⟩
    · obtain ⟨row, hrow, es, hes, hE⟩ := hA.mem a ha
      exact ⟨_, hes, by rw [List.length_map, hE.len, rg.wid row hrow]⟩
    rw [List.length_map, el]
    obtain ⟨mo, emo, hmo⟩ : ∃ mo : Int, (if (((if as = [] then 0 else L : Nat) : Int)) < ((tab.length : Nat) : Int) then (((if as = [] then 0 else L : Nat) : Int)) else ((tab.length : Nat) : Int)) = mo ∧ ((m : Nat) : Int) ≤ mo := by
      refine ⟨_, rfl, ?_⟩
      have h1 := rg.most
      by_cases ea : as = []
      · have : tab = [] := by rw [ea] at el; exact List.length_eq_zero_iff.mp el.symm
        have := h1.2.2 this
        rw [if_pos ea]
        split <;> omega
      · rw [if_neg ea]
        split <;> omega
    refine ⟨_, _, rfl, ?_⟩
    rw [emo]
    refine ⟨Nat.zero_le _, fun q0 nq0 => ?_⟩
    have s0 := same_upd nq0 (o := .lst [])
    refine ⟨.ref p, rfl, p, tab, rfl, hT.same s0, by omega, fun r hr2 => by have := r16 r hr2; omega, fun H1 s1 => ?_⟩
    have hq1 : IL H1 q0 [] := s1 _ _ upd_same
    have s01 := s0.trans s1
    refine ⟨_, _, rfl, rfl, _, rfl, by omega, by omega, ?_⟩
    refine for_range (n := (((reach tab : Nat) : Int) + 1).toNat) (lo := 0) (fun i σ G => Same H G ∧ ∃ (q : Addr) (x3 : Option V), σ = [some (.ref p), some (.int mo), some (.ref q), x3] ∧ H q = none ∧ IL G q ((List.range i).map fun k => ((rk k : Nat) : Int))) ⟨s01, q0, none, rfl, nq0, hq1⟩ (fun i σ G hi hP => ?_) (fun σ G hP => ?_)
    · obtain ⟨sm, qa, x3, rfl, nqa, hq⟩ := hP
      rw [show (0 : Int) + (i : Int) = ((i : Nat) : Int) by omega]
      have hi' : i ≤ reach tab := by omega
      refine ⟨.ref qa, rfl, .inl ⟨rfl, _, hq.sq⟩, .ref p, rfl, _, rfl, p, tab, _, rfl, hT.same sm, l16, r16, by omega, fun H2 v s2 nv => ?_⟩
      have wv : ∀ x ∈ vals ((i : Nat) : Int) tab, x.length = L := fun x hx => by
        obtain ⟨row, hr2, rfl⟩ := List.mem_map.mp hx
        unfold vrow
        rw [List.length_map, rg.wid row hr2]
      have lv : (vals ((i : Nat) : Int) tab).length = tab.length := by unfold vals; rw [List.length_map]
      refine ⟨v, vals ((i : Nat) : Int) tab, L, M, N, rfl, nv, wv, by omega, by omega, hN, lim i hi', hM, hB, fun H3 r rows sg la cs P0 s3 st => ?_⟩
      have er : r = rk i := by
        have e1 := rg.rkd i hi'
        by_cases ev : vals ((i : Nat) : Int) tab = []
        · have z := st.rk
          rw [if_pos ev] at st
          exact (by
            have := st.rk
            exact this.one e1)
        · rw [if_neg ev] at st
          exact st.rk.one e1
      subst er
      have hq3 := hq.same (s2.trans s3)
      have sm3 := sm.trans (s2.trans s3)
      refine ⟨qa, _, _, rfl, rfl, hq3, by rw [List.length_map, List.length_map, List.length_range]; exact small' (by omega), ?_⟩
      rw [app_ints]
      have sm4 : Same H (upd H3 qa (.lst (((List.range i).map fun k => ((rk k : Nat) : Int)) ++ [((rk i : Nat) : Int)] |>.map V.int))) := same_over sm3 nqa
      have hq4 : IL (upd H3 qa (.lst (((List.range i).map fun k => ((rk k : Nat) : Int)) ++ [((rk i : Nat) : Int)] |>.map V.int))) qa ((List.range (i + 1)).map fun k => ((rk k : Nat) : Int)) := by
        have e : ((List.range i).map fun k => ((rk k : Nat) : Int)) ++ [((rk i : Nat) : Int)] = (List.range (i + 1)).map fun k => ((rk k : Nat) : Int) := by rw [List.range_succ, List.map_append]; rfl
        rw [← e]
        exact upd_same
      generalize upd H3 qa _ = H4 at sm4 hq4
      have hat : atI (((List.range (i + 1)).map fun k => ((rk k : Nat) : Int)).map V.int) ((i : Nat) : Int) = some (.int ((rk i : Nat) : Int)) := by
        refine atI_nat ?_
        rw [List.getElem?_map, List.getElem?_map, List.getElem?_range (Nat.lt_succ_self i)]
        rfl
      refine ⟨.ref qa, rfl, _, rfl, qa, _, _, _, rfl, rfl, hq4.sq, hat, _, rfl, rfl, _, rfl, ite2 (fun h => ?_) (fun h => ⟨sm4, qa, _, rfl, nqa, hq4⟩)⟩
      have e := V.int.inj (of_decide_eq_true h)
      have h1 := rg.le i hi'
      refine ⟨_, rfl, q H4 qa (i + 1) sm4 ?_ (by omega) hq4⟩
      rcases Nat.lt_or_ge i at0 with z | z
      · have := rg.first i z
        omega
      · omega
    · obtain ⟨sm, qa, x3, rfl, nqa, hq⟩ := hP
      have e : (((reach tab : Nat) : Int) + 1).toNat = reach tab + 1 := by omega
      rw [e] at hq
      exact ⟨_, rfl, q G qa (reach tab + 1) sm (by have := rg.within; omega) (Nat.le_refl _) hq⟩
/-- the greatest of the ranks -/
theorem top_is {tab : Tb} {L m at0 n : Nat} {rk : Nat → Nat} (rg : Rg tab L rk m at0) (h1 : at0 < n) (h2 : n ≤ reach tab + 1) {z : Int} (hz : z ∈ (List.range n).map fun k => ((rk k : Nat) : Int)) (g : ∀ y ∈ (List.range n).map (fun k => ((rk k : Nat) : Int)), y ≤ z) : z = ((m : Nat) : Int) := by
  obtain ⟨k, hk, rfl⟩ := List.mem_map.mp hz
  have hk := List.mem_range.mp hk
  have a := g _ (List.mem_map.mpr ⟨at0, List.mem_range.mpr h1, rfl⟩)
  have b := rg.le k (by omega)
  have c := rg.hit
  have a : ((rk at0 : Nat) : Int) ≤ ((rk k : Nat) : Int) := a
  omega
def sp_rank (f : Nat → Nat → Nat) : Sp := fun vs H Q _ => ∃ (p : Addr) (tab : Tb) (L : Nat) (rk : Nat → Nat) (m at0 M N : Nat), vs = [.ref p] ∧ TbR H p tab ∧ Rg tab L rk m at0 ∧ tab.length ≤ 16 ∧ L ≤ 16 ∧ reach tab ≤ 900 ∧ tab.length ≤ N ∧ N ≤ 1000 ∧ 0 < N * M ∧ (N * M) ^ N < 2 ^ 4000 ∧ (∀ k : Nat, k ≤ reach tab → ∀ x ∈ vals ((k : Nat) : Int) tab, DT.Lim M (DT.fn x)) ∧
  ∀ H', Same H H' → Q (.int ((f m at0 : Nat) : Int)) H'
theorem ok_rank (T : Txt K mg) : FnOk P w K mg base CX0 5 T.rank.a T.rank.fd ["table"] (sp_rank fun m _ => m) := by
  refine T.rank.F.ok sc_rank (fun vs H Q E h => ?_) (fun cdv A outer s H vs Q E hr h => ?_)
  · obtain ⟨p, tab, L, rk, m, at0, M, N, rfl, _⟩ := h
    rfl
  · obtain ⟨p, tab, L, rk, m, at0, M, N, rfl, hT, rg, l16, L16, r9, hn, hN, hM, hB, lim, q⟩ := h
    refine ⟨_, (pss_one (ps_ret (pe_callB (cr_max rfl) (by rfl) T.m_max (by decide +kernel) (pa_cons (pe_call (ok_ranks T) (hr.mono (by decide)) (by rfl) T.ranks.g T.ranks.F.kp T.ranks.b .nil pass0 (pa_cons (pv 0) pa_nil)) pa_nil)))), ?_⟩
    refine ⟨.ref p, rfl, p, tab, L, rk, m, at0, M, N, rfl, hT, rg, l16, L16, r9, hn, hN, hM, hB, lim, fun H1 qa n s1 a1 a2 hq => ?_⟩
    refine ⟨qa, _, rfl, hq.sq, by rw [List.length_map, List.length_range]; omega, fun z hz g => ?_⟩
    rw [top_is rg a1 a2 hz g]
    exact q H1 s1
theorem ok_point (T : Txt K mg) : FnOk P w K mg base CX0 5 T.point.a T.point.fd ["table"] (sp_rank fun _ at0 => at0) := by
  refine T.point.F.ok sc_point (fun vs H Q E h => ?_) (fun cdv A outer s H vs Q E hr h => ?_)
  · obtain ⟨p, tab, L, rk, m, at0, M, N, rfl, _⟩ := h
    rfl
  · obtain ⟨p, tab, L, rk, m, at0, M, N, rfl, hT, rg, l16, L16, r9, hn, hN, hM, hB, lim, q⟩ := h
    refine ⟨_, (pss_cons (ps_set (i := 1) sc_point.nd rfl (.inl rfl) (pe_call (ok_ranks T) (hr.mono (by decide)) (by rfl) T.ranks.g T.ranks.F.kp T.ranks.b .nil pass0 (pa_cons (pv 0) pa_nil)))
      (pss_one (ps_ret (pe_bm PySem.F.plainAttrs_list PySem.F.slot_list_index PySem.F.type_list_index mt_index (pv 1) (pa_cons (pe_callB (cr_max rfl) (by rfl) T.m_max (by decide +kernel) (pa_cons (pv 1) pa_nil)) pa_nil))))), ?_⟩
    refine ⟨.ref p, rfl, p, tab, L, rk, m, at0, M, N, rfl, hT, rg, l16, L16, r9, hn, hN, hM, hB, lim, fun H1 qa n s1 a1 a2 hq => ?_⟩
    refine ⟨.ref qa, rfl, .inl ⟨rfl, _, hq.sq⟩, .ref qa, rfl, qa, _, rfl, hq.sq, by rw [List.length_map, List.length_range]; omega, fun z hz g => ?_⟩
    rw [top_is rg a1 a2 hz g]
    have at' : ∀ k, k < n → ((((List.range n).map fun k => ((rk k : Nat) : Int)).map V.int)[k]?) = some (.int ((rk k : Nat) : Int)) := fun k hk => by
      rw [List.getElem?_map, List.getElem?_map, List.getElem?_range hk]
      rfl
    refine ⟨qa, _, .int ((m : Nat) : Int), at0, _, rfl, rfl, hq.sq, rfl, ?_, at' at0 a1, ?_, fun k z' hk hz' => ?_, q H1 s1⟩
    · rw [List.all_eq_true]
      intro y hy
      obtain ⟨k, _, rfl⟩ := List.mem_map.mp hy
      rfl
    · show (((rk at0 : Nat) : Int) == ((m : Nat) : Int)) = true
      rw [rg.hit]
      exact beq_self_eq_true _
    · rw [at' k (by omega)] at hz'
      cases hz'
      have := rg.first k hk
      show (((rk k : Nat) : Int) == ((m : Nat) : Int)) = false
      rw [beq_eq_false_iff_ne]
      omega
end
end K03
-- R3
namespace K03
open PySem PySem.Spec PyProof.Rows L2
open K00 (cf trim padd pmul conv cf_lt cf_ge cf_some at_cf cf_trim can_trim trim_len take_trim cf_take padd_of pmul_of padd_nil padd_len cf_padd cf_pmul can_padd can_pmul trim_can Can can_ext conv_turn conv_out cf_shift cf_scale cf_map_range trim_eq can_iff pval pval_last pow_bound)
open DP (Po)
section
variable {P : Program} {w : World} {K : PySem.W.Frag} {mg : Str → Option Value} {base : Heap}
def sp_law_draws (K : PySem.W.Frag) : Sp := fun vs H Q _ => ∃ (a : Addr) (ns : List Int), vs = [.ref a] ∧ SqL K H a (ns.map V.int) ∧ ns.length ≤ 63 ∧ ∀ H' p ds, Same H H' → H p = none → IL H' p ds → ds.length ≤ 4000 → Q (.ref p) H'
theorem ok_law_draws (T : Txt K mg) : FnOk P w K mg base CX0 1 T.law_draws.a T.law_draws.fd ["script"] (sp_law_draws K) := by
  refine T.law_draws.F.ok sc_law_draws (fun vs H Q E h => ?_) (fun cdv A outer s H vs Q E hr h => ?_)
  · obtain ⟨a, ns, rfl, _⟩ := h
    rfl
  · obtain ⟨a, ns, rfl, ha, hl, q⟩ := h
    refine ⟨_, (pss_cons (ps_set (i := 1) sc_law_draws.nd rfl (.inl rfl) (pe_lst pa_nil))
      (pss_cons (ps_for PassesOwn.never rfl (pi_range1 (by rfl) T.m_range (pa_cons (pe_callB (call_min2 rfl) (by rfl) T.m_min (by decide +kernel) (pa_cons pe_int (pa_cons (pe_callB call_len_seq (by rfl) T.m_len (by decide +kernel) (pa_cons (pv 0) pa_nil)) pa_nil))) pa_nil)) (pg_name (i := 2) sc_law_draws.nd rfl (.inl rfl))
        (pss_cons (ps_set (i := 3) sc_law_draws.nd rfl (.inl rfl) (pe_callB call_abs (by rfl) T.m_abs (by decide +kernel) (pa_cons (pe_ix ix_list (pv 0) (pv 2) (fun _ _ => rfl)) pa_nil)))
        (pss_one (ps_if (pt_cmpR op_ge (pv 3) (pe_op op_pow pe_int pe_int) (nomark _))
          (pss_one (ps_for PassesOwn.never rfl (pi_range1 (by rfl) T.m_range (pa_cons pe_int pa_nil)) (pg_name (i := 4) sc_law_draws.nd rfl (.inl rfl))
            (pss_one (ps_if (pt_cmpR op_gt (pv 3) pe_int (nomark _))
              (pss_cons (ps_expr (pe_bm PySem.F.plainAttrs_list PySem.F.slot_list_append PySem.F.type_list_append mt_append (pv 1) (pa_cons (pe_op op_mod (pe_callTy call_int1 (by rfl) T.m_int (by decide +kernel) (pa_cons (pv 3) pa_nil)) pe_int) pa_nil)))
              (pss_one (ps_set (i := 3) sc_law_draws.nd rfl (.inl rfl) (pe_op op_fdiv (pv 3) pe_int))))
              pss_nil))))
          (pss_cons (ps_set (i := 5) sc_law_draws.nd rfl (.inl rfl) (pe_op op_mod (pe_callTy call_int1 (by rfl) T.m_int (by decide +kernel) (pa_cons (pe_op op_add (pe_op op_mul (pv 3) pe_int) (pe_op op_mul (pe_op op_add (pv 2) pe_int) pe_int)) pa_nil)) pe_int))
          (pss_cons (ps_set (i := 5) sc_law_draws.nd rfl (.inl rfl) (pe_op op_mod (pe_callTy call_int1 (by rfl) T.m_int (by decide +kernel) (pa_cons (pe_op op_add (pe_op op_add (pe_op op_mul (pv 5) pe_int) (pe_op op_mul pe_int (pv 2))) pe_int) pa_nil)) pe_int))
          (pss_cons (ps_expr (pe_bm PySem.F.plainAttrs_list PySem.F.slot_list_append PySem.F.type_list_append mt_append (pv 1) (pa_cons (pe_op op_mod (pe_callTy call_int1 (by rfl) T.m_int (by decide +kernel) (pa_cons (pv 5) pa_nil)) pe_int) pa_nil)))
          (pss_one (ps_expr (pe_bm PySem.F.plainAttrs_list PySem.F.slot_list_append PySem.F.type_list_append mt_append (pv 1) (pa_cons (pe_op op_mod (pe_callTy call_int1 (by rfl) T.m_int (by decide +kernel) (pa_cons (pe_op op_fdiv (pv 5) pe_int) pa_nil)) pe_int) pa_nil)))))))))))
      (pss_one (ps_ret (pv 1))))), ?_⟩
    refine ⟨Nat.zero_le _, fun p hp => ?_⟩
    have s0 := same_upd (o := .lst []) hp
    obtain ⟨L, hL, eL⟩ : ∃ L : Nat, L ≤ ns.length ∧ L ≤ 63 ∧ (if ((ns.map V.int).length : Int) < 63 then ((ns.map V.int).length : Int) else 63) = (L : Int) := by
      refine ⟨min ns.length 63, Nat.min_le_left _ _, Nat.min_le_right _ _, ?_⟩
      rw [List.length_map]
      split <;> omega
    refine ⟨.ref a, rfl, a, _, rfl, .inl (s0.seq ha), 63, _, rfl, (L : Int), congrArg (fun z => [V.int z]) eL.2, by omega, by omega, ?_⟩
    refine for_range (n := (L : Int).toNat) (lo := 0) (fun i σ H' => Same H H' ∧ ∃ ds v2 v3 v4 v5, σ = [some (.ref a), some (.ref p), v2, v3, v4, v5] ∧ IL H' p ds ∧ ds.length ≤ 60 * i) ⟨s0, [], none, none, none, none, rfl, upd_same, Nat.zero_le _⟩ (fun i σ H' hi hP => ?_) (fun σ H' hP => ?_)
    · obtain ⟨sm, ds, v2, v3, v4, v5, rfl, hd, hn⟩ := hP
      have hi' : i < ns.length := by omega
      refine ⟨.ref a, rfl, _, rfl, a, _, _, _, rfl, rfl, sm.seq ha, at_map' (m := i) (by omega) hi', _, rfl, ?_⟩
      obtain ⟨r, hr1, er⟩ : ∃ r : Int, 0 ≤ r ∧ (if cf ns i < 0 then -cf ns i else cf ns i) = r := ⟨_, by split <;> omega, rfl⟩
      rw [er]
      refine ⟨_, rfl, _, _, rfl, rfl, ⟨by decide, by decide, by decide⟩, _, _, rfl, rfl, _, rfl, ?_⟩
      refine ite2 (fun _ => ?_) (fun hlt => ?_)
      · refine ⟨60, rfl, by decide, by decide, ?_⟩
        refine for_range (n := 60) (lo := 0) (fun j σ H' => Same H H' ∧ ∃ ds v2 v4 v5 r, σ = [some (.ref a), some (.ref p), v2, some (.int r), v4, v5] ∧ 0 ≤ r ∧ IL H' p ds ∧ ds.length ≤ 60 * i + j) ⟨sm, ds, _, _, _, r, rfl, hr1, hd, hn⟩ (fun j σ H' hj hP => ?_) (fun σ H' hP => ?_)
        · obtain ⟨sm, ds, v2, v4, v5, r, rfl, hr1, hd, hn⟩ := hP
          refine ⟨_, rfl, _, _, rfl, rfl, _, rfl, ?_⟩
          refine ite2 (fun _ => ?_) (fun _ => ⟨sm, ds, _, _, _, r, rfl, hr1, hd, by omega⟩)
          refine ⟨.ref p, rfl, .inl ⟨rfl, _, hd.sq⟩, _, rfl, .inl ⟨_, rfl, _, _, rfl, rfl, (by show (0 : Int) < _; decide), p, _, _, rfl, rfl, hd, by rw [List.length_map]; exact small' (by omega), ?_⟩⟩
          rw [app_ints]
          refine ⟨_, rfl, _, _, rfl, rfl, ⟨by decide, by decide⟩, ?_⟩
          exact ⟨same_over sm hp, _, _, _, _, _, rfl, by omega, il_upd, by rw [List.length_append]; show _ + 1 ≤ _; omega⟩
        · obtain ⟨sm, ds, v2, v4, v5, r, rfl, hr1, hd, hn⟩ := hP
          exact ⟨sm, ds, _, _, _, _, rfl, hd, by omega⟩
      · have hr2 : r < 10 ^ 18 := by
          have e : ((10 : Int) ^ (18 : Int).toNat) = 10 ^ 18 := rfl
          rw [e] at hlt
          have := of_decide_eq_false (Bool.eq_false_iff.mpr hlt)
          omega
        refine ⟨_, rfl, _, _, rfl, rfl, .inl ⟨by omega, by omega⟩, _, rfl, _, _, rfl, rfl, _, _, rfl, rfl, .inr ⟨by decide, by decide⟩, _, _, rfl, rfl, .inl ⟨_, rfl, _, _, rfl, rfl, (by show (0 : Int) < _; decide), ?_⟩⟩
        refine ⟨_, rfl, _, _, rfl, rfl, .inr ⟨by decide, by decide⟩, _, rfl, _, _, rfl, rfl, .inl ⟨by decide, by decide⟩, _, _, rfl, rfl, _, _, rfl, rfl, .inl ⟨_, rfl, _, _, rfl, rfl, (by show (0 : Int) < _; decide), ?_⟩⟩
        refine ⟨.ref p, rfl, .inl ⟨rfl, _, hd.sq⟩, _, rfl, .inl ⟨_, rfl, _, _, rfl, rfl, (by show (0 : Int) < _; decide), p, _, _, rfl, rfl, hd, by rw [List.length_map]; exact small' (by omega), ?_⟩⟩
        rw [app_ints]
        refine ⟨.ref p, rfl, .inl ⟨rfl, _, il_upd.sq⟩, _, rfl, _, _, rfl, rfl, ⟨by decide, by decide⟩, .inl ⟨_, rfl, _, _, rfl, rfl, (by show (0 : Int) < _; decide), p, _, _, rfl, rfl, il_upd, by rw [List.length_map, List.length_append]; exact small' (by show _ + 1 < _; omega), ?_⟩⟩
        rw [app_ints]
        exact ⟨same_over (same_over sm hp) hp, _, _, _, _, _, rfl, il_upd, by rw [List.length_append, List.length_append]; show _ + 1 + 1 ≤ _; omega⟩
    · obtain ⟨sm, ds, v2, v3, v4, v5, rfl, hd, hn⟩ := hP
      exact ⟨_, rfl, q H' p ds sm hp hd (by omega)⟩
def sp_law_at : Sp := fun vs H Q _ => ∃ (a : Addr) (ds : List Int) (k many : Int), vs = [.ref a, .int k, .int many] ∧ IL H a ds ∧ 0 ≤ k ∧ 0 < many ∧ ∀ r, 0 ≤ r → r < many → Q (.int r) H
theorem ok_law_at (T : Txt K mg) : FnOk P w K mg base CX0 1 T.law_at.a T.law_at.fd ["draws", "k", "many"] sp_law_at := by
  refine T.law_at.F.ok sc_law_at (fun vs H Q E h => ?_) (fun cdv A outer s H vs Q E hr h => ?_)
  · obtain ⟨a, ds, k, m, rfl, _⟩ := h
    rfl
  · obtain ⟨a, ds, k, m, rfl, ha, hk, hm, q⟩ := h
    refine ⟨_, (pss_cons (ps_if (pt_cmpR op_lt (pv 1) (pe_callB call_len_seq (by rfl) T.m_len (by decide +kernel) (pa_cons (pv 0) pa_nil)) (nomark _))
        (pss_one (ps_ret (pe_op op_mod (pe_callTy call_int1 (by rfl) T.m_int (by decide +kernel) (pa_cons (pe_ix ix_list (pv 0) (pv 1) (fun _ _ => rfl)) pa_nil)) (pv 2))))
        pss_nil)
      (pss_one (ps_ret pe_int))), ?_⟩
    refine ⟨_, rfl, .ref a, rfl, a, _, rfl, .inl ha.sq, _, _, rfl, rfl, _, rfl, ?_⟩
    rw [List.length_map]
    refine ite2 (fun h => ?_) (fun _ => ?_)
    · have hlt := of_decide_eq_true h
      refine ⟨.ref a, rfl, _, rfl, a, _, _, _, rfl, rfl, ha.sq, at_map' (m := k.toNat) (by omega) (by omega), .inl ⟨_, rfl, _, rfl, _, _, rfl, rfl, hm, ?_⟩⟩
      exact q _ (Int.emod_nonneg _ (by omega)) (Int.emod_lt_of_pos _ hm)
    · exact q 0 (Int.le_refl _) hm
theorem at_ex {α : Type} {xs : List α} {i : Int} (h0 : 0 ≤ i) (h1 : i < xs.length) : ∃ c, atI xs i = some c ∧ c ∈ xs := by
  obtain ⟨n, rfl⟩ : ∃ n : Nat, i = (n : Int) := ⟨i.toNat, by omega⟩
  have h : n < xs.length := by omega
  exact ⟨xs[n], atI_nat (by simp [h]), List.getElem_mem h⟩
def sp_law_is_integer : Sp := fun vs H Q _ => ∃ i : Int, vs = [.int i] ∧ Q (.bl true) H
theorem ok_law_is_integer (T : Txt K mg) : FnOk P w K mg base CX0 1 T.law_is_integer.a T.law_is_integer.fd ["actual"] sp_law_is_integer := by
  refine T.law_is_integer.F.ok sc_law_is_integer (fun vs H Q E h => ?_) (fun cdv A outer s H vs Q E hr h => ?_)
  · obtain ⟨i, rfl, _⟩ := h
    rfl
  · obtain ⟨i, rfl, q⟩ := h
    refine ⟨_, (pss_one (ps_ret (pe_and (pe_callB call_isi (by rfl) T.m_isinstance (by decide +kernel) (pa_cons (pv 0) (pa_cons (pe_bltn (v := .ty "int") (by rfl) T.m_int (by decide +kernel) rfl) pa_nil))) (pe_one (pe_not (pe_callB call_isi (by rfl) T.m_isinstance (by decide +kernel) (pa_cons (pv 0) (pa_cons (pe_bltn (v := .ty "bool") (by rfl) T.m_bool (by decide +kernel) rfl) pa_nil)))))))), ?_⟩
    refine ⟨_, rfl, _, _, _, _, _, rfl, .ty "int", .base (.int i), kit_ty (by decide +kernel), true, rfl, ?_⟩
    exact iteT ⟨_, rfl, _, _, _, _, _, rfl, .ty "bool", .base (.int i), kit_ty (by decide +kernel), false, rfl, q⟩
end
end K03
-- S3
namespace K03
open PySem PySem.Spec PyProof.Rows L2
open K00 (cf pval Can pmul)
open DP (Po)
/-- a factor of the menu -/
def Ft (ns : List Int) : Prop := Can ns ∧ ns.length ≤ 2 ∧ ∀ m, (cf ns m).natAbs ≤ 47
theorem ft2 {a b : Int} (ha : a.natAbs ≤ 47) (hb : b.natAbs ≤ 47) (h : b ≠ 0) : Ft [a, b] := by
  refine ⟨.inr h, Nat.le_refl _, fun m => ?_⟩
  match m with
  | 0 => exact ha
  | 1 => exact hb
  | m + 2 => exact Nat.zero_le _
theorem ft1 {a : Int} (ha : a.natAbs ≤ 47) (h : a ≠ 0) : Ft [a] := by
  refine ⟨.inr h, by show 1 ≤ 2; decide, fun m => ?_⟩
  match m with
  | 0 => exact ha
  | m + 1 => exact Nat.zero_le _
theorem Ft.bd {ns : List Int} (h : Ft ns) : Bd ns := fun m => Nat.lt_of_le_of_lt (h.2.2 m) (by decide)
section
variable {P : Program} {w : World} {K : PySem.W.Frag} {mg : Str → Option Value} {base : Heap}
def OutPo (H : Hp) (Q : VK) : Prop := ∀ H' q ns, Same H H' → H q = none → IL H' q ns → Po (2 ^ 32) ns → Q (.ref q) H'
def sp_law_menu : Sp := fun vs H Q _ => ∃ cell : Int, vs = [.int cell] ∧ OutPo H Q
theorem ok_law_menu (T : Txt K mg) : FnOk P w K mg base CX0 3 T.law_menu.a T.law_menu.fd ["cell"] sp_law_menu := by
  refine T.law_menu.F.ok sc_law_menu (fun vs H Q E h => ?_) (fun cdv A outer s H vs Q E hr h => ?_)
  · obtain ⟨cell, rfl, _⟩ := h
    rfl
  · obtain ⟨cell, rfl, q⟩ := h
    refine ⟨_, (pss_cons (ps_set (i := 1) sc_law_menu.nd rfl (.inl rfl) (pe_lst (pa_cons (pe_lst (pa_cons pe_int (pa_cons pe_int pa_nil))) (pa_cons (pe_lst (pa_cons (pe_un un_neg pe_int) (pa_cons pe_int pa_nil))) (pa_cons (pe_lst (pa_cons (pe_un un_neg pe_int) (pa_cons pe_int pa_nil))) (pa_cons (pe_lst (pa_cons pe_int (pa_cons pe_int pa_nil))) (pa_cons (pe_lst (pa_cons (pe_un un_neg pe_int) (pa_cons pe_int pa_nil))) (pa_cons (pe_lst (pa_cons pe_int pa_nil)) (pa_cons (pe_lst (pa_cons pe_int pa_nil)) pa_nil)))))))))
      (pss_cons (ps_if (pt_cmpR op_eq (pe_op op_mod (pe_callTy call_int1 (by rfl) T.m_int (by decide +kernel) (pa_cons (pv 0) pa_nil)) pe_int) pe_int (nomark _))
        (pss_one (ps_ret (pe_lst pa_nil)))
        pss_nil)
      (pss_one (ps_ret (pe_call (ok_law_times T) (hr.mono (by decide)) (by rfl) T.law_times.g T.law_times.F.kp T.law_times.b .nil pass0 (pa_cons (pe_ix ix_list (pv 1) (pe_op op_mod (pe_callTy call_int1 (by rfl) T.m_int (by decide +kernel) (pa_cons (pe_op op_fdiv (pv 0) pe_int) pa_nil)) pe_int) (fun _ _ => rfl)) (pa_cons (pe_ix ix_list (pv 1) (pe_op op_mod (pe_callTy call_int1 (by rfl) T.m_int (by decide +kernel) (pa_cons (pe_op op_fdiv (pv 0) pe_int) pa_nil)) pe_int) (fun _ _ => rfl)) pa_nil))))))), ?_⟩
    have s0 : Same H H := Same.refl _
    refine ⟨by show 2 ≤ sizeLine; decide, fun p1 n1 => ?_⟩
    have s1 := s0.trans (same_upd n1 (o := .lst [.int (0), .int (1)]))
    have h1 : IL (upd H p1 (.lst [.int (0), .int (1)])) p1 [0, 1] := upd_same
    generalize upd H p1 _ = G1 at s1 h1
    refine ⟨_, rfl, by show 2 ≤ sizeLine; decide, fun p2 n2 => ?_⟩
    have s2 := s1.trans (same_upd n2 (o := .lst [.int (-1), .int (1)]))
    have h1 := h1.same (same_upd n2 (o := .lst [.int (-1), .int (1)]))
    have h2 : IL (upd G1 p2 (.lst [.int (-1), .int (1)])) p2 [-1, 1] := upd_same
    generalize upd G1 p2 _ = G2 at s2 h1 h2
    refine ⟨_, rfl, by show 2 ≤ sizeLine; decide, fun p3 n3 => ?_⟩
    have s3 := s2.trans (same_upd n3 (o := .lst [.int (-2), .int (1)]))
    have h1 := h1.same (same_upd n3 (o := .lst [.int (-2), .int (1)]))
    have h2 := h2.same (same_upd n3 (o := .lst [.int (-2), .int (1)]))
    have h3 : IL (upd G2 p3 (.lst [.int (-2), .int (1)])) p3 [-2, 1] := upd_same
    generalize upd G2 p3 _ = G3 at s3 h1 h2 h3
    refine ⟨by show 2 ≤ sizeLine; decide, fun p4 n4 => ?_⟩
    have s4 := s3.trans (same_upd n4 (o := .lst [.int (1), .int (1)]))
    have h1 := h1.same (same_upd n4 (o := .lst [.int (1), .int (1)]))
    have h2 := h2.same (same_upd n4 (o := .lst [.int (1), .int (1)]))
    have h3 := h3.same (same_upd n4 (o := .lst [.int (1), .int (1)]))
    have h4 : IL (upd G3 p4 (.lst [.int (1), .int (1)])) p4 [1, 1] := upd_same
    generalize upd G3 p4 _ = G4 at s4 h1 h2 h3 h4
    refine ⟨_, rfl, by show 2 ≤ sizeLine; decide, fun p5 n5 => ?_⟩
    have s5 := s4.trans (same_upd n5 (o := .lst [.int (-3), .int (2)]))
    have h1 := h1.same (same_upd n5 (o := .lst [.int (-3), .int (2)]))
    have h2 := h2.same (same_upd n5 (o := .lst [.int (-3), .int (2)]))
    have h3 := h3.same (same_upd n5 (o := .lst [.int (-3), .int (2)]))
    have h4 := h4.same (same_upd n5 (o := .lst [.int (-3), .int (2)]))
    have h5 : IL (upd G4 p5 (.lst [.int (-3), .int (2)])) p5 [-3, 2] := upd_same
    generalize upd G4 p5 _ = G5 at s5 h1 h2 h3 h4 h5
    refine ⟨by show 1 ≤ sizeLine; decide, fun p6 n6 => ?_⟩
    have s6 := s5.trans (same_upd n6 (o := .lst [.int (1)]))
    have h1 := h1.same (same_upd n6 (o := .lst [.int (1)]))
    have h2 := h2.same (same_upd n6 (o := .lst [.int (1)]))
    have h3 := h3.same (same_upd n6 (o := .lst [.int (1)]))
    have h4 := h4.same (same_upd n6 (o := .lst [.int (1)]))
    have h5 := h5.same (same_upd n6 (o := .lst [.int (1)]))
    have h6 : IL (upd G5 p6 (.lst [.int (1)])) p6 [1] := upd_same
    generalize upd G5 p6 _ = G6 at s6 h1 h2 h3 h4 h5 h6
    refine ⟨by show 1 ≤ sizeLine; decide, fun p7 n7 => ?_⟩
    have s7 := s6.trans (same_upd n7 (o := .lst [.int (1)]))
    have h1 := h1.same (same_upd n7 (o := .lst [.int (1)]))
    have h2 := h2.same (same_upd n7 (o := .lst [.int (1)]))
    have h3 := h3.same (same_upd n7 (o := .lst [.int (1)]))
    have h4 := h4.same (same_upd n7 (o := .lst [.int (1)]))
    have h5 := h5.same (same_upd n7 (o := .lst [.int (1)]))
    have h6 := h6.same (same_upd n7 (o := .lst [.int (1)]))
    have h7 : IL (upd G6 p7 (.lst [.int (1)])) p7 [1] := upd_same
    generalize upd G6 p7 _ = G7 at s7 h1 h2 h3 h4 h5 h6 h7
    refine ⟨by show 7 ≤ sizeLine; decide, fun r nr => ?_⟩
    have s8 := s7.trans (same_upd nr (o := .lst [V.ref p1, V.ref p2, V.ref p3, V.ref p4, V.ref p5, V.ref p6, V.ref p7]))
    have all7 : ∀ c ∈ [V.ref p1, V.ref p2, V.ref p3, V.ref p4, V.ref p5, V.ref p6, V.ref p7], ∃ p ns, c = V.ref p ∧ IL (upd G7 r (.lst [V.ref p1, V.ref p2, V.ref p3, V.ref p4, V.ref p5, V.ref p6, V.ref p7])) p ns ∧ Ft ns := fun c hc => by
      have sr := same_upd nr (o := .lst [V.ref p1, V.ref p2, V.ref p3, V.ref p4, V.ref p5, V.ref p6, V.ref p7])
      rcases List.mem_cons.mp hc with rfl | hc
      · exact ⟨p1, _, rfl, h1.same sr, ft2 (by decide) (by decide) (by decide)⟩
      rcases List.mem_cons.mp hc with rfl | hc
      · exact ⟨p2, _, rfl, h2.same sr, ft2 (by decide) (by decide) (by decide)⟩
      rcases List.mem_cons.mp hc with rfl | hc
      · exact ⟨p3, _, rfl, h3.same sr, ft2 (by decide) (by decide) (by decide)⟩
      rcases List.mem_cons.mp hc with rfl | hc
      · exact ⟨p4, _, rfl, h4.same sr, ft2 (by decide) (by decide) (by decide)⟩
      rcases List.mem_cons.mp hc with rfl | hc
      · exact ⟨p5, _, rfl, h5.same sr, ft2 (by decide) (by decide) (by decide)⟩
      rcases List.mem_cons.mp hc with rfl | hc
      · exact ⟨p6, _, rfl, h6.same sr, ft1 (by decide) (by decide)⟩
      rw [List.mem_singleton.mp hc]
      exact ⟨p7, _, rfl, h7.same sr, ft1 (by decide) (by decide)⟩
    have hr0 : upd G7 r (.lst [V.ref p1, V.ref p2, V.ref p3, V.ref p4, V.ref p5, V.ref p6, V.ref p7]) r = some (.lst [V.ref p1, V.ref p2, V.ref p3, V.ref p4, V.ref p5, V.ref p6, V.ref p7]) := upd_same
    generalize upd G7 r _ = G8 at s8 all7 hr0
    refine ⟨_, rfl, .inl ⟨_, rfl, _, _, rfl, rfl, (by show (0 : Int) < _; decide), rfl, _, rfl, ite2 (fun _ => ?_) (fun _ => ?_)⟩⟩
    · refine ⟨Nat.zero_le _, fun e ne => ?_⟩
      exact q _ e [] (s8.trans (same_upd ne)) (s8.free ne) upd_same (Po.nil _)
    have ix : ∀ y : Int, ∃ p ns, atI [V.ref p1, V.ref p2, V.ref p3, V.ref p4, V.ref p5, V.ref p6, V.ref p7] (y % 7) = some (V.ref p) ∧ IL G8 p ns ∧ Ft ns := fun y => by
      obtain ⟨c, h1, h2⟩ := at_ex (xs := [V.ref p1, V.ref p2, V.ref p3, V.ref p4, V.ref p5, V.ref p6, V.ref p7]) (i := y % 7) (Int.emod_nonneg _ (by decide)) (Int.emod_lt_of_pos _ (by decide))
      obtain ⟨p, ns, rfl, h3, h4⟩ := all7 c h2
      exact ⟨p, ns, h1, h3, h4⟩
    obtain ⟨pa, na, ia, ha, fa⟩ := ix (cell / 5)
    obtain ⟨pb, nb, ib, hb, fb⟩ := ix (cell / 35)
    refine ⟨.ref r, rfl, _, rfl, _, _, rfl, rfl, ⟨by decide, by decide⟩, .inl ⟨_, rfl, _, _, rfl, rfl, (by show (0 : Int) < _; decide), r, _, _, _, rfl, rfl, .of hr0, ia, ?_⟩⟩
    refine ⟨.ref r, rfl, _, rfl, _, _, rfl, rfl, ⟨by decide, by decide⟩, .inl ⟨_, rfl, _, _, rfl, rfl, (by show (0 : Int) < _; decide), r, _, _, _, rfl, rfl, .of hr0, ib, ?_⟩⟩
    refine ⟨pa, pb, na, nb, rfl, ha, hb, Nat.le_trans fa.2.1 (by decide), Nat.le_trans fb.2.1 (by decide), fa.bd, fb.bd, fun H' p s' np hp => ?_⟩
    refine q H' p _ (s8.trans s') (s8.free np) hp ⟨K00.can_pmul _ _, ?_, fun m => ?_⟩
    · have := DP.pmul_len1 na nb
      have := fa.2.1
      have := fb.2.1
      omega
    · have h1 := DP.pmul_bound fa.2.2 fb.2.2 m
      have h2 : na.length * (47 * 47) ≤ 2 * (47 * 47) := Nat.mul_le_mul_right _ fa.2.1
      omega
def sp_law_deep : Sp := fun vs H Q _ => ∃ (a : Addr) (ds : List Int) (n : Nat), vs = [.ref a, .int (n : Nat)] ∧ IL H a ds ∧ n ≤ 12 ∧ ∀ H' q ps, Same H H' → ps.length = n → RowL H' q ps → (∀ e ∈ ps, Po (2 ^ 32) e) → Q (.ref q) H'
theorem ok_law_deep (T : Txt K mg) : FnOk P w K mg base CX0 3 T.law_deep.a T.law_deep.fd ["draws", "many"] sp_law_deep := by
  refine T.law_deep.F.ok sc_law_deep (fun vs H Q E h => ?_) (fun cdv A outer s H vs Q E hr h => ?_)
  · obtain ⟨a, ds, n, rfl, _⟩ := h
    rfl
  · obtain ⟨a, ds, n, rfl, ha, hn, q⟩ := h
    refine ⟨_, (pss_cons (ps_set (i := 2) sc_law_deep.nd rfl (.inl rfl) (pe_call (ok_law_at T) (hr.mono (by decide)) (by rfl) T.law_at.g T.law_at.F.kp T.law_at.b .nil pass0 (pa_cons (pv 0) (pa_cons pe_int (pa_cons (pe_op op_add (pe_op op_mul pe_int (pv 1)) pe_int) pa_nil)))))
      (pss_cons (ps_set (i := 3) sc_law_deep.nd rfl (.inl rfl) (pe_lst pa_nil))
      (pss_cons (ps_for PassesOwn.never rfl (pi_range1 (by rfl) T.m_range (pa_cons (pv 1) pa_nil)) (pg_name (i := 4) sc_law_deep.nd rfl (.inl rfl))
        (pss_cons (ps_set (i := 5) sc_law_deep.nd rfl (.inl rfl) (pe_lst (pa_cons (pe_ix ix_list (pe_lst (pa_cons pe_int (pa_cons (pe_un un_neg pe_int) (pa_cons pe_int pa_nil)))) (pe_call (ok_law_at T) (hr.mono (by decide)) (by rfl) T.law_at.g T.law_at.F.kp T.law_at.b .nil pass0 (pa_cons (pv 0) (pa_cons (pe_op op_add pe_int (pv 4)) (pa_cons pe_int pa_nil)))) (fun _ _ => rfl)) pa_nil)))
        (pss_cons (ps_for PassesOwn.never rfl (pi_range2 (by rfl) T.m_range (pa_cons (pe_op op_mul pe_int (pv 4)) (pa_cons (pe_op op_add (pe_op op_mul pe_int (pv 4)) pe_int) pa_nil))) (pg_name (i := 6) sc_law_deep.nd rfl (.inl rfl))
          (pss_one (ps_set (i := 5) sc_law_deep.nd rfl (.inl rfl) (pe_call (ok_law_times T) (hr.mono (by decide)) (by rfl) T.law_times.g T.law_times.F.kp T.law_times.b .nil pass0 (pa_cons (pv 5) (pa_cons (pe_ix ix_list (pe_lst (pa_cons (pe_lst (pa_cons (pe_un un_neg (pv 6)) (pa_cons pe_int pa_nil))) (pa_cons (pe_lst (pa_cons pe_int (pa_cons pe_int pa_nil))) pa_nil))) (pe_callTy call_int1 (by rfl) T.m_int (by decide +kernel) (pa_cons (pe_cmpR op_eq (pv 6) (pv 2) (nomark _)) pa_nil)) (fun _ _ => rfl)) pa_nil))))))
        (pss_one (ps_expr (pe_bm PySem.F.plainAttrs_list PySem.F.slot_list_append PySem.F.type_list_append mt_append (pv 3) (pa_cons (pv 5) pa_nil)))))))
      (pss_one (ps_ret (pv 3)))))), ?_⟩
    refine ⟨.ref a, rfl, _, rfl, _, _, rfl, rfl, .inl ⟨by decide, by decide⟩, _, _, rfl, rfl, a, ds, 40, _, rfl, ha, by decide, by omega, fun lost _ _ => ?_⟩
    refine ⟨Nat.zero_le _, fun q0 nq0 => ?_⟩
    have s0 := same_upd nq0 (o := .lst [])
    refine ⟨_, rfl, (n : Nat), rfl, by omega, by omega, ?_⟩
    rw [Int.toNat_natCast]
    refine for_range (n := n) (lo := 0) (fun k σ G => Same H G ∧ ∃ (ps : List (List Int)) (es : List Addr) (x4 x5 x6 : Option V), σ = [some (.ref a), some (.int (n : Nat)), some (.int lost), some (.ref q0), x4, x5, x6] ∧ G q0 = some (.lst (es.map V.ref)) ∧ A2 (fun e p => e ≠ q0 ∧ IL G e p) es ps ∧ ps.length = k ∧ ∀ e ∈ ps, Po (2 ^ 32) e) ⟨s0, [], [], _, _, _, rfl, upd_same, .nil, rfl, fun _ z => by cases z⟩ (fun k σ G hk hP => ?_) (fun σ G hP => ?_)
    · obtain ⟨sm, ps, es, x4, x5, x6, rfl, hq0, hE, lp, po⟩ := hP
      rw [Int.zero_add]
      refine ⟨_, rfl, by show 3 ≤ sizeLine; decide, fun l nl => ?_⟩
      have sl := same_upd nl (o := .lst [V.int 1, V.int (-1), V.int 2])
      refine ⟨.ref a, rfl, _, rfl, _, _, rfl, rfl, a, ds, _, 3, rfl, (ha.same sm).same sl, by omega, by decide, fun r r0 r1 => ?_⟩
      obtain ⟨c, hc, fc⟩ : ∃ c : Int, atI [V.int 1, V.int (-1), V.int 2] r = some (.int c) ∧ c.natAbs ≤ 2 ∧ c ≠ 0 := by
        obtain rfl | rfl | rfl : r = 0 ∨ r = 1 ∨ r = 2 := by omega
        · exact ⟨1, rfl, by decide, by decide⟩
        · exact ⟨-1, rfl, by decide, by decide⟩
        · exact ⟨2, rfl, by decide, by decide⟩
      refine ⟨l, _, _, _, rfl, rfl, .of upd_same, hc, by show 1 ≤ sizeLine; decide, fun p np => ?_⟩
      have s1 := sl.trans (same_upd np (o := .lst [V.int c]))
      have hp : IL (upd (upd G l (.lst [V.int 1, V.int (-1), V.int 2])) p (.lst [V.int c])) p [c] := upd_same
      have pq : p ≠ q0 := fun z => by rw [z, sl _ _ hq0] at np; cases np
      generalize upd (upd G l _) p _ = G1 at s1 hp
      refine ⟨_, rfl, _, _, rfl, rfl, .inl ⟨by decide, by decide⟩, _, rfl, _, _, rfl, rfl, .inl ⟨by decide, by decide⟩, _, _, rfl, rfl, _, _, rfl, ⟨by omega, by omega, by omega, by omega⟩, ?_⟩
      refine for_range (n := (4 * ((k : Nat) : Int) + 4 - 4 * ((k : Nat) : Int)).toNat) (lo := 4 * ((k : Nat) : Int)) (fun j σ G2 => Same G G2 ∧ ∃ (p : Addr) (ns : List Int) (x6 : Option V), σ = [some (.ref a), some (.int (n : Nat)), some (.int lost), some (.ref q0), some (.int (k : Nat)), some (.ref p), x6] ∧ p ≠ q0 ∧ IL G2 p ns ∧ Can ns ∧ ns.length ≤ j + 1 ∧ ∀ m, (cf ns m).natAbs ≤ 2 * 200 ^ j)
        ⟨s1, p, [c], _, rfl, pq, hp, .inr fc.2, Nat.le_refl _, fun m => ?_⟩ (fun j σ G2 hj hP2 => ?_) (fun σ G2 hP2 => ?_)
      · match m with
        | 0 => exact fc.1
        | m + 1 => exact Nat.zero_le _
      · obtain ⟨s2, p, ns, y6, rfl, pq, hp, can, ln, bd⟩ := hP2
        have hj4 : j < 4 := by omega
        have B : 2 * 200 ^ j ≤ 2 * 200 ^ 3 := Nat.mul_le_mul_left _ (Nat.pow_le_pow_right (by decide) (by omega))
        refine ⟨.ref p, rfl, _, rfl, _, rfl, by show 2 ≤ sizeLine; decide, fun u1 nu1 => ?_⟩
        have t1 := same_upd nu1 (o := .lst [V.int (-(4 * ((k : Nat) : Int) + (j : Int))), V.int 1])
        have hu1 : IL (upd G2 u1 (.lst [V.int (-(4 * ((k : Nat) : Int) + (j : Int))), V.int 1])) u1 [-(4 * ((k : Nat) : Int) + (j : Int)), 1] := upd_same
        generalize upd G2 u1 _ = G3 at t1 hu1
        refine ⟨by show 2 ≤ sizeLine; decide, fun u2 nu2 => ?_⟩
        have t2 := t1.trans (same_upd nu2 (o := .lst [V.int 1, V.int 1]))
        have hu1' := hu1.same (same_upd nu2 (o := .lst [V.int 1, V.int 1]))
        have hu2 : IL (upd G3 u2 (.lst [V.int 1, V.int 1])) u2 [1, 1] := upd_same
        generalize upd G3 u2 _ = G4 at t2 hu1' hu2
        refine ⟨by show 2 ≤ sizeLine; decide, fun u3 nu3 => ?_⟩
        have t3 := t2.trans (same_upd nu3 (o := .lst [V.ref u1, V.ref u2]))
        have hu1'' := hu1'.same (same_upd nu3 (o := .lst [V.ref u1, V.ref u2]))
        have hu2' := hu2.same (same_upd nu3 (o := .lst [V.ref u1, V.ref u2]))
        have hu3 : upd G4 u3 (.lst [V.ref u1, V.ref u2]) u3 = some (.lst [V.ref u1, V.ref u2]) := upd_same
        generalize upd G4 u3 _ = G5 at t3 hu1'' hu2' hu3
        refine ⟨_, rfl, _, rfl, rfl, .inr ⟨_, rfl, ?_⟩⟩
        obtain ⟨v, ms, hat, hms, fm⟩ : ∃ v ms, atI [V.ref u1, V.ref u2] (if decide (V.int (4 * ((k : Nat) : Int) + (j : Int)) = V.int lost) = true then (1 : Int) else 0) = some (.ref v) ∧ IL G5 v ms ∧ Ft ms := by
          split
          · exact ⟨u2, _, rfl, hu2', ft2 (by decide) (by decide) (by decide)⟩
          · exact ⟨u1, _, rfl, hu1'', ft2 (by omega) (by decide) (by decide)⟩
        have bns : Bd ns := fun m => Nat.lt_of_le_of_lt (Nat.le_trans (bd m) B) (by decide)
        refine ⟨u3, _, _, _, rfl, rfl, .of hu3, hat, p, v, ns, ms, rfl, hp.same t3, hms, by omega, Nat.le_trans fm.2.1 (by decide), bns, fm.bd, fun H' p2 s' np2 hp2 => ?_⟩
        refine ⟨s2.trans (t3.trans s'), p2, _, _, rfl, fun z => ?_, hp2, K00.can_pmul _ _, ?_, fun m => ?_⟩
        · rw [z, t3 _ _ (s2 _ _ hq0)] at np2; cases np2
        · have := DP.pmul_len1 ns ms
          have := fm.2.1
          omega
        · have h1 := DP.pmul_bound bd fm.2.2 m
          have h2 : ns.length * (2 * 200 ^ j * 47) ≤ 4 * (2 * 200 ^ j * 47) := Nat.mul_le_mul_right _ (by omega)
          rw [Nat.pow_succ]
          omega
      · obtain ⟨s2, p, ns, y6, rfl, pq, hp, can, ln, bd⟩ := hP2
        rw [show (4 * ((k : Nat) : Int) + 4 - 4 * ((k : Nat) : Int)).toNat = 4 by omega] at ln bd
        have hq2 := s2 _ _ hq0
        have le : es.length = ps.length := hE.len
        refine ⟨.ref q0, rfl, .inl ⟨rfl, _, .of hq2⟩, _, rfl, q0, _, _, rfl, rfl, hq2, by rw [List.length_map]; exact small' (by omega), ?_⟩
        have el : es.map V.ref ++ [V.ref p] = (es ++ [p]).map V.ref := by rw [List.map_append]; rfl
        rw [el]
        refine ⟨same_over (sm.trans s2) nq0, ps ++ [ns], es ++ [p], _, _, _, rfl, upd_same, A2.snoc ⟨pq, (upd_ne pq).trans hp⟩ (hE.mono fun b y z => ⟨z.1, (upd_ne z.1).trans (z.2.same s2)⟩), by rw [List.length_append, lp]; rfl, fun e he => ?_⟩
        rcases List.mem_append.mp he with z | z
        · exact po e z
        · rw [List.mem_singleton.mp z]
          exact ⟨can, ln, fun m => Nat.le_trans (bd m) (by decide)⟩
    · obtain ⟨sm, ps, es, x4, x5, x6, rfl, hq0, hE, lp, po⟩ := hP
      exact ⟨_, rfl, q G q0 ps sm lp ⟨es, hq0, hE.mono fun _ _ z => z.2⟩ po⟩
end
end K03
-- T3
namespace K03
open PySem PySem.Spec PyProof.Rows L2
open K00 (cf trim padd pmul conv cf_lt cf_ge cf_some at_cf cf_trim can_trim trim_len take_trim cf_take padd_of pmul_of padd_nil padd_len cf_padd cf_pmul can_padd can_pmul trim_can Can can_ext conv_turn conv_out cf_shift cf_scale cf_map_range trim_eq can_iff pval pval_last pow_bound)
open DP (Po)
theorem A2.at {α β : Type} {R R' : α → β → Prop} {a : α} {y : β} (h1 : R' a y) (h2 : ∀ b z, b ≠ a → R b z → R' b z) : ∀ {as : List α} {bs : List β} {k : Nat}, as.Nodup → as[k]? = some a → A2 R as bs → A2 R' as (bs.set k y)
  | _, _, 0, nd, hk, .nil => by cases hk
  | _, _, k + 1, nd, hk, .nil => by cases hk
  | x :: as, _, 0, nd, hk, .cons h t => by
    cases hk
    obtain ⟨n1, n2⟩ := List.nodup_cons.mp nd
    refine .cons h1 ?_
    have : ∀ {as : List α} {bs : List β}, a ∉ as → A2 R as bs → A2 R' as bs := by
      intro as bs hn hA
      induction hA with
      | nil => exact .nil
      | cons hb _ ih =>
        rw [List.mem_cons] at hn
        exact .cons (h2 _ _ (fun z => hn (.inl z.symm)) hb) (ih fun z => hn (.inr z))
    exact this n1 t
  | x :: as, _, k + 1, nd, hk, .cons h t => by
    obtain ⟨n1, n2⟩ := List.nodup_cons.mp nd
    have hk' : as[k]? = some a := hk
    refine .cons (h2 _ _ (fun z => n1 (z ▸ List.mem_of_getElem? hk')) h) (A2.at h1 h2 n2 hk' t)
theorem nodup_set {α : Type} {E : α} : ∀ {as : List α} {k : Nat}, E ∉ as → as.Nodup → (as.set k E).Nodup
  | [], _, _, _ => .nil
  | x :: as, 0, h, nd => by
    obtain ⟨n1, n2⟩ := List.nodup_cons.mp nd
    exact List.nodup_cons.mpr ⟨fun z => h (List.mem_cons_of_mem _ z), n2⟩
  | x :: as, k + 1, h, nd => by
    obtain ⟨n1, n2⟩ := List.nodup_cons.mp nd
    refine List.nodup_cons.mpr ⟨fun z => ?_, nodup_set (fun z => h (List.mem_cons_of_mem _ z)) n2⟩
    rcases List.mem_or_eq_of_mem_set z with z | z
    · exact n1 z
    · exact h (z ▸ List.mem_cons_self)
theorem A2.at' {α β : Type} {R : α → β → Prop} {as : List α} {bs : List β} {k : Nat} {a : α} (h : A2 R as bs) (hk : as[k]? = some a) : ∃ b, bs[k]? = some b ∧ R a b := h.get hk
/-- a table of polynomials whose rows are lists of its own, each once; its elements are none of these -/
structure MP (H : Hp) (D : Addr) (G : Hp) (as : List Addr) (tab : DP.Tb) : Prop where
  sm : Same H G
  nD : H D = none
  hD : G D = some (.lst (as.map V.ref))
  hA : A2 (fun a row => H a = none ∧ a ≠ D ∧ ∃ es, G a = some (.lst (es.map V.ref)) ∧ A2 (fun e p => (e ≠ D ∧ e ∉ as) ∧ IL G e p) es row) as tab
  nd : as.Nodup
section
variable {H G G' : Hp} {D : Addr} {as : List Addr} {tab : DP.Tb}
theorem MP.same (h : MP H D G as tab) (s : Same G G') : MP H D G' as tab := ⟨h.sm.trans s, h.nD, s _ _ h.hD, h.hA.mono fun _ _ z => ⟨z.1, z.2.1, let ⟨es, x, y⟩ := z.2.2; ⟨es, s _ _ x, y.mono fun _ _ w => ⟨w.1, w.2.same s⟩⟩⟩, h.nd⟩
theorem MP.tbr (h : MP H D G as tab) : TbR G D tab := ⟨as, h.hD, h.hA.mono fun _ _ z => let ⟨es, x, y⟩ := z.2.2; ⟨es, x, y.mono fun _ _ w => w.2⟩⟩
theorem MP.len (h : MP H D G as tab) : as.length = tab.length := h.hA.len
theorem MP.row (h : MP H D G as tab) {k : Nat} {row : List (List Int)} (hk : tab[k]? = some row) : ∃ (a : Addr) (es : List Addr), atI (as.map V.ref) ((k : Nat) : Int) = some (.ref a) ∧ as[k]? = some a ∧ a ≠ D ∧ G a = some (.lst (es.map V.ref)) ∧ A2 (fun e p => (e ≠ D ∧ e ∉ as) ∧ IL G e p) es row := by
  obtain ⟨a, ha, _, n, es, x, y⟩ := h.hA.get' hk
  refine ⟨a, es, atI_nat ?_, ha, n, x, y⟩
  rw [List.getElem?_map, ha]
  rfl
/-- an element changed where its row stands -/
theorem MP.put (h : MP H D G as tab) {k j : Nat} {a e : Addr} {es : List Addr} {row : List (List Int)} {p : List Int} (hk : as[k]? = some a) (hr : tab[k]? = some row) (hes : G a = some (.lst (es.map V.ref))) (hE : A2 (fun e p => (e ≠ D ∧ e ∉ as) ∧ IL G e p) es row) (n1 : e ≠ D) (n2 : e ∉ as) (he : IL G e p) :
    MP H D (upd G a (.lst ((es.map V.ref).set j (.ref e)))) as (tab.set k (row.set j p)) := by
  have ma : a ∈ as := List.mem_of_getElem? hk
  obtain ⟨row0, _, hr0⟩ := h.hA.get hk
  have na := hr0.1
  have nD := hr0.2.1
  have up : ∀ {e : Addr} {p : List Int} {o : HO}, e ∉ as → IL G e p → IL (upd G a o) e p := fun {e p o} ne z => (upd_ne (a := a) (b := e) (fun y => ne (y.symm ▸ ma))).trans z
  refine ⟨same_over h.sm na, h.nD, (upd_ne nD.symm).trans h.hD, A2.at ⟨na, nD, es.set j e, by rw [upd_same, List.map_set], A2.set ⟨⟨n1, n2⟩, up n2 he⟩ (hE.mono fun b q z => ⟨z.1, up z.1.2 z.2⟩)⟩ (fun b r n w => ⟨w.1, w.2.1, let ⟨es2, x, y⟩ := w.2.2; ⟨es2, (upd_ne n).trans x, y.mono fun _ _ v => ⟨v.1, up v.1.2 v.2⟩⟩⟩) h.nd hk h.hA, h.nd⟩
/-- a new list as a row -/
theorem MP.new (h : MP H D G as tab) {k : Nat} {L : Addr} {es : List Addr} {row : List (List Int)} (s : Same G G') (nL : G L = none) (hL : G' L = some (.lst (es.map V.ref))) (hE : A2 (fun e p => (e ≠ D ∧ e ∉ as ∧ e ≠ L) ∧ IL G' e p) es row) :
    MP H D (upd G' D (.lst ((as.map V.ref).set k (.ref L)))) (as.set k L) (tab.set k row) := by
  have h2 := h.same s
  have LD : L ≠ D := fun z => by rw [z, h.hD] at nL; cases nL
  have memS : ∀ e, e ∉ as → e ≠ L → e ∉ as.set k L := fun e n1 n2 z => (List.mem_or_eq_of_mem_set z).elim n1 n2
  have old : ∀ a r, (H a = none ∧ a ≠ D ∧ ∃ es, G a = some (.lst (es.map V.ref)) ∧ A2 (fun e p => (e ≠ D ∧ e ∉ as) ∧ IL G e p) es r) →
      (H a = none ∧ a ≠ D ∧ ∃ es, upd G' D (.lst ((as.map V.ref).set k (.ref L))) a = some (.lst (es.map V.ref)) ∧ A2 (fun e p => (e ≠ D ∧ e ∉ as.set k L) ∧ IL (upd G' D (.lst ((as.map V.ref).set k (.ref L)))) e p) es r) := fun a r w => by
    obtain ⟨es2, x, y⟩ := w.2.2
    refine ⟨w.1, w.2.1, es2, (upd_ne w.2.1).trans (s _ _ x), y.mono fun e p v => ⟨⟨v.1.1, memS e v.1.2 fun z => ?_⟩, (upd_ne v.1.1).trans (v.2.same s)⟩⟩
    have v2 : G e = some _ := v.2
    rw [z, nL] at v2
    cases v2
  refine ⟨same_over h2.sm h.nD, h.nD, by rw [upd_same, List.map_set], A2.set ⟨h.sm.free nL, LD, es, (upd_ne LD).trans hL, hE.mono fun e p z => ⟨⟨z.1.1, memS e z.1.2.1 z.1.2.2⟩, (upd_ne z.1.1).trans z.2⟩⟩ (h.hA.mono old), nodup_set (fun z => ?_) h.nd⟩
  obtain ⟨row2, _, w⟩ := h.hA.mem L z
  obtain ⟨es2, x, _⟩ := w.2.2
  rw [nL] at x
  cases x
end
/-- factors -/
def Fa (f : List Int) : Prop := f.length ≤ 2 ∧ (∀ m, (cf f m).natAbs ≤ 3) ∧ ∃ c, atI (f.map V.int) (-1) = some (.int c)
theorem Fa.bd {f : List Int} (h : Fa f) : Bd f := fun m => Nat.lt_of_le_of_lt (h.2.1 m) (by decide)
theorem fa_of {e : Nat} {c : Int} (he : e ≤ 1) (hc : c.natAbs ≤ 3) : Fa (List.replicate e 0 ++ [c]) := by
  refine ⟨by rw [List.length_append, List.length_replicate]; show e + 1 ≤ 2; omega, fun m => ?_, c, by rw [List.map_append]; exact L2.atI_last _ _⟩
  rw [cf_shift]
  split
  · match m - e with
    | 0 => exact hc
    | k + 1 => exact Nat.zero_le _
  · exact Nat.zero_le _
theorem Po.bd {B : Nat} {e : List Int} (h : Po B e) (hB : B ≤ 7 ^ 16 * 2 ^ 32) : Bd e := fun m => Nat.lt_of_le_of_lt (Nat.le_trans (h.2.2 m) hB) (by decide)
def TSm (a : Addr) (R C : Nat) : TS := fun Dn σ G => ∃ (p : Addr) (ds : List Int) (ps : List (List Int)), σ = [some (.ref a), some (.int (R : Nat)), some (.int (C : Nat)), none, some (.ref p), none, none, none, none, none, none, none, none, none, none] ∧ IL G a ds ∧ RowL G p ps ∧ ps.length = min R C ∧ min R C ≤ 12 ∧ (∀ e ∈ ps, Po (2 ^ 32) e) ∧
  ∀ G' p' ps', Same G G' → RowL G' p' ps' → ps'.length = min R C → (∀ e ∈ ps', Po (2 ^ 32) e) → Dn.nx [some (.ref a), some (.int (R : Nat)), some (.int (C : Nat)), none, some (.ref p'), none, none, none, none, none, none, none, none, none, none] G'
/-- the second half of a turn -/
def TSe (a : Addr) (R C : Nat) : TS := fun Dn σ G => ∃ (H0 : Hp) (B : Nat) (P D F : Addr) (ps : List (List Int)) (tab : DP.Tb) (as : List Addr) (cell : Int) (f : List Int) (x3 x5 x6 x8 x11 x12 x13 x14 : Option V),
  σ = [some (.ref a), some (.int (R : Nat)), some (.int (C : Nat)), x3, some (.ref P), x5, x6, some (.ref D), x8, some (.int cell), some (.ref F), x11, x12, x13, x14] ∧ R ≤ 12 ∧ C ≤ 12 ∧ (0 < C → 0 < R) ∧ MP H0 D G as tab ∧ DP.Mp R C B ps tab ∧ B ≤ 7 ^ 15 * 2 ^ 32 ∧ IL G F f ∧ Fa f ∧
  ∀ G' as' tab' y5 y6 y11 y12, MP H0 D G' as' tab' → DP.Mp R C (7 * B) ps tab' → Dn.nx [some (.ref a), some (.int (R : Nat)), some (.int (C : Nat)), x3, some (.ref P), y5, y6, some (.ref D), x8, some (.int cell), some (.ref F), y11, y12, x13, x14] G'
theorem ps_via {X : Cx} {st : Stmt} {t t' : TS} (h : PS X st t) (f : ∀ D σ H, t' D σ H → t D σ H) : PS X st t' := ⟨fun pins s σ H D I z => h.run pins s σ H D I (f D σ H z)⟩
theorem dgr_nil (c i : Nat) : DP.dgr ([] : List Int) c i [] = (List.range c).map fun _ => [] := by
  unfold DP.dgr
  refine List.map_congr_left fun j _ => ?_
  split <;> rfl
theorem mp_up {n c B B' : Nat} {ps : List (List Int)} {tab : DP.Tb} (h : DP.Mp n c B ps tab) (l : B ≤ B') : DP.Mp n c B' ps tab := ⟨h.len, h.wid, fun r hr e he => (h.po r hr e he).up l, h.rk⟩
theorem el_at {G : Hp} {Rl : Addr → List Int → Prop} {es : List Addr} {row : List (List Int)} (h : A2 Rl es row) {j : Nat} (hj : j < row.length) : ∃ e, atI (es.map V.ref) ((j : Nat) : Int) = some (.ref e) ∧ Rl e (row.getD j []) := by
  obtain ⟨e, he, r⟩ := h.get' (List.getElem?_eq_getElem hj)
  refine ⟨e, atI_nat ?_, ?_⟩
  · rw [List.getElem?_map, he]; rfl
  · rw [List.getD_eq_getElem?_getD, List.getElem?_eq_getElem hj]
    exact r
theorem other {n : Nat} {i : Nat} (hi : i < n) (hn : 1 < n) (y0 : Int) : ∃ o : Nat, ((i : Nat) + 1 + y0 % ((n : Int) - 1)) % (n : Int) = (o : Nat) ∧ o < n ∧ i ≠ o := by
  have h0 := Int.emod_nonneg y0 (show (n : Int) - 1 ≠ 0 by omega)
  have h1 := Int.emod_lt_of_pos y0 (show (0 : Int) < (n : Int) - 1 by omega)
  generalize y0 % ((n : Int) - 1) = y at h0 h1
  by_cases z : (i : Int) + 1 + y < n
  · rw [Int.emod_eq_of_lt (by omega) z]
    exact ⟨((i : Int) + 1 + y).toNat, (Int.toNat_of_nonneg (by omega)).symm, by omega, by omega⟩
  · rw [← Int.sub_emod_right, Int.emod_eq_of_lt (by omega) (by omega)]
    exact ⟨((i : Int) + 1 + y - n).toNat, (Int.toNat_of_nonneg (by omega)).symm, by omega, by omega⟩
theorem place {n : Nat} (hn : 0 < n) (y : Int) : ∃ i : Nat, y % (n : Int) = (i : Nat) ∧ i < n := by
  have h0 := Int.emod_nonneg y (show (n : Int) ≠ 0 by omega)
  have h1 := Int.emod_lt_of_pos y (show (0 : Int) < n by omega)
  exact ⟨(y % n).toNat, (Int.toNat_of_nonneg h0).symm, by omega⟩
section
variable {P : Program} {w : World} {K : PySem.W.Frag} {mg : Str → Option Value} {base : Heap}
def sp_law_made (K : PySem.W.Frag) : Sp := fun vs H Q _ => ∃ (a : Addr) (ds : List Int) (R C : Nat), vs = [.ref a, .int (R : Nat), .int (C : Nat)] ∧ IL H a ds ∧ R ≤ 12 ∧ C ≤ 12 ∧ (0 < C → 0 < R) ∧
  ∀ H' t D q tab ps, Same H H' → TbR H' D tab → DP.Mp R C (7 ^ 16 * 2 ^ 32) ps tab → ps.length = min R C → RowL H' q (ps.filter fun p => decide (0 < p.length)) → (∀ e ∈ ps, Po (2 ^ 32) e) → SqT K H' t [.ref D, .ref q] → Q (.ref t) H'
theorem ok_law_made (T : Txt K mg) : FnOk P w K mg base CX0 4 T.law_made.a T.law_made.fd ["draws", "rows", "columns"] (sp_law_made K) := by
  refine T.law_made.F.ok sc_law_made (fun vs H Q E h => ?_) (fun cdv A outer s H vs Q E hr h => ?_)
  · obtain ⟨a, ds, R, C, rfl, _⟩ := h
    rfl
  · obtain ⟨a, ds, R, C, rfl, ha, hR, hC, hRC, q⟩ := h
    refine ⟨_, (pss_cons (ps_setLc (i := 4) (own := [("k", 3)]) rfl sc_law_made.nd rfl rfl (sw_true rfl rfl rfl (by decide +kernel)) (pi_range1 (by rfl) T.m_range (pa_cons (pe_callB (call_min2 rfl) (by rfl) T.m_min (by decide +kernel) (pa_cons (pv 1) (pa_cons (pv 2) pa_nil))) pa_nil)) (blkOk_by (N := ["draws", "rows", "columns", "k", "parts", "i", "j", "table", "turn", "cell", "factor", "other", "line", "part", "element"]) (sc := defScope s_law_made) (by decide +kernel)) (fun _ _ _ _ _ => (pg_name (i := 3) sc_law_made.nd rfl (.inl rfl))) (fun _ _ _ _ _ => pts_nil) (fun _ _ _ _ _ => (pe_call (ok_law_menu T) (hr.mono (by decide)) (by rfl) T.law_menu.g T.law_menu.F.kp T.law_menu.b .nil pass0 (pa_cons (pe_call (ok_law_at T) (hr.mono (by decide)) (by rfl) T.law_at.g T.law_at.F.kp T.law_at.b .nil pass0 (pa_cons (pv 0) (pa_cons (pe_op op_add pe_int (pv 3)) (pa_cons pe_int pa_nil)))) pa_nil))))
      (pss_cons (ps_via (t' := TSm a R C) (ps_if (pt_cmpR op_eq (pe_call (ok_law_at T) (hr.mono (by decide)) (by rfl) T.law_at.g T.law_at.F.kp T.law_at.b .nil pass0 (pa_cons (pv 0) (pa_cons pe_int (pa_cons pe_int pa_nil)))) pe_int (nomark _))
        (pss_one (ps_set (i := 4) sc_law_made.nd rfl (.inl rfl) (pe_call (ok_law_deep T) (hr.mono (by decide)) (by rfl) T.law_deep.g T.law_deep.F.kp T.law_deep.b .nil pass0 (pa_cons (pv 0) (pa_cons (pe_callB (call_min2 rfl) (by rfl) T.m_min (by decide +kernel) (pa_cons (pv 1) (pa_cons (pv 2) pa_nil))) pa_nil)))))
        pss_nil) ?viam)
      (pss_cons (ps_set (i := 7) sc_law_made.nd rfl (.inr rfl) (pe_lc (own := [("i", 5)]) rfl sc_law_made.nd (pi_range1 (by rfl) T.m_range (pa_cons (pv 1) pa_nil)) (blkOk_by (N := ["draws", "rows", "columns", "k", "parts", "i", "j", "table", "turn", "cell", "factor", "other", "line", "part", "element"]) (sc := defScope s_law_made) (by decide +kernel)) (fun _ _ _ _ _ => (pg_name (i := 5) sc_law_made.nd rfl (.inl rfl))) (fun _ _ _ _ _ => pts_nil) (fun _ _ _ _ _ => (pe_lc (own := [("j", 6)]) rfl sc_law_made.nd (pi_range1 (by rfl) T.m_range (pa_cons (pv 2) pa_nil)) (blkOk_by (N := ["draws", "rows", "columns", "k", "parts", "i", "j", "table", "turn", "cell", "factor", "other", "line", "part", "element"]) (sc := { kind := .function, names := [(".0", .local), ("i", .local), ("range", .globalImplicit), ("columns", .cell)], isGenerator := false, isCoroutine := false, more := [] }) (by decide +kernel)) (fun _ _ _ _ _ => (pg_name (i := 6) sc_law_made.nd rfl (.inl rfl))) (fun _ _ _ _ _ => pts_nil) (fun _ _ _ _ _ => (pe_lst pa_nil))))))
      (pss_cons (ps_for PassesOwn.never rfl (pi_range1 (by rfl) T.m_range (pa_cons (pe_callB call_len_seq (by rfl) T.m_len (by decide +kernel) (pa_cons (pv 4) pa_nil)) pa_nil)) (pg_name (i := 3) sc_law_made.nd rfl (.inl rfl))
        (pss_one (ps_asg (pe_ix ix_list (pv 4) (pv 3) (fun _ _ => rfl)) (pg_sub (pe_ix ix_list (pv 7) (pv 3) (fun _ _ => rfl)) (pv 3) set_list))))
      (pss_cons (ps_for PassesOwn.never rfl (pi_range1 (by rfl) T.m_range (pa_cons pe_int pa_nil)) (pg_name (i := 8) sc_law_made.nd rfl (.inl rfl))
        (pss_cons (ps_set (i := 9) sc_law_made.nd rfl (.inl rfl) (pe_call (ok_law_at T) (hr.mono (by decide)) (by rfl) T.law_at.g T.law_at.F.kp T.law_at.b .nil pass0 (pa_cons (pv 0) (pa_cons (pe_op op_add pe_int (pv 8)) (pa_cons pe_int pa_nil)))))
        (pss_cons (ps_set (i := 10) sc_law_made.nd rfl (.inr rfl) (pe_op op_cat (pe_lc (own := [("k", 3)]) rfl sc_law_made.nd (pi_range1 (by rfl) T.m_range (pa_cons (pe_op op_mod (pe_callTy call_int1 (by rfl) T.m_int (by decide +kernel) (pa_cons (pv 9) pa_nil)) pe_int) pa_nil)) (blkOk_by (N := ["draws", "rows", "columns", "k", "parts", "i", "j", "table", "turn", "cell", "factor", "other", "line", "part", "element"]) (sc := defScope s_law_made) (by decide +kernel)) (fun _ _ _ _ _ => (pg_name (i := 3) sc_law_made.nd rfl (.inl rfl))) (fun _ _ _ _ _ => pts_nil) (fun _ _ _ _ _ => pe_int)) (pe_lst (pa_cons (pe_op op_sub (pe_op op_mod (pe_callTy call_int1 (by rfl) T.m_int (by decide +kernel) (pa_cons (pe_op op_fdiv (pv 9) pe_int) pa_nil)) pe_int) pe_int) pa_nil))))
        (pss_one (ps_if (PW.pt (pw_and (pt_cmpR op_ne (pe_ix ix_list (pv 10) (pe_un un_neg pe_int) (fun _ _ => rfl)) pe_int (nomark _)) (pw_and (pt_cmpR op_gt (pv 1) pe_int (nomark _)) (pw_and1 (pt_cmpR op_eq (pe_op op_mod (pe_callTy call_int1 (by rfl) T.m_int (by decide +kernel) (pa_cons (pe_op op_fdiv (pv 9) pe_int) pa_nil)) pe_int) pe_int (nomark _))))))
          (pss_cons (ps_set (i := 5) sc_law_made.nd rfl (.inr rfl) (pe_op op_mod (pe_callTy call_int1 (by rfl) T.m_int (by decide +kernel) (pa_cons (pe_op op_fdiv (pv 9) pe_int) pa_nil)) (pv 1)))
          (pss_cons (ps_set (i := 11) sc_law_made.nd rfl (.inr rfl) (pe_op op_mod (pe_callTy call_int1 (by rfl) T.m_int (by decide +kernel) (pa_cons (pe_op op_add (pe_op op_add (pv 5) pe_int) (pe_op op_mod (pe_callTy call_int1 (by rfl) T.m_int (by decide +kernel) (pa_cons (pe_op op_fdiv (pv 9) pe_int) pa_nil)) (pe_op op_sub (pv 1) pe_int))) pa_nil)) (pv 1)))
          (pss_cons (ps_setLc (i := 12) (own := [("j", 6)]) rfl sc_law_made.nd rfl rfl (sw_true rfl rfl rfl (by decide +kernel)) (pi_range1 (by rfl) T.m_range (pa_cons (pv 2) pa_nil)) (blkOk_by (N := ["draws", "rows", "columns", "k", "parts", "i", "j", "table", "turn", "cell", "factor", "other", "line", "part", "element"]) (sc := defScope s_law_made) (by decide +kernel)) (fun _ _ _ _ _ => (pg_name (i := 6) sc_law_made.nd rfl (.inl rfl))) (fun _ _ _ _ _ => pts_nil) (fun _ _ _ _ _ => (pe_call (ok_law_plus T) (hr.mono (by decide)) (by rfl) T.law_plus.g T.law_plus.F.kp T.law_plus.b .nil pass0 (pa_cons (pe_ix (r := rIxL K) ix_list (pe_ix (r := rIxL K) ix_list (pv 7) (pv 5) (fun _ _ => rfl)) (pv 6) (fun _ _ => rfl)) (pa_cons (pe_call (ok_law_times T) (hr.mono (by decide)) (by rfl) T.law_times.g T.law_times.F.kp T.law_times.b .nil pass0 (pa_cons (pv 10) (pa_cons (pe_ix (r := rIxL K) ix_list (pe_ix (r := rIxL K) ix_list (pv 7) (pv 11) (fun _ _ => rfl)) (pv 6) (fun _ _ => rfl)) pa_nil))) pa_nil)))))
          (pss_one (ps_if (pt_cmpR op_lt (pe_callB (cr_max rfl) (by rfl) T.m_max (by decide +kernel) (pa_cons (pe_op op_cat (pe_lst (pa_cons pe_int pa_nil)) (pe_lc (own := [("element", 14)]) rfl sc_law_made.nd (pi_list (pv 12)) (blkOk_by (N := ["draws", "rows", "columns", "k", "parts", "i", "j", "table", "turn", "cell", "factor", "other", "line", "part", "element"]) (sc := defScope s_law_made) (by decide +kernel)) (fun _ _ _ _ _ => (pg_name (i := 14) sc_law_made.nd rfl (.inl rfl))) (fun _ _ _ _ _ => pts_nil) (fun _ _ _ _ _ => (pe_callB (id := "len") (r := rLenS K) call_lenC (by rfl) T.m_len (by decide +kernel) (pa_cons (pv 14) pa_nil))))) pa_nil)) pe_int (nomark _))
            (pss_one (ps_asg (pv 12) (pg_sub (pv 7) (pv 5) set_list)))
            pss_nil)))))
          (pss_one (ps_via (t' := TSe a R C) (ps_if (PW.pt (pw_and (pt_cmpR op_ne (pe_ix ix_list (pv 10) (pe_un un_neg pe_int) (fun _ _ => rfl)) pe_int (nomark _)) (pw_and (pt_cmpR op_gt (pv 2) pe_int (nomark _)) (pw_and1 (pt_cmpR op_eq (pe_op op_mod (pe_callTy call_int1 (by rfl) T.m_int (by decide +kernel) (pa_cons (pe_op op_fdiv (pv 9) pe_int) pa_nil)) pe_int) pe_int (nomark _))))))
            (pss_cons (ps_set (i := 6) sc_law_made.nd rfl (.inr rfl) (pe_op op_mod (pe_callTy call_int1 (by rfl) T.m_int (by decide +kernel) (pa_cons (pe_op op_fdiv (pv 9) pe_int) pa_nil)) (pv 2)))
            (pss_cons (ps_set (i := 11) sc_law_made.nd rfl (.inr rfl) (pe_op op_mod (pe_callTy call_int1 (by rfl) T.m_int (by decide +kernel) (pa_cons (pe_op op_add (pe_op op_add (pv 6) pe_int) (pe_op op_mod (pe_callTy call_int1 (by rfl) T.m_int (by decide +kernel) (pa_cons (pe_op op_fdiv (pv 9) pe_int) pa_nil)) (pe_op op_sub (pv 2) pe_int))) pa_nil)) (pv 2)))
            (pss_cons (ps_setLc (i := 12) (own := [("i", 5)]) rfl sc_law_made.nd rfl rfl (sw_true rfl rfl rfl (by decide +kernel)) (pi_range1 (by rfl) T.m_range (pa_cons (pv 1) pa_nil)) (blkOk_by (N := ["draws", "rows", "columns", "k", "parts", "i", "j", "table", "turn", "cell", "factor", "other", "line", "part", "element"]) (sc := defScope s_law_made) (by decide +kernel)) (fun _ _ _ _ _ => (pg_name (i := 5) sc_law_made.nd rfl (.inl rfl))) (fun _ _ _ _ _ => pts_nil) (fun _ _ _ _ _ => (pe_call (ok_law_plus T) (hr.mono (by decide)) (by rfl) T.law_plus.g T.law_plus.F.kp T.law_plus.b .nil pass0 (pa_cons (pe_ix (r := rIxL K) ix_list (pe_ix (r := rIxL K) ix_list (pv 7) (pv 5) (fun _ _ => rfl)) (pv 6) (fun _ _ => rfl)) (pa_cons (pe_call (ok_law_times T) (hr.mono (by decide)) (by rfl) T.law_times.g T.law_times.F.kp T.law_times.b .nil pass0 (pa_cons (pv 10) (pa_cons (pe_ix (r := rIxL K) ix_list (pe_ix (r := rIxL K) ix_list (pv 7) (pv 5) (fun _ _ => rfl)) (pv 11) (fun _ _ => rfl)) pa_nil))) pa_nil)))))
            (pss_one (ps_if (pt_cmpR op_lt (pe_callB (cr_max rfl) (by rfl) T.m_max (by decide +kernel) (pa_cons (pe_lc (own := [("element", 14)]) rfl sc_law_made.nd (pi_list (pv 12)) (blkOk_by (N := ["draws", "rows", "columns", "k", "parts", "i", "j", "table", "turn", "cell", "factor", "other", "line", "part", "element"]) (sc := defScope s_law_made) (by decide +kernel)) (fun _ _ _ _ _ => (pg_name (i := 14) sc_law_made.nd rfl (.inl rfl))) (fun _ _ _ _ _ => pts_nil) (fun _ _ _ _ _ => (pe_callB (id := "len") (r := rLenS K) call_lenC (by rfl) T.m_len (by decide +kernel) (pa_cons (pv 14) pa_nil)))) pa_nil)) pe_int (nomark _))
              (pss_one (ps_for PassesOwn.never rfl (pi_range1 (by rfl) T.m_range (pa_cons (pv 1) pa_nil)) (pg_name (i := 5) sc_law_made.nd rfl (.inr rfl))
                (pss_one (ps_asg (pe_ix ix_list (pv 12) (pv 5) (fun _ _ => rfl)) (pg_sub (pe_ix ix_list (pv 7) (pv 5) (fun _ _ => rfl)) (pv 6) set_list)))))
              pss_nil)))))
            pss_nil) ?viae))))))) 
      (pss_one (ps_ret (pe_tup (pa_cons (pv 7) (pa_cons (pe_lc (own := [("part", 13)]) rfl sc_law_made.nd (pi_list (pv 4)) (blkOk_by (N := ["draws", "rows", "columns", "k", "parts", "i", "j", "table", "turn", "cell", "factor", "other", "line", "part", "element"]) (sc := defScope s_law_made) (by decide +kernel)) (fun _ _ _ _ _ => (pg_name (i := 13) sc_law_made.nd rfl (.inl rfl))) (fun _ _ _ _ _ => (pts_one (pt_cmpR op_gt (pe_callB (id := "len") (r := rLenS K) call_lenC (by rfl) T.m_len (by decide +kernel) (pa_cons (pv 13) pa_nil)) pe_int (nomark _)))) (fun _ _ _ _ _ => (pv 13))) pa_nil)))))))))), ?_⟩
    case viam =>
      intro Dn σ G hh
      obtain ⟨p, ds, ps, rfl, ha, hp, lp, l12, po, go⟩ := hh
      refine ⟨.ref a, rfl, a, ds, 54, 4, rfl, ha, by decide, by decide, fun r r0 r1 => ⟨rfl, _, rfl, ite2 (fun _ => ?_) (fun _ => go G p ps (Same.refl _) hp lp po)⟩⟩
      have em : (if (C : Int) < (R : Int) then (C : Int) else (R : Int)) = ((min R C : Nat) : Int) := by split <;> omega
      refine ⟨.ref a, rfl, _, rfl, _, rfl, _, _, rfl, ?_⟩
      rw [em]
      exact ⟨a, ds, min R C, rfl, ha, l12, fun H' q ps' s' l' hq po' => go H' q ps' s' hq l' po'⟩
    case viae =>
      intro Dn σ G hh
      obtain ⟨H0, B, P0, D, F, ps, tab, as, cell, f, x3, x5, x6, x8, x11, x12, x13, x14, rfl, hR, hC, hRC, mp, md, hB, hF, ff, go⟩ := hh
      have stay : ∀ y5 y6 y11 y12, Dn.nx [some (.ref a), some (.int (R : Nat)), some (.int (C : Nat)), x3, some (.ref P0), y5, y6, some (.ref D), x8, some (.int cell), some (.ref F), y11, y12, x13, x14] G := fun y5 y6 y11 y12 => go G as tab y5 y6 y11 y12 mp (mp_up md (by omega))
      obtain ⟨c, hc⟩ := ff.2.2
      have hB16 : 7 * B ≤ 7 ^ 16 * 2 ^ 32 := Nat.le_trans (Nat.mul_le_mul_left 7 hB) (by decide)
      refine ⟨.ref F, rfl, _, rfl, F, _, _, _, rfl, rfl, hF.sq, hc, rfl, _, rfl, ite2 (fun _ => ?_) (fun _ => stay _ _ _ _)⟩
      refine ⟨_, rfl, _, _, rfl, rfl, _, rfl, ite2 (fun h => ?_) (fun _ => stay _ _ _ _)⟩
      have c2 : 1 < C := by have := of_decide_eq_true h; omega
      have rp : 0 < R := hRC (by omega)
      refine ⟨_, rfl, _, _, rfl, rfl, ⟨by decide, by decide⟩, .inl ⟨_, rfl, _, _, rfl, rfl, (by show (0 : Int) < _; decide), rfl, _, rfl, ite2 (fun _ => ?_) (fun _ => stay _ _ _ _)⟩⟩
      obtain ⟨j, ej, hj⟩ := place (n := C) (by omega) (cell / 28)
      obtain ⟨o, eo, ho, ne⟩ := other hj c2 (cell / 400)
      refine ⟨_, rfl, _, _, rfl, rfl, ⟨by decide, by decide⟩, .inl ⟨_, rfl, _, rfl, _, _, rfl, rfl, by omega, ?_⟩⟩
      rw [show (fun i j => V.int (i % j)) (cell / 28) (C : Int) = V.int (j : Nat) from congrArg V.int ej]
      refine ⟨_, rfl, _, _, rfl, rfl, _, rfl, _, _, rfl, rfl, ⟨by decide, by decide⟩, .inl ⟨_, rfl, _, rfl, _, _, rfl, rfl, _, _, rfl, rfl, by omega, _, _, rfl, rfl, .inl ⟨_, rfl, _, rfl, _, _, rfl, rfl, by omega, ?_⟩⟩⟩
      rw [show (fun i j => V.int (i % j)) ((j : Nat) + 1 + cell / 400 % ((C : Int) - 1)) (C : Int) = V.int (o : Nat) from congrArg V.int eo]
      have lT := md.len
      refine ⟨_, rfl, (R : Nat), rfl, by omega, by omega, fun L nL => ?_⟩
      rw [Int.toNat_natCast]
      refine lc_inv (walk_range (lo := 0) (n := R)) (fun i G2 ys => ∃ es : List Addr, ys = es.map V.ref ∧ A2 (fun e p => (e ≠ D ∧ e ∉ as ∧ e ≠ L) ∧ IL G2 e p) es ((tab.take i).map fun row => DP.mix f (row.getD j []) (row.getD o []))) nL (fun _ _ => trivial) (small' (by omega)) ⟨[], rfl, .nil⟩ (fun i y G2 Hx ys hi sm hL hR2 yy Qt Qf qt qf => ?_) (fun G2 ys sm hL hR2 => ?_)
      · obtain ⟨rfl, rfl⟩ := yy
        rw [show (fun m : Nat => V.int ((0 : Int) + (m : Int))) i = V.int ((i : Nat) : Int) from congrArg V.int (Int.zero_add _)]
        obtain ⟨es, rfl, hE⟩ := hR2
        have mp2 := mp.same sm
        have er := List.getElem?_eq_getElem (show i < tab.length by omega)
        obtain ⟨ai, es2, hai, _, nai, hes2, hE2⟩ := mp2.row er
        have wr := md.wid _ (List.getElem_mem (show i < tab.length by omega))
        have pr := md.po _ (List.getElem_mem (show i < tab.length by omega))
        generalize tab[i] = row at er hE2 wr pr
        obtain ⟨e1, he1, _, hI1⟩ := el_at (G := Hx) hE2 (j := j) (by omega)
        obtain ⟨e2, he2, _, hI2⟩ := el_at (G := Hx) hE2 (j := o) (by omega)
        have p1 := DP.po_mem pr j
        have p2 := DP.po_mem pr o
        have hF2 := hF.same sm
        refine ⟨rfl, .ref D, rfl, _, rfl, D, _, _, _, rfl, rfl, .of mp2.hD, hai, _, rfl, ai, _, _, _, rfl, rfl, .of hes2, he1, .ref F, rfl, .ref D, rfl, _, rfl, D, _, _, _, rfl, rfl, .of mp2.hD, hai, _, rfl, ai, _, _, _, rfl, rfl, .of hes2, he2, F, e2, f, _, rfl, hF2, hI2, Nat.le_trans ff.1 (by decide), Nat.le_trans p2.2.1 (by decide), ff.bd, Po.bd p2 (by omega), fun H1 t s1 nt ht => ?_⟩
        have lpm := DP.pmul_len1 f (row.getD o [])
        have lf := ff.1
        have lp2 := p2.2.1
        refine ⟨e1, t, _, _, rfl, hI1.same s1, ht, Nat.le_trans p1.2.1 (by decide), by omega, fun H2 r s2 nr hr2 => ?_⟩
        have s12 := s1.trans s2
        have nr0 : Hx r = none := s1.free nr
        have rD : r ≠ D := fun z => by rw [z, mp2.hD] at nr0; cases nr0
        have rL : r ≠ L := fun z => by rw [z, hL] at nr0; cases nr0
        have ras : r ∉ as := fun z => by
          obtain ⟨_, _, w⟩ := mp2.hA.mem r z
          obtain ⟨es3, x, _⟩ := w.2.2
          rw [nr0] at x; cases x
        refine qt _ _ s12 ⟨es ++ [r], by rw [List.map_append]; rfl, ?_⟩
        rw [take_snoc er, List.map_append]
        exact A2.snoc ⟨⟨rD, ras, rL⟩, (upd_ne rL).trans hr2⟩ (hE.mono fun b p z => ⟨z.1, (upd_ne z.1.2.2).trans (z.2.same s12)⟩)
      obtain ⟨es, rfl, hE⟩ := hR2
      rw [← lT, List.take_length] at hE
      have mp2 := mp.same sm
      have hF2 := hF.same sm
      have les : es.length = R := by rw [hE.len, List.length_map, lT]
      obtain ⟨line, hline⟩ : ∃ line, line = tab.map fun row => DP.mix f (row.getD j []) (row.getD o []) := ⟨_, rfl⟩
      rw [← hline] at hE
      have lline : line.length = R := by rw [hline, List.length_map, lT]
      refine ⟨.ref L, rfl, L, rfl, ⟨_, .of hL⟩, fun M nM => ?_⟩
      refine lc_inv (walk_list (xs := es.map V.ref)) (fun i G ys => ys = ((line.take i).map fun e => ((e.length : Nat) : Int)).map V.int) nM (fun G s => .of (s _ _ hL)) (small' (by rw [List.length_map]; omega)) rfl (fun i y G3 Hx ys hi sm3 hM hR3 yy Qt Qf qt qf => ?_) (fun G3 ys sm3 hM hR3 => ?_)
      · obtain ⟨rfl, hy⟩ := yy
        obtain ⟨e, ee, rfl⟩ := ref_at hy
        obtain ⟨p, ep, _, hI⟩ := hE.get ee
        refine ⟨rfl, .ref e, rfl, e, _, rfl, .inl (hI.same sm3).sq, ?_⟩
        refine qt _ _ (Same.refl _) ?_
        rw [List.length_map, hR3, take_snoc ep, List.map_append, List.map_append]
        rfl
      rw [List.length_map, les, ← lline, List.take_length] at hR3
      subst hR3
      refine ⟨M, _, rfl, .of hM, by rw [List.length_map]; omega, fun m hm hg => ?_⟩
      refine ⟨_, _, rfl, rfl, _, rfl, ite2 (fun h => ?_) (fun _ => ?_)⟩
      rotate_left
      · exact go G3 as tab _ _ _ _ (mp2.same sm3) (mp_up md (by omega))
      have m6 : m < 6 := of_decide_eq_true h
      have l5 : ∀ row ∈ tab, (DP.mix f (row.getD j []) (row.getD o [])).length ≤ 5 := fun row hr2 => by
        have := hg _ (List.mem_map_of_mem (f := fun e : List Int => ((e.length : Nat) : Int)) (show DP.mix f (row.getD j []) (row.getD o []) ∈ line by rw [hline]; exact List.mem_map_of_mem hr2))
        omega
      have md2 := md.col ne hj ff.1 ff.2.1 l5
      have mp3 := mp2.same sm3
      have hE3 := hE.mono fun e p z => (⟨z.1, z.2.same sm3⟩ : (e ≠ D ∧ e ∉ as ∧ e ≠ L) ∧ IL G3 e p)
      have hL3 := sm3 _ _ hL
      have LD : L ≠ D := fun z => by rw [z, mp.hD] at nL; cases nL
      have Las : L ∉ as := fun z => by
        obtain ⟨_, _, w⟩ := mp.hA.mem L z
        obtain ⟨es3, x, _⟩ := w.2.2
        rw [nL] at x; cases x
      refine ⟨_, rfl, (R : Nat), rfl, by omega, by omega, ?_⟩
      rw [Int.toNat_natCast]
      refine for_range (n := R) (lo := 0) (fun i σ G4 => ∃ x5, σ = [some (.ref a), some (.int (R : Nat)), some (.int (C : Nat)), x3, some (.ref P0), x5, some (.int (j : Nat)), some (.ref D), x8, some (.int cell), some (.ref F), some (.int (o : Nat)), some (.ref L), x13, x14] ∧ MP H0 D G4 as ((tab.take i).map (DP.mixcol f j o) ++ tab.drop i) ∧ G4 L = some (.lst (es.map V.ref)) ∧ A2 (fun e p => (e ≠ D ∧ e ∉ as ∧ e ≠ L) ∧ IL G4 e p) es line)
        ⟨_, rfl, mp3, hL3, hE3⟩ (fun i σ G4 hi hP => ?_) (fun σ G4 hP => ?_)
      · obtain ⟨y5, rfl, mp4, hL4, hE4⟩ := hP
        rw [Int.zero_add]
        have il : i < tab.length := by omega
        have ep : ((tab.take i).map (DP.mixcol f j o) ++ tab.drop i)[i]? = some tab[i] := by
          rw [List.getElem?_append_right (by rw [List.length_map, List.length_take]; omega), List.length_map, List.length_take, Nat.min_eq_left (by omega), Nat.sub_self, List.getElem?_drop]
          exact List.getElem?_eq_getElem il
        obtain ⟨ai, es2, hai, hai2, nai, hes2, hE2⟩ := mp4.row ep
        have wr := md.wid _ (List.getElem_mem il)
        obtain ⟨e, ee, ⟨n1, n2, n3⟩, hI⟩ := hE4.get' (i := i) (b := DP.mix f (tab[i].getD j []) (tab[i].getD o [])) (by rw [hline, List.getElem?_map, List.getElem?_eq_getElem il]; rfl)
        have hee : atI (es.map V.ref) ((i : Nat) : Int) = some (.ref e) := atI_nat (by rw [List.getElem?_map, ee]; rfl)
        have les2 : es2.length = C := by rw [hE2.len, wr]
        refine ⟨.ref L, rfl, _, rfl, L, _, _, _, rfl, rfl, .of hL4, hee, .ref D, rfl, _, rfl, D, _, _, _, rfl, rfl, .of mp4.hD, hai, _, rfl, ai, _, _, j, rfl, rfl, hes2, ix_ok rfl (by rw [List.length_map, les2]; exact hj), ?_⟩
        have mp5 := mp4.put (j := j) hai2 ep hes2 hE2 n1 n2 hI
        have es1 : ((tab.take i).map (DP.mixcol f j o) ++ tab.drop i).set i (tab[i].set j (DP.mix f (tab[i].getD j []) (tab[i].getD o []))) = (tab.take (i + 1)).map (DP.mixcol f j o) ++ tab.drop (i + 1) := by
          rw [List.set_append_right _ _ (by rw [List.length_map, List.length_take]; omega), List.length_map, List.length_take, Nat.min_eq_left (by omega), Nat.sub_self, List.drop_eq_getElem_cons il, List.set_cons_zero, take_snoc (List.getElem?_eq_getElem il), List.map_append, List.append_assoc]
          rfl
        rw [es1] at mp5
        have mai : ai ∈ as := List.mem_of_getElem? hai2
        have Lai : L ≠ ai := fun z => Las (z ▸ mai)
        refine ⟨_, rfl, mp5, (upd_ne Lai).trans hL4, hE4.mono fun b p z => ⟨z.1, (upd_ne (a := ai) (b := b) fun y => z.1.2.1 (by rw [y]; exact mai)).trans z.2⟩⟩
      · obtain ⟨y5, rfl, mp4, hL4, hE4⟩ := hP
        rw [← lT, List.take_length, List.drop_length, List.append_nil] at mp4
        exact go G4 as _ _ _ _ _ mp4 md2
    have em : (if (C : Int) < (R : Int) then (C : Int) else (R : Int)) = ((min R C : Nat) : Int) := by split <;> omega
    have hm12 : min R C ≤ 12 := by omega
    refine ⟨_, rfl, _, rfl, _, _, rfl, ?_⟩
    rw [em]
    refine ⟨((min R C : Nat) : Int), rfl, by omega, by omega, fun p np => ?_⟩
    rw [Int.toNat_natCast]
    refine lc_inv (walk_range (lo := 0) (n := min R C)) (fun k G ys => ∃ (es : List Addr) (ps : List (List Int)), ys = es.map V.ref ∧ A2 (fun e x => e ≠ p ∧ IL G e x) es ps ∧ ps.length = k ∧ ∀ e ∈ ps, Po (2 ^ 32) e) np (fun _ _ => trivial) (small' (by omega)) ⟨[], [], rfl, .nil, rfl, fun _ z => by cases z⟩ (fun k y G Hx ys hk sm hD hR2 yy Qt Qf qt qf => ?_) (fun G1 ys sm hD hR2 => ?_)
    · obtain ⟨rfl, rfl⟩ := yy
      obtain ⟨es, ps, rfl, hE, lp, po⟩ := hR2
      refine ⟨rfl, .ref a, rfl, _, rfl, _, _, rfl, rfl, a, ds, _, 60000, rfl, ha.same sm, by omega, by decide, fun cell c0 c1 => ?_⟩
      refine ⟨cell, rfl, fun H' e x s' ne he pe => ?_⟩
      have ep : e ≠ p := fun z => by rw [z, hD] at ne; cases ne
      refine qt _ _ s' ⟨es ++ [e], ps ++ [x], by rw [List.map_append]; rfl, A2.snoc ⟨ep, (upd_ne ep).trans he⟩ (hE.mono fun b y z => ⟨z.1, (upd_ne z.1).trans (z.2.same s')⟩), by rw [List.length_append, lp]; rfl, fun z hz => ?_⟩
      rcases List.mem_append.mp hz with w | w
      · exact po z w
      · rw [List.mem_singleton.mp w]; exact pe
    obtain ⟨es, ps, rfl, hE, lp, po⟩ := hR2
    refine ⟨p, ds, ps, rfl, ha.same sm, ⟨es, hD, hE.mono fun _ _ z => z.2⟩, lp, hm12, po, fun H0 p0 ps0 s0 hp0 lp0 po0 => ?_⟩
    have sH0 := sm.trans s0
    clear hE hD po lp
    -- the table
    refine ⟨_, rfl, (R : Nat), rfl, by omega, by omega, fun D nD => ?_⟩
    rw [Int.toNat_natCast]
    refine lc_inv (walk_range (lo := 0) (n := R)) (fun i G ys => ∃ as : List Addr, ys = as.map V.ref ∧ as.Nodup ∧ A2 (fun a row => H0 a = none ∧ a ≠ D ∧ ∃ es, G a = some (.lst (es.map V.ref)) ∧ A2 (fun e p => (e ≠ D ∧ e ∉ as) ∧ IL G e p) es row) as ((List.range i).map fun i => DP.dgr [] C i [])) nD (fun _ _ => trivial) (small' (by omega)) ⟨[], rfl, .nil, .nil⟩ (fun i y G Hx ys hi sm1 hD hR2 yy Qt Qf qt qf => ?_) (fun G ys sm1 hD hR2 => ?_)
    · obtain ⟨rfl, rfl⟩ := yy
      obtain ⟨as, rfl, nd, hA⟩ := hR2
      refine ⟨rfl, _, rfl, (C : Nat), rfl, by omega, by omega, fun D2 nD2 => ?_⟩
      rw [Int.toNat_natCast]
      have dD : D2 ≠ D := fun z => by rw [z, hD] at nD2; cases nD2
      have D2as : D2 ∉ as := fun z => by
        obtain ⟨_, _, w⟩ := hA.mem D2 z
        obtain ⟨es3, x, _⟩ := w.2.2
        rw [nD2] at x; cases x
      refine lc_inv (walk_range (lo := 0) (n := C)) (fun j G2 ys => ∃ es : List Addr, ys = es.map V.ref ∧ A2 (fun e p => (e ≠ D ∧ e ∉ as ∧ e ≠ D2) ∧ IL G2 e p) es ((List.range j).map fun _ => ([] : List Int))) nD2 (fun _ _ => trivial) (small' (by omega)) ⟨[], rfl, .nil⟩ (fun j y G2 Hx2 ys2 hj sm2 hD2 hR3 yy2 Qt2 Qf2 qt2 qf2 => ?_) (fun G2 ys2 sm2 hD2 hR3 => ?_)
      · obtain ⟨rfl, rfl⟩ := yy2
        obtain ⟨es, rfl, hE⟩ := hR3
        refine ⟨rfl, Nat.zero_le _, fun l nl => ?_⟩
        have sl := same_upd nl (o := .lst [])
        have lD : l ≠ D := fun z => by rw [z, sm2 _ _ hD] at nl; cases nl
        have lD2 : l ≠ D2 := fun z => by rw [z, hD2] at nl; cases nl
        have las : l ∉ as := fun z => by
          obtain ⟨_, _, w⟩ := hA.mem l z
          obtain ⟨es3, x, _⟩ := w.2.2
          rw [sm2 _ _ x] at nl; cases nl
        refine qt2 _ _ sl ⟨es ++ [l], by rw [List.map_append]; rfl, ?_⟩
        rw [List.range_succ, List.map_append]
        exact A2.snoc ⟨⟨lD, las, lD2⟩, (upd_ne lD2).trans upd_same⟩ (hE.mono fun b y z => ⟨z.1, (upd_ne z.1.2.2).trans (z.2.same sl)⟩)
      · obtain ⟨es, rfl, hE⟩ := hR3
        refine qt _ _ sm2 ⟨as ++ [D2], by rw [List.map_append]; rfl, ?_, ?_⟩
        · rw [List.nodup_append]
          refine ⟨nd, by simp, fun x hx y hy => ?_⟩
          rw [List.mem_singleton.mp hy]
          intro e
          exact D2as (e ▸ hx)
        · rw [List.range_succ, List.map_append]
          have nin : ∀ {e : Addr}, e ∉ as → e ≠ D2 → e ∉ as ++ [D2] := fun n1 n2 z => by
            rcases List.mem_append.mp z with w | w
            · exact n1 w
            · exact n2 (List.mem_singleton.mp w)
          refine A2.snoc ⟨sm1.free nD2, dD, es, (upd_ne dD).trans hD2, ?_⟩ (hA.mono fun b row z => ⟨z.1, z.2.1, let ⟨es2, x, y⟩ := z.2.2; ⟨es2, (upd_ne z.2.1).trans (sm2 _ _ x), y.mono fun e q v => ⟨⟨v.1.1, nin v.1.2 fun z2 => ?_⟩, (upd_ne v.1.1).trans (v.2.same sm2)⟩⟩⟩)
          · show A2 _ es (DP.dgr [] C i [])
            rw [dgr_nil]
            exact hE.mono fun e q v => ⟨⟨v.1.1, nin v.1.2.1 v.1.2.2⟩, (upd_ne v.1.1).trans v.2⟩
          · have v2 : _ = some _ := v.2
            rw [z2, nD2] at v2
            cases v2
    obtain ⟨as, rfl, nd, hA⟩ := hR2
    have mp0 : MP H0 D G as (DP.dg [] R C []) := ⟨sm1, nD, hD, hA, nd⟩
    obtain ⟨bs, hbs, hB⟩ := hp0
    have lbs : bs.length = min R C := by rw [hB.len, lp0]
    have hG0 : ∀ {G : Hp}, Same H0 G → A2 (fun e x => IL G e x) bs ps0 := fun s => hB.mono fun _ _ z => z.same s
    have bout : ∀ {e : Addr} {x : List Int}, IL H0 e x → e ≠ D ∧ e ∉ as := fun {e x} h => by
      have h : H0 e = some _ := h
      refine ⟨fun z => (by rw [z, nD] at h; cases h), fun z => ?_⟩
      obtain ⟨_, _, w⟩ := hA.mem e z
      rw [w.1] at h; cases h
    refine ⟨.ref p0, rfl, p0, _, rfl, .inl (.of (sm1 _ _ hbs)), ?_⟩
    rw [List.length_map, lbs]
    refine ⟨((min R C : Nat) : Int), rfl, by omega, by omega, ?_⟩
    rw [Int.toNat_natCast]
    refine for_range (n := min R C) (lo := 0) (fun k σ G2 => ∃ x3 : Option V, σ = [some (.ref a), some (.int (R : Nat)), some (.int (C : Nat)), x3, some (.ref p0), none, none, some (.ref D), none, none, none, none, none, none, none] ∧ MP H0 D G2 as (DP.dg [] R C (ps0.take k)))
      ⟨_, rfl, mp0⟩ (fun k σ G2 hk hP => ?_) (fun σ G2 hP => ?_)
    · obtain ⟨x3, rfl, mp⟩ := hP
      rw [Int.zero_add]
      have hkR : k < R := by omega
      have hkC : k < C := by omega
      obtain ⟨x, ex⟩ : ∃ x, ps0[k]? = some x := ⟨_, List.getElem?_eq_getElem (by omega)⟩
      obtain ⟨e, ee, he0⟩ := hB.get' ex
      have hee : atI (bs.map V.ref) ((k : Nat) : Int) = some (.ref e) := atI_nat (by rw [List.getElem?_map, ee]; rfl)
      obtain ⟨n1, n2⟩ := bout he0
      have lk : (ps0.take k).length = k := by rw [List.length_take]; omega
      obtain ⟨ak, es2, hak, hak2, nak, hes2, hE2⟩ := mp.row (DP.dg_at (ps0.take k) hkR)
      have les2 : es2.length = C := by rw [hE2.len, DP.dgr_len]
      refine ⟨.ref p0, rfl, _, rfl, p0, _, _, _, rfl, rfl, .of (mp.sm _ _ hbs), hee, .ref D, rfl, _, rfl, D, _, _, _, rfl, rfl, .of mp.hD, hak, _, rfl, ak, _, _, k, rfl, rfl, hes2, ix_ok rfl (by rw [List.length_map, les2]; exact hkC), ?_⟩
      have mp2 := mp.put (j := k) hak2 (DP.dg_at (ps0.take k) hkR) hes2 hE2 n1 n2 (he0.same mp.sm)
      have e3 : (DP.dg [] R C (ps0.take k)).set k ((DP.dgr [] C k (ps0.take k)).set k x) = DP.dg [] R C (ps0.take (k + 1)) := by
        have := DP.dg_put (z := ([] : List Int)) (n := R) (c := C) (ds := ps0.take k) (d := x) (by omega) (by omega)
        rw [lk] at this
        rw [this, take_snoc ex]
      rw [e3] at mp2
      exact ⟨_, rfl, mp2⟩
    · obtain ⟨x3, rfl, mp⟩ := hP
      rw [← lp0, List.take_length] at mp
      have md0 := DP.Mp.diag (n := R) (c := C) (B := 2 ^ 32) (ps := ps0) (by omega) (by omega) po0
      refine ⟨16, rfl, by decide, by decide, ?_⟩
      refine for_range (n := 16) (lo := 0) (fun m σ G3 => ∃ (tab : DP.Tb) (as : List Addr) (x3 x5 x6 x8 x9 x10 x11 x12 x13 x14 : Option V), σ = [some (.ref a), some (.int (R : Nat)), some (.int (C : Nat)), x3, some (.ref p0), x5, x6, some (.ref D), x8, x9, x10, x11, x12, x13, x14] ∧ MP H0 D G3 as tab ∧ DP.Mp R C (7 ^ m * 2 ^ 32) ps0 tab)
        ⟨_, as, _, _, _, _, _, _, _, _, _, _, rfl, mp, by rw [Nat.pow_zero, Nat.one_mul]; exact md0⟩ (fun m σ G3 hm hP => ?_) (fun σ G3 hP => ?_)
      · obtain ⟨tab, as, x3, x5, x6, x8, x9, x10, x11, x12, x13, x14, rfl, mp, md⟩ := hP
        rw [Int.zero_add]
        have hds := (ha.same sH0).same mp.sm
        refine ⟨.ref a, rfl, _, rfl, _, _, rfl, rfl, a, ds, _, 60000, rfl, hds, by omega, by decide, fun cell c0 c1 => ?_⟩
        have e0 := Int.emod_nonneg cell (by decide : (2 : Int) ≠ 0)
        have e1 := Int.emod_lt_of_pos cell (by decide : (0 : Int) < 2)
        refine ⟨_, rfl, .inl ⟨_, rfl, _, _, rfl, rfl, (by show (0 : Int) < _; decide), cell % 2, rfl, by omega, by omega, fun D1 nD1 => ?_⟩⟩
        refine lc_inv (walk_range (lo := 0) (n := (cell % 2).toNat)) (fun j G ys => ys = (List.replicate j (0 : Int)).map V.int) nD1 (fun _ _ => trivial) (small' (by omega)) rfl (fun j y G4 Hx ys hj sm1 hD hR2 yy Qt Qf qt qf => ?_) (fun G4 ys sm1 hD hR2 => ?_)
        · obtain ⟨rfl, rfl⟩ := yy
          refine ⟨rfl, qt _ _ (Same.refl _) ?_⟩
          rw [hR2, List.replicate_succ', List.map_append]
          rfl
        subst hR2
        obtain ⟨c, ec⟩ : ∃ c : Int, cell / 2 % 7 - 3 = c := ⟨_, rfl⟩
        have q0 := Int.emod_nonneg (cell / 2) (by decide : (7 : Int) ≠ 0)
        have q1 := Int.emod_lt_of_pos (cell / 2) (by decide : (0 : Int) < 7)
        refine ⟨_, rfl, _, _, rfl, rfl, ⟨by decide, by decide⟩, .inl ⟨_, rfl, _, _, rfl, rfl, (by show (0 : Int) < _; decide), _, _, rfl, rfl, by show 1 ≤ sizeLine; decide, fun u nu => ?_⟩⟩
        rw [show (fun i j => V.int (i - j)) (cell / 2 % 7) (3 : Int) = V.int c from congrArg V.int ec] at *
        have su := same_upd nu (o := .lst [V.int c])
        refine ⟨D1, u, _, _, rfl, rfl, su _ _ hD, upd_same, by rw [List.length_map, List.length_replicate]; exact small (by show _ + 1 ≤ _; omega), fun F nF => ?_⟩
        obtain ⟨f, hf⟩ : ∃ f, f = List.replicate (cell % 2).toNat 0 ++ [c] := ⟨_, rfl⟩
        have ff : Fa f := hf ▸ fa_of (by omega) (by omega)
        have sF := (sm1.trans su).trans (same_upd nF (o := .lst ((List.replicate (cell % 2).toNat (0 : Int)).map V.int ++ [V.int c])))
        have hF : IL (upd (upd G4 u (.lst [V.int c])) F (.lst ((List.replicate (cell % 2).toNat (0 : Int)).map V.int ++ [V.int c]))) F f := by
          show _ = _
          rw [upd_same, hf, ← app_ints]
        have mp5 := mp.same sF
        generalize upd (upd G4 u _) F _ = G5 at sF hF mp5
        have hc : atI (f.map V.int) (-1) = some (.int c) := by rw [hf, List.map_append]; exact L2.atI_last _ _
        have hds5 := hds.same sF
        clear hf sF su hD nF nu sm1 nD1 mp
        refine ⟨.ref F, rfl, _, rfl, F, _, _, _, rfl, rfl, hF.sq, hc, rfl, _, rfl, ite2 (fun _ => ?_) (fun _ => ⟨H0, 7 ^ m * 2 ^ 32, p0, D, F, ps0, tab, as, cell, f, x3, x5, x6, some (.int (m : Nat)), x11, x12, x13, x14, rfl, hR, hC, hRC, mp5, md, Nat.mul_le_mul_right _ (Nat.pow_le_pow_right (by decide) (by omega)), hF, ff, fun G' as' tab' y5 y6 y11 y12 mp' md' => ⟨tab', as', _, _, _, _, _, _, _, _, _, _, rfl, mp', by rw [Nat.pow_succ, Nat.mul_comm (7 ^ m) 7, Nat.mul_assoc]; exact md'⟩⟩)⟩
        refine ⟨_, rfl, _, _, rfl, rfl, _, rfl, ite2 (fun h => ?_) (fun _ => ⟨H0, 7 ^ m * 2 ^ 32, p0, D, F, ps0, tab, as, cell, f, x3, x5, x6, some (.int (m : Nat)), x11, x12, x13, x14, rfl, hR, hC, hRC, mp5, md, Nat.mul_le_mul_right _ (Nat.pow_le_pow_right (by decide) (by omega)), hF, ff, fun G' as' tab' y5 y6 y11 y12 mp' md' => ⟨tab', as', _, _, _, _, _, _, _, _, _, _, rfl, mp', by rw [Nat.pow_succ, Nat.mul_comm (7 ^ m) 7, Nat.mul_assoc]; exact md'⟩⟩)⟩
        have r2 : 1 < R := by have := of_decide_eq_true h; omega
        refine ⟨_, rfl, _, _, rfl, rfl, ⟨by decide, by decide⟩, .inl ⟨_, rfl, _, _, rfl, rfl, (by show (0 : Int) < _; decide), rfl, _, rfl, ite2 (fun _ => ?_) (fun _ => ⟨H0, 7 ^ m * 2 ^ 32, p0, D, F, ps0, tab, as, cell, f, x3, x5, x6, some (.int (m : Nat)), x11, x12, x13, x14, rfl, hR, hC, hRC, mp5, md, Nat.mul_le_mul_right _ (Nat.pow_le_pow_right (by decide) (by omega)), hF, ff, fun G' as' tab' y5 y6 y11 y12 mp' md' => ⟨tab', as', _, _, _, _, _, _, _, _, _, _, rfl, mp', by rw [Nat.pow_succ, Nat.mul_comm (7 ^ m) 7, Nat.mul_assoc]; exact md'⟩⟩)⟩⟩
        -- a row mixed
        obtain ⟨i, ei, hi⟩ := place (n := R) (by omega) (cell / 28)
        obtain ⟨o, eo, ho, ne⟩ := other hi r2 (cell / 400)
        refine ⟨_, rfl, _, _, rfl, rfl, ⟨by decide, by decide⟩, .inl ⟨_, rfl, _, rfl, _, _, rfl, rfl, by omega, ?_⟩⟩
        rw [show (fun i j => V.int (i % j)) (cell / 28) (R : Int) = V.int (i : Nat) from congrArg V.int ei]
        refine ⟨_, rfl, _, _, rfl, rfl, _, rfl, _, _, rfl, rfl, ⟨by decide, by decide⟩, .inl ⟨_, rfl, _, rfl, _, _, rfl, rfl, _, _, rfl, rfl, by omega, _, _, rfl, rfl, .inl ⟨_, rfl, _, rfl, _, _, rfl, rfl, by omega, ?_⟩⟩⟩
        rw [show (fun i j => V.int (i % j)) ((i : Nat) + 1 + cell / 400 % ((R : Int) - 1)) (R : Int) = V.int (o : Nat) from congrArg V.int eo]
        have lT := md.len
        have las := mp5.len
        have er := List.getElem?_eq_getElem (show i < tab.length by omega)
        have eo2 := List.getElem?_eq_getElem (show o < tab.length by omega)
        have wr := md.wid _ (List.getElem_mem (show i < tab.length by omega))
        have wo := md.wid _ (List.getElem_mem (show o < tab.length by omega))
        have pr := md.po _ (List.getElem_mem (show i < tab.length by omega))
        have po2 := md.po _ (List.getElem_mem (show o < tab.length by omega))
        generalize tab[i] = rowi at er wr pr
        generalize tab[o] = rowo at eo2 wo po2
        have hB16 : 7 ^ m * 2 ^ 32 ≤ 7 ^ 16 * 2 ^ 32 := Nat.mul_le_mul_right _ (Nat.pow_le_pow_right (by decide) (by omega))
        refine ⟨_, rfl, (C : Nat), rfl, by omega, by omega, fun L nL => ?_⟩
        rw [Int.toNat_natCast]
        refine lc_inv (walk_range (lo := 0) (n := C)) (fun j G2 ys => ∃ es : List Addr, ys = es.map V.ref ∧ A2 (fun e p => (e ≠ D ∧ e ∉ as ∧ e ≠ L) ∧ IL G2 e p) es ((List.range j).map fun j => DP.mix f (rowi.getD j []) (rowo.getD j []))) nL (fun _ _ => trivial) (small' (by omega)) ⟨[], rfl, .nil⟩ (fun j y G2 Hx ys hj sm hL hR2 yy Qt Qf qt qf => ?_) (fun G2 ys sm hL hR2 => ?_)
        · obtain ⟨rfl, rfl⟩ := yy
          rw [show (fun m : Nat => V.int ((0 : Int) + (m : Int))) j = V.int ((j : Nat) : Int) from congrArg V.int (Int.zero_add _)]
          obtain ⟨es, rfl, hE⟩ := hR2
          have mp2 := mp5.same sm
          obtain ⟨ai, es1, hai, _, nai, hes1, hE1⟩ := mp2.row er
          obtain ⟨ao, es2, hao, _, nao, hes2, hE2⟩ := mp2.row eo2
          obtain ⟨e1, he1, _, hI1⟩ := el_at (G := Hx) hE1 (j := j) (by omega)
          obtain ⟨e2, he2, _, hI2⟩ := el_at (G := Hx) hE2 (j := j) (by omega)
          have p1 := DP.po_mem pr j
          have p2 := DP.po_mem po2 j
          have hF2 := hF.same sm
          refine ⟨rfl, .ref D, rfl, _, rfl, D, _, _, _, rfl, rfl, .of mp2.hD, hai, _, rfl, ai, _, _, _, rfl, rfl, .of hes1, he1, .ref F, rfl, .ref D, rfl, _, rfl, D, _, _, _, rfl, rfl, .of mp2.hD, hao, _, rfl, ao, _, _, _, rfl, rfl, .of hes2, he2, F, e2, f, _, rfl, hF2, hI2, Nat.le_trans ff.1 (by decide), Nat.le_trans p2.2.1 (by decide), ff.bd, Po.bd p2 hB16, fun H1 t s1 nt ht => ?_⟩
          have lpm := DP.pmul_len1 f (rowo.getD j [])
          have lf := ff.1
          have lp2 := p2.2.1
          refine ⟨e1, t, _, _, rfl, hI1.same s1, ht, Nat.le_trans p1.2.1 (by decide), by omega, fun H2 r s2 nr hr2 => ?_⟩
          have s12 := s1.trans s2
          have nr0 : Hx r = none := s1.free nr
          have rD : r ≠ D := fun z => by rw [z, mp2.hD] at nr0; cases nr0
          have rL : r ≠ L := fun z => by rw [z, hL] at nr0; cases nr0
          have ras : r ∉ as := fun z => by
            obtain ⟨_, _, w⟩ := mp2.hA.mem r z
            obtain ⟨es3, x, _⟩ := w.2.2
            rw [nr0] at x; cases x
          refine qt _ _ s12 ⟨es ++ [r], by rw [List.map_append]; rfl, ?_⟩
          rw [List.range_succ, List.map_append]
          exact A2.snoc ⟨⟨rD, ras, rL⟩, (upd_ne rL).trans hr2⟩ (hE.mono fun b p z => ⟨z.1, (upd_ne z.1.2.2).trans (z.2.same s12)⟩)
        obtain ⟨es, rfl, hE⟩ := hR2
        obtain ⟨line, hline⟩ : ∃ line, line = DP.mixrow C f rowi rowo := ⟨_, rfl⟩
        have hE : A2 (fun e p => (e ≠ D ∧ e ∉ as ∧ e ≠ L) ∧ IL G2 e p) es line := by rw [hline]; exact hE
        have les : es.length = C := by rw [hE.len, hline]; unfold DP.mixrow; rw [List.length_map, List.length_range]
        have lline : line.length = C := by rw [← hE.len, les]
        refine ⟨by show 1 ≤ sizeLine; decide, fun u nu => ?_⟩
        have su := same_upd nu (o := .lst [V.int 0])
        refine ⟨.ref L, rfl, L, rfl, ⟨_, .of (su _ _ hL)⟩, fun M nM => ?_⟩
        refine lc_inv (walk_list (xs := es.map V.ref)) (fun i G ys => ys = ((line.take i).map fun e => ((e.length : Nat) : Int)).map V.int) nM (fun G s => .of (s _ _ (su _ _ hL))) (small' (by rw [List.length_map]; omega)) rfl (fun i y G3 Hx ys hi sm3 hM hR3 yy Qt Qf qt qf => ?_) (fun G3 ys sm3 hM hR3 => ?_)
        · obtain ⟨rfl, hy⟩ := yy
          obtain ⟨e, ee, rfl⟩ := ref_at hy
          obtain ⟨p, ep, _, hI⟩ := hE.get ee
          refine ⟨rfl, .ref e, rfl, e, _, rfl, .inl ((hI.same su).same sm3).sq, ?_⟩
          refine qt _ _ (Same.refl _) ?_
          rw [List.length_map, hR3, take_snoc ep, List.map_append, List.map_append]
          rfl
        rw [List.length_map, les, ← lline, List.take_length] at hR3
        subst hR3
        have s23 := su.trans sm3
        refine ⟨u, M, _, _, rfl, rfl, sm3 _ _ upd_same, hM, by rw [List.length_map, List.length_map, lline]; exact small (by show 1 + _ ≤ _; omega), fun v nv => ?_⟩
        have sv := s23.trans (same_upd nv (o := .lst ([V.int 0] ++ (line.map fun e => ((e.length : Nat) : Int)).map V.int)))
        refine ⟨v, 0 :: line.map fun e => ((e.length : Nat) : Int), rfl, .of upd_same, Nat.succ_pos _, fun mx hm2 hg => ?_⟩
        refine ⟨_, _, rfl, rfl, _, rfl, ite2 (fun h => ?_) (fun _ => ?_)⟩
        rotate_left
        · exact ⟨tab, as, _, _, _, _, _, _, _, _, _, _, rfl, (mp5.same sm).same sv, mp_up md (Nat.mul_le_mul_right _ (Nat.pow_le_pow_right (by decide) (Nat.le_succ m)))⟩
        have m6 : mx < 6 := of_decide_eq_true h
        have l5 : ∀ e ∈ DP.mixrow C f rowi rowo, e.length ≤ 5 := fun e he => by
          have := hg _ (List.mem_cons_of_mem _ (List.mem_map_of_mem (f := fun e : List Int => ((e.length : Nat) : Int)) (show e ∈ line by rw [hline]; exact he)))
          omega
        have md2 := md.row ne er eo2 ff.1 ff.2.1 l5
        have mp6 := mp5.new (k := i) (L := L) (es := es) (row := line) (sm.trans sv) nL (sv _ _ hL) (hE.mono fun e p z => ⟨z.1, z.2.same sv⟩)
        have mp7 := (mp5.same sm).same sv
        refine ⟨.ref L, rfl, .ref D, rfl, _, rfl, D, _, _, _, rfl, rfl, mp7.hD, ix_ok rfl (by rw [List.length_map]; omega), ?_⟩
        refine ⟨tab.set i line, as.set i L, _, _, _, _, _, _, _, _, _, _, rfl, mp6, ?_⟩
        rw [hline, Nat.pow_succ, Nat.mul_comm (7 ^ m) 7, Nat.mul_assoc]
        exact md2
      · obtain ⟨tab, as, x3, x5, x6, x8, x9, x10, x11, x12, x13, x14, rfl, mp, md⟩ := hP
        have hbs3 := mp.sm _ _ hbs
        have hB3 := hG0 mp.sm
        refine ⟨.ref D, rfl, .ref p0, rfl, p0, rfl, ⟨_, .of hbs3⟩, fun qa nq => ?_⟩
        refine lc_inv (walk_list (xs := bs.map V.ref)) (fun i G ys => ∃ cs : List Addr, ys = cs.map V.ref ∧ A2 (fun e x => e ≠ qa ∧ IL G e x) cs ((ps0.take i).filter fun p => decide (0 < p.length))) nq (fun G s => .of (s _ _ hbs3)) (small' (by rw [List.length_map]; omega)) ⟨[], rfl, .nil⟩ (fun i y G4 Hx ys hi sm4 hD4 hR4 yy Qt Qf qt qf => ?_) (fun G4 ys sm4 hD4 hR4 => ?_)
        · obtain ⟨rfl, hy⟩ := yy
          obtain ⟨cs, rfl, hC4⟩ := hR4
          obtain ⟨e, ee, rfl⟩ := ref_at hy
          obtain ⟨x, ex, hx⟩ := hB3.get ee
          have hx4 := hx.same sm4
          have eq : e ≠ qa := fun z => by
            have h : _ = some _ := hx
            rw [z, nq] at h; cases h
          refine ⟨rfl, .ref e, rfl, e, _, rfl, .inl hx4.sq, _, _, rfl, rfl, _, rfl, ?_⟩
          rw [List.length_map]
          by_cases h : 0 < x.length
          · rw [decide_eq_true (by omega)]
            refine iteT ⟨_, rfl, qt _ _ (Same.refl _) ⟨cs ++ [e], by rw [List.map_append]; rfl, ?_⟩⟩
            rw [take_snoc ex, List.filter_append, show [x].filter (fun p => decide (0 < p.length)) = [x] by rw [List.filter_cons, decide_eq_true h]; rfl]
            exact A2.snoc ⟨eq, (upd_ne eq).trans hx4⟩ (hC4.mono fun b y z => ⟨z.1, (upd_ne z.1).trans z.2⟩)
          · rw [decide_eq_false (by omega)]
            refine iteF (qf _ (Same.refl _) ⟨cs, rfl, ?_⟩)
            rw [take_snoc ex, List.filter_append, show [x].filter (fun p => decide (0 < p.length)) = [] by rw [List.filter_cons, decide_eq_false h]; rfl, List.append_nil]
            exact hC4
        obtain ⟨cs, rfl, hC4⟩ := hR4
        rw [List.length_map, lbs, ← lp0, List.take_length] at hC4
        refine ⟨by show 2 ≤ sizeLine; decide, fun t nt => ?_⟩
        have st := sm4.trans (same_upd nt (o := .tup [V.ref D, V.ref qa]))
        have mp9 := mp.same st
        exact q _ t D qa tab ps0 (sH0.trans mp9.sm) mp9.tbr md lp0 ⟨cs, (same_upd nt) _ _ hD4, hC4.mono fun _ _ z => z.2.same (same_upd nt)⟩ po0 (.of upd_same)
end
end K03
-- U3
namespace K03
open PySem PySem.Spec PyProof.Rows L2
open K00 (cf pval Can)
open DP (Po rdeg reach)
theorem foldl_sum (l : List Nat) (k : Nat) : (l ++ [k]).sum = l.sum + k := by rw [List.sum_append]; rfl
section
variable {P : Program} {w : World} {K : PySem.W.Frag} {mg : Str → Option Value} {base : Heap}
def sp_law_point : Sp := fun vs H Q _ => ∃ (q : Addr) (ps : List (List Int)) (at0 : Nat), vs = [.ref q] ∧ RowL H q ps ∧ ps.length ≤ 100 ∧ (∀ e ∈ ps, Po (2 ^ 32) e) ∧ at0 < 60 ∧ (∀ k : Nat, k < at0 → ∃ p ∈ ps, pval ((k : Nat) : Int) p = 0) ∧ (∀ p ∈ ps, pval ((at0 : Nat) : Int) p ≠ 0) ∧ ∀ H', Same H H' → Q (.int (at0 : Nat)) H'
theorem ok_law_point (T : Txt K mg) : FnOk P w K mg base CX0 2 T.law_point.a T.law_point.fd ["parts"] sp_law_point := by
  refine T.law_point.F.ok sc_law_point (fun vs H Q E h => ?_) (fun cdv A outer s H vs Q E hr h => ?_)
  · obtain ⟨q, ps, at0, rfl, _⟩ := h
    rfl
  · obtain ⟨q, ps, at0, rfl, ⟨es, hes, hE⟩, lp, po, h60, lo, hi0, qq⟩ := h
    refine ⟨_, (pss_cons (ps_for PassesOwn.never rfl (pi_range1 (by rfl) T.m_range (pa_cons pe_int pa_nil)) (pg_name (i := 1) sc_law_point.nd rfl (.inr rfl))
        (pss_one (ps_if (pt_val (pe_callB (cr_all rfl) (by rfl) T.m_all (by decide +kernel) (pa_cons (pe_lc (own := [("part", 2)]) rfl sc_law_point.nd (pi_list (pv 0)) (blkOk_by (N := ["parts", "at", "part"]) (sc := defScope s_law_point) (by decide +kernel)) (fun _ _ _ _ _ => (pg_name (i := 2) sc_law_point.nd rfl (.inl rfl))) (fun _ _ _ _ _ => pts_nil) (fun _ _ _ _ _ => (pe_cmpR op_ne (pe_call (ok_law_value T) (hr.mono (by decide)) (by rfl) T.law_value.g T.law_value.F.kp T.law_value.b .nil pass0 (pa_cons (pv 2) (pa_cons (pv 1) pa_nil))) pe_int (nomark _)))) pa_nil)))
          (pss_one (ps_ret (pv 1)))
          pss_nil)))
      (pss_one (ps_ret (pe_un un_neg pe_int)))), ?_⟩
    have le := hE.len
    refine ⟨60, rfl, by decide, by decide, ?_⟩
    refine for_range (n := 60) (lo := 0) (fun i σ G => Same H G ∧ i ≤ at0 ∧ ∃ x1 x2 : Option V, σ = [some (.ref q), x1, x2]) ⟨.refl _, Nat.zero_le _, _, _, rfl⟩ (fun i σ G hi hP => ?_) (fun σ G hP => ?_)
    · obtain ⟨sm, hia, x1, x2, rfl⟩ := hP
      rw [show (0 : Int) + (i : Int) = ((i : Nat) : Int) by omega]
      refine ⟨.ref q, rfl, q, rfl, ⟨_, .of (sm _ _ hes)⟩, fun D nD => ?_⟩
      refine lc_inv (walk_list (xs := es.map V.ref)) (fun j G2 ys => ys = ((ps.take j).map fun p => !decide (V.int (pval ((i : Nat) : Int) p) = V.int 0)).map V.bl) nD (fun G s => .of (s _ _ (sm _ _ hes))) (small' (by rw [List.length_map]; omega)) rfl (fun j y G2 Hx ys hj sm2 hD hR yy Qt Qf qt qf => ?_) (fun G2 ys sm2 hD hR => ?_)
      · obtain ⟨rfl, hy⟩ := yy
        obtain ⟨e, ee, rfl⟩ := ref_at hy
        obtain ⟨p, ep, hI⟩ := hE.get ee
        have pp := po p (List.mem_of_getElem? ep)
        refine ⟨rfl, .ref e, rfl, _, rfl, e, p, _, rfl, (hI.same sm).same sm2, Nat.le_trans pp.2.1 (by decide), Po.bd pp (by decide), by omega, rfl, ?_⟩
        refine qt _ _ (Same.refl _) ?_
        rw [hR, take_snoc ep, List.map_append, List.map_append]
        rfl
      · rw [List.length_map, le, List.take_length] at hR
        subst hR
        refine ⟨D, _, rfl, .of hD, _, rfl, ?_⟩
        have sm3 := sm.trans sm2
        by_cases e : i = at0
        · subst e
          rw [show (ps.map fun p => !decide (V.int (pval ((i : Nat) : Int) p) = V.int 0)).all id = true from by
            rw [List.all_eq_true]
            intro b hb
            obtain ⟨p, hp, rfl⟩ := List.mem_map.mp hb
            rw [decide_eq_false (fun z => hi0 p hp (V.int.inj z))]
            rfl]
          exact iteT ⟨_, rfl, qq G2 sm3⟩
        · obtain ⟨p, hp, hz⟩ := lo i (by omega)
          rw [show (ps.map fun p => !decide (V.int (pval ((i : Nat) : Int) p) = V.int 0)).all id = false from by
            rw [List.all_eq_false]
            exact ⟨_, List.mem_map_of_mem hp, by rw [hz]; decide⟩]
          exact iteF ⟨sm3, by omega, _, _, rfl⟩
    · obtain ⟨sm, hia, _⟩ := hP
      omega
/-- rows that stand beside the table's list -/
def RowX (t : Addr) (G : Hp) (b : Addr) (row : List (List Int)) : Prop := b ≠ t ∧ ∃ es : List Addr, G b = some (.lst (es.map V.ref)) ∧ A2 (fun e p => e ≠ t ∧ IL G e p) es row
theorem RowX.same {t b : Addr} {G G' : Hp} {row : List (List Int)} (s : Same G G') (h : RowX t G b row) : RowX t G' b row := ⟨h.1, let ⟨es, x, y⟩ := h.2; ⟨es, s _ _ x, y.mono fun _ _ z => ⟨z.1, z.2.same s⟩⟩⟩
theorem RowX.put {t b : Addr} {G : Hp} {o : HO} {row : List (List Int)} (h : RowX t G b row) : RowX t (upd G t o) b row := ⟨h.1, let ⟨es, x, y⟩ := h.2; ⟨es, (upd_ne h.1).trans x, y.mono fun _ _ z => ⟨z.1, (upd_ne z.1).trans z.2⟩⟩⟩
def szs (ms : List Nat) : List Int := ms.map fun m => ((m : Nat) : Int)
/-- the greatest size less one is the row's degree -/
theorem rdeg_sz {ms : List Nat} {row : List (List Int)} (h : row.map List.length = ms) {z : Int} (hz : z ∈ (1 : Int) :: szs ms) (g : ∀ y ∈ (1 : Int) :: szs ms, y ≤ z) : z - 1 = ((rdeg row : Nat) : Int) := by
  subst h
  refine rdeg_is ?_ fun y hy => ?_
  · rcases List.mem_cons.mp hz with e | e
    · rw [e]; exact List.mem_cons_self
    · unfold szs at e
      rw [List.map_map] at e
      obtain ⟨p, hp, rfl⟩ := List.mem_map.mp e
      exact List.mem_cons_of_mem _ (List.mem_map.mpr ⟨p, hp, rfl⟩)
  · rcases List.mem_cons.mp hy with e | e
    · have := g 1 List.mem_cons_self
      omega
    · obtain ⟨p, hp, rfl⟩ := List.mem_map.mp e
      have := g ((p.length : Nat) : Int) (List.mem_cons_of_mem _ (by unfold szs; rw [List.map_map]; exact List.mem_map.mpr ⟨p, hp, rfl⟩))
      omega
def sp_law_reaches : Sp := fun vs H Q _ => ∃ (a : Addr) (ds : List Int), vs = [.ref a] ∧ IL H a ds ∧ ∀ H', Same H H' → Q (.bl true) H'
theorem ok_law_reaches (T : Txt K mg) : FnOk P w K mg base CX0 3 T.law_reaches.a T.law_reaches.fd ["draws"] sp_law_reaches := by
  refine T.law_reaches.F.ok sc_law_reaches (fun vs H Q E h => ?_) (fun cdv A outer s H vs Q E hr h => ?_)
  · obtain ⟨a, ds, rfl, _⟩ := h
    rfl
  · obtain ⟨a, ds, rfl, ha, qq⟩ := h
    refine ⟨_, (pss_cons (ps_set (i := 1) sc_law_reaches.nd rfl (.inl rfl) (pe_lst pa_nil))
      (pss_cons (ps_set (i := 2) sc_law_reaches.nd rfl (.inl rfl) pe_int)
      (pss_cons (ps_for PassesOwn.never rfl (pi_range1 (by rfl) T.m_range (pa_cons (pe_call (ok_law_at T) (hr.mono (by decide)) (by rfl) T.law_at.g T.law_at.F.kp T.law_at.b .nil pass0 (pa_cons (pv 0) (pa_cons pe_int (pa_cons pe_int pa_nil)))) pa_nil)) (pg_name (i := 3) sc_law_reaches.nd rfl (.inr rfl))
        (pss_cons (ps_setLc (i := 4) (own := [("j", 6)]) rfl sc_law_reaches.nd rfl rfl (sw_true rfl rfl rfl (by decide +kernel)) (pi_range1 (by rfl) T.m_range (pa_cons pe_int pa_nil)) (blkOk_by (N := ["draws", "table", "due", "i", "sizes", "told", "j", "size", "k"]) (sc := defScope s_law_reaches) (by decide +kernel)) (fun _ _ _ _ _ => (pg_name (i := 6) sc_law_reaches.nd rfl (.inl rfl))) (fun _ _ _ _ _ => pts_nil) (fun _ _ _ _ _ => (pe_op op_mul (pe_call (ok_law_at T) (hr.mono (by decide)) (by rfl) T.law_at.g T.law_at.F.kp T.law_at.b .nil pass0 (pa_cons (pv 0) (pa_cons (pe_op op_add (pe_op op_add pe_int (pv 3)) (pe_op op_mul pe_int (pv 6))) (pa_cons pe_int pa_nil)))) (pe_callTy call_int1 (by rfl) T.m_int (by decide +kernel) (pa_cons (pe_cmpR op_gt (pe_call (ok_law_at T) (hr.mono (by decide)) (by rfl) T.law_at.g T.law_at.F.kp T.law_at.b .nil pass0 (pa_cons (pv 0) (pa_cons (pe_op op_add pe_int (pv 3)) (pa_cons pe_int pa_nil)))) pe_int (nomark _)) pa_nil)))))
        (pss_cons (ps_expr (pe_bm PySem.F.plainAttrs_list PySem.F.slot_list_append PySem.F.type_list_append mt_append (pv 1) (pa_cons (pe_lc (own := [("size", 7)]) rfl sc_law_reaches.nd (pi_list (pv 4)) (blkOk_by (N := ["draws", "table", "due", "i", "sizes", "told", "j", "size", "k"]) (sc := defScope s_law_reaches) (by decide +kernel)) (fun _ _ _ _ _ => (pg_name (i := 7) sc_law_reaches.nd rfl (.inr rfl))) (fun _ _ _ _ _ => pts_nil) (fun _ _ _ _ _ => (pe_lc (own := [("k", 8)]) rfl sc_law_reaches.nd (pi_range1 (by rfl) T.m_range (pa_cons (pv 7) pa_nil)) (blkOk_by (N := ["draws", "table", "due", "i", "sizes", "told", "j", "size", "k"]) (sc := { kind := .function, names := [(".0", .local), ("size", .cell), ("range", .globalImplicit), ("i", .cell)], isGenerator := false, isCoroutine := false, more := [] }) (by decide +kernel)) (fun _ _ _ _ _ => (pg_name (i := 8) sc_law_reaches.nd rfl (.inl rfl))) (fun _ _ _ _ _ => pts_nil) (fun _ _ _ _ _ => (pe_op op_mul (pe_callTy call_int1 (by rfl) T.m_int (by decide +kernel) (pa_cons (pe_cmpR op_eq (pv 8) (pe_op op_sub (pv 7) pe_int) (nomark _)) pa_nil)) (pe_op op_sub (pv 3) pe_int)))))) pa_nil)))
        (pss_one (ps_set (i := 2) sc_law_reaches.nd rfl (.inl rfl) (pe_op op_sub (pe_op op_add (pv 2) (pe_callB (cr_max rfl) (by rfl) T.m_max (by decide +kernel) (pa_cons (pe_op op_cat (pe_lst (pa_cons pe_int pa_nil)) (pv 4)) pa_nil))) pe_int))))))
      (pss_cons (ps_set (i := 5) sc_law_reaches.nd rfl (.inl rfl) (pe_call (ok_reach T) (hr.mono (by decide)) (by rfl) T.reach.g T.reach.F.kp T.reach.b .nil pass0 (pa_cons (pv 1) pa_nil)))
      (pss_one (ps_ret (pe_and (pe_call (ok_law_is_integer T) (hr.mono (by decide)) (by rfl) T.law_is_integer.g T.law_is_integer.F.kp T.law_is_integer.b .nil pass0 (pa_cons (pv 5) pa_nil)) (pe_one (pe_cmpR op_eq (pv 5) (pv 2) (nomark _)))))))))), ?_⟩
    refine ⟨Nat.zero_le _, fun t nt => ?_⟩
    have s0 := same_upd nt (o := .lst [])
    refine ⟨.ref a, rfl, a, ds, 55, 13, rfl, ha.same s0, by decide, by decide, fun n0 n00 n01 => ?_⟩
    obtain ⟨n, rfl, hn⟩ : ∃ n : Nat, n0 = (n : Nat) ∧ n ≤ 12 := ⟨n0.toNat, by omega, by omega⟩
    refine ⟨(n : Nat), rfl, by omega, by omega, ?_⟩
    rw [Int.toNat_natCast]
    refine for_range (n := n) (lo := 0) (fun i σ G => Same H G ∧ ∃ (tab : DP.Tb) (bs : List Addr) (x3 x4 x5 x6 x7 x8 : Option V), σ = [some (.ref a), some (.ref t), some (.int ((reach tab : Nat) : Int)), x3, x4, x5, x6, x7, x8] ∧ G t = some (.lst (bs.map V.ref)) ∧ A2 (RowX t G) bs tab ∧ tab.length = i ∧ ∀ row ∈ tab, row.length = 3) ⟨s0, [], [], _, _, _, _, _, _, rfl, upd_same, .nil, rfl, fun _ z => by cases z⟩ (fun i σ G hi hP => ?_) (fun σ G hP => ?_)
    · obtain ⟨sm, tab, bs, x3, x4, x5, x6, x7, x8, rfl, ht, hB, lt, w3⟩ := hP
      rw [show (0 : Int) + (i : Int) = ((i : Nat) : Int) by omega]
      have hds := ha.same sm
      refine ⟨3, rfl, by decide, by decide, fun S nS => ?_⟩
      refine lc_inv (walk_range (lo := 0) (n := 3)) (fun j G ys => ∃ ms : List Nat, ys = (szs ms).map V.int ∧ ms.length = j ∧ ∀ m ∈ ms, m ≤ 13) nS (fun _ _ => trivial) (small' (by decide)) ⟨[], rfl, rfl, fun _ z => by cases z⟩ (fun j y G2 Hx ys hj sm2 hS hR yy Qt Qf qt qf => ?_) (fun G2 ys sm2 hS hR => ?_)
      · obtain ⟨rfl, rfl⟩ := yy
        obtain ⟨ms, rfl, lm, m13⟩ := hR
        have hds2 := hds.same sm2
        refine ⟨rfl, .ref a, rfl, _, rfl, _, _, rfl, rfl, _, rfl, _, _, rfl, rfl, .inl ⟨by decide, by decide⟩, _, _, rfl, rfl, a, ds, _, 14, rfl, hds2, by omega, by decide, fun r r0 r1 => ?_⟩
        refine ⟨.ref a, rfl, _, rfl, _, _, rfl, rfl, a, ds, _, 5, rfl, hds2, by omega, by decide, fun u u0 u1 => ⟨_, _, rfl, rfl, .inr ⟨_, rfl, ?_⟩⟩⟩
        obtain ⟨b, eb, hb⟩ : ∃ b : Int, (if decide (0 < u) = true then (1 : Int) else 0) = b ∧ (b = 0 ∨ b = 1) := ⟨_, rfl, by split <;> simp⟩
        rw [eb]
        refine ⟨_, _, rfl, rfl, .inl ⟨by omega, by omega⟩, ?_⟩
        obtain ⟨m, em, hm⟩ : ∃ m : Nat, r * b = (m : Nat) ∧ m ≤ 13 := by
          rcases hb with rfl | rfl
          · exact ⟨0, by omega, by omega⟩
          · exact ⟨r.toNat, by omega, by omega⟩
        refine qt _ _ (Same.refl _) ⟨ms ++ [m], ?_, by rw [List.length_append, lm]; rfl, fun z hz => ?_⟩
        · unfold szs
          rw [List.map_append, List.map_append, show (fun i j => V.int (i * j)) r b = V.int (m : Nat) from congrArg V.int em]
          rfl
        · rcases List.mem_append.mp hz with w | w
          · exact m13 z w
          · rw [List.mem_singleton.mp w]; exact hm
      obtain ⟨ms, rfl, lm, m13⟩ := hR
      have hS : IL G2 S (szs ms) := hS
      have ht2 := sm2 _ _ ht
      have hB2 := hB.mono fun _ _ z => z.same sm2
      refine ⟨.ref t, rfl, .inl ⟨rfl, _, .of ht2⟩, .ref S, rfl, S, rfl, ⟨_, hS.sq⟩, fun D nD => ?_⟩
      have Dt : D ≠ t := fun z => by rw [z, ht2] at nD; cases nD
      refine lc_inv (walk_list (xs := (szs ms).map V.int)) (fun j G3 ys => ∃ (es : List Addr) (row : List (List Int)), ys = es.map V.ref ∧ A2 (fun e p => (e ≠ t ∧ e ≠ D) ∧ IL G3 e p) es row ∧ row.map List.length = ms.take j) nD (fun G s => (hS.same s).sq) (small' (by unfold szs; rw [List.length_map, List.length_map, lm]; decide)) ⟨[], [], rfl, .nil, rfl⟩ (fun j y G3 Hx ys hj sm3 hD hR3 yy Qt Qf qt qf => ?_) (fun G3 ys sm3 hD hR3 => ?_)
      · obtain ⟨rfl, hy⟩ := yy
        obtain ⟨es, row, rfl, hE, lr⟩ := hR3
        obtain ⟨m, em, rfl⟩ : ∃ m : Nat, ms[j]? = some m ∧ y = .int (m : Nat) := by
          unfold szs at hy
          have hy : (List.map V.int (List.map (fun m => ((m : Nat) : Int)) ms))[j]? = some y := hy
          rw [List.getElem?_map, List.getElem?_map] at hy
          cases e : ms[j]? with
          | none => rw [e] at hy; cases hy
          | some m => rw [e] at hy; exact ⟨m, rfl, (Option.some.inj hy).symm⟩
        have hm := m13 m (List.mem_of_getElem? em)
        refine ⟨rfl, _, rfl, (m : Nat), rfl, by omega, by omega, fun D5 nD5 => ?_⟩
        rw [Int.toNat_natCast]
        refine lc_inv (walk_range (lo := 0) (n := m)) (fun k G4 ys => ∃ ns : List Int, ys = ns.map V.int ∧ ns.length = k) nD5 (fun _ _ => trivial) (small' (by omega)) ⟨[], rfl, rfl⟩ (fun k y4 G4 Hx4 ys4 hk sm4 hD4 hR4 yy4 Qt4 Qf4 qt4 qf4 => ?_) (fun G4 ys4 sm4 hD4 hR4 => ?_)
        · obtain ⟨rfl, rfl⟩ := yy4
          obtain ⟨ns, rfl, ln⟩ := hR4
          refine ⟨rfl, _, rfl, _, rfl, _, _, rfl, rfl, rfl, .inr ⟨_, rfl, ?_⟩⟩
          obtain ⟨b, eb, hb⟩ : ∃ b : Int, (if decide (V.int (0 + (k : Int)) = V.int ((m : Int) - 1)) = true then (1 : Int) else 0) = b ∧ (b = 0 ∨ b = 1) := ⟨_, rfl, by split <;> simp⟩
          refine ⟨_, rfl, _, _, rfl, rfl, _, _, rfl, rfl, .inl ⟨?_, ?_⟩, ?_⟩
          · split <;> decide
          · split <;> decide
          · exact qt4 _ _ (Same.refl _) ⟨ns ++ [_], app_ints, by rw [List.length_append, ln]; rfl⟩
        · obtain ⟨ns, rfl, ln⟩ := hR4
          have d5t : D5 ≠ t := fun z => by rw [z, sm3 _ _ ht2] at nD5; cases nD5
          have d5D : D5 ≠ D := fun z => by rw [z, hD] at nD5; cases nD5
          refine qt _ _ sm4 ⟨es ++ [D5], row ++ [ns], by rw [List.map_append]; rfl, A2.snoc ⟨⟨d5t, d5D⟩, (upd_ne d5D).trans hD4⟩ (hE.mono fun b y z => ⟨z.1, (upd_ne z.1.2).trans (z.2.same sm4)⟩), ?_⟩
          rw [List.map_append, lr, take_snoc em]
          show _ ++ [ns.length] = _
          rw [ln]
      obtain ⟨es, row, rfl, hE, lr⟩ := hR3
      have lsz : ((szs ms).map V.int).length = 3 := by unfold szs; rw [List.length_map, List.length_map, lm]
      rw [lsz, List.take_of_length_le (by omega)] at lr
      have lrow : row.length = 3 := by have := congrArg List.length lr; rw [List.length_map, lm] at this; exact this
      have ht3 := sm3 _ _ ht2
      have lbs : bs.length = i := by rw [hB.len, lt]
      refine ⟨t, _, _, rfl, rfl, ht3, by rw [List.length_map]; exact small' (by omega), ?_⟩
      have ebs : bs.map V.ref ++ [V.ref D] = (bs ++ [D]).map V.ref := by rw [List.map_append]; rfl
      rw [ebs]
      have smT : Same H (upd G3 t (.lst ((bs ++ [D]).map V.ref))) := same_over (sm.trans (sm2.trans sm3)) nt
      have hrow : RowX t G3 D row := ⟨Dt, es, hD, hE.mono fun _ _ z => ⟨z.1.1, z.2⟩⟩
      have hBT : A2 (RowX t (upd G3 t (.lst ((bs ++ [D]).map V.ref)))) (bs ++ [D]) (tab ++ [row]) := A2.snoc hrow.put ((hB2.mono fun _ _ z => z.same sm3).mono fun _ _ z => z.put)
      have hST : IL (upd G3 t (.lst ((bs ++ [D]).map V.ref))) S (szs ms) := by
        have St : S ≠ t := fun z => by rw [z, ht] at nS; cases nS
        exact (upd_ne St).trans (hS.same sm3)
      have htT : upd G3 t (.lst ((bs ++ [D]).map V.ref)) t = some (.lst ((bs ++ [D]).map V.ref)) := upd_same
      generalize upd G3 t _ = G5 at smT hBT hST htT
      refine ⟨_, rfl, by show 1 ≤ sizeLine; decide, fun u nu => ?_⟩
      have su := same_upd nu (o := .lst [V.int 1])
      refine ⟨.ref S, rfl, u, S, _, _, rfl, rfl, upd_same, su _ _ hST, by rw [lsz]; exact small (by decide), fun v nv => ?_⟩
      have sv := su.trans (same_upd nv (o := .lst ([V.int 1] ++ (szs ms).map V.int)))
      refine ⟨v, 1 :: szs ms, rfl, .of upd_same, Nat.succ_pos _, fun z hz hg => ?_⟩
      have ez := rdeg_sz lr hz hg
      refine ⟨_, _, rfl, rfl, _, _, rfl, rfl, smT.trans sv, tab ++ [row], bs ++ [D], some (.int ((i : Nat) : Int)), some (.ref S), x5, x6, x7, x8, ?_, sv _ _ htT, hBT.mono fun _ _ z => z.same sv, by rw [List.length_append, lt]; rfl, fun r hr2 => ?_⟩
      · have er : ((reach (tab ++ [row]) : Nat) : Int) = ((reach tab : Nat) : Int) + z - 1 := by
          unfold reach DP.sd
          rw [List.map_append, List.sum_append]
          show ((_ + (rdeg row + 0) : Nat) : Int) = _
          omega
        rw [er]
        rfl
      · rcases List.mem_append.mp hr2 with w | w
        · exact w3 r w
        · rw [List.mem_singleton.mp w]; exact lrow
    · obtain ⟨sm, tab, bs, x3, x4, x5, x6, x7, x8, rfl, ht, hB, lt, w3⟩ := hP
      refine ⟨.ref t, rfl, t, tab, rfl, ⟨bs, ht, hB.mono fun _ _ z => let ⟨es, x, y⟩ := z.2; ⟨es, x, y.mono fun _ _ w => w.2⟩⟩, by omega, fun r hr2 => by rw [w3 r hr2]; decide, fun H1 s1 => ?_⟩
      refine ⟨_, rfl, _, rfl, true, rfl, iteT ⟨_, rfl, _, rfl, rfl, ?_⟩⟩
      rw [decide_eq_true rfl]
      exact qq H1 (sm.trans s1)
end
end K03
-- V3
namespace K03
open PySem PySem.Spec PyProof.Rows L2
open K00 (cf pval Can)
open DP (Po rdeg reach cntP)
/-! ### data and their texts -/
/-- may be shown and compared; a text of at most n signs -/
structure Gd (k n : Nat) (d : PyData) : Prop where
  sh : d.showable = true
  lay : d.canLay0 = true
  dep : d.depth ≤ k
  len : d.shown.length ≤ n
def tot (ts : List Str) : Nat := (ts.map fun t => t.length + 2).sum
theorem textFrom_tot : ∀ (ts : List Str) (k : Nat) (acc : Str), (textFrom k acc ts).length ≤ acc.length + tot ts
  | [], k, acc => Nat.le_add_right _ _
  | t :: r, k, acc => by
    have h := textFrom_tot r (k + 1) (acc ++ (if k > 0 then ", " else "" : String) ++ t)
    rw [Str.length_append, Str.length_append] at h
    have e : ((if k > 0 then ", " else "" : String) : Str).length ≤ 2 := by split <;> decide +kernel
    show (textFrom (k + 1) (acc ++ (if k > 0 then ", " else "" : String) ++ t) r).length ≤ _
    have e2 : tot (t :: r) = t.length + 2 + tot r := by unfold tot; rw [List.map_cons, List.sum_cons]
    omega
theorem join_tot : ∀ ts : List Str, (Str.join ", " ts).length ≤ tot ts
  | [] => Nat.zero_le _
  | [x] => by show x.length ≤ _; unfold tot; simp
  | x :: y :: r => by
    have h := join_tot (y :: r)
    show (x ++ ", " ++ Str.join ", " (y :: r)).length ≤ _
    rw [Str.length_append, Str.length_append]
    have e2 : tot (x :: y :: r) = x.length + 2 + tot (y :: r) := by unfold tot; rw [List.map_cons, List.sum_cons]
    have e3 : ((", " : String) : Str).length = 2 := rfl
    omega
/-- all of them, with all their texts together -/
inductive GdAll (k : Nat) : Nat → List PyData → Prop
  | nil : GdAll k 0 []
  | cons {n m : Nat} {d : PyData} {ds : List PyData} : Gd k n d → GdAll k m ds → GdAll k (n + 2 + m) (d :: ds)
theorem GdAll.facts {k : Nat} : ∀ {n : Nat} {ds : List PyData}, GdAll k n ds → PyData.showableAll ds = true ∧ PyData.canLayAll0 ds = true ∧ PyData.depthAll ds ≤ k ∧ tot (PyData.shownAll ds) ≤ n
  | _, _, .nil => ⟨rfl, rfl, Nat.zero_le _, Nat.le_refl _⟩
  | _, _, .cons (d := d) (ds := ds) h t => by
    obtain ⟨h1, h2, h3, h4⟩ := t.facts
    refine ⟨?_, ?_, ?_, ?_⟩
    · show (PyData.showable d && PyData.showableAll ds) = true
      rw [h.sh, h1]; rfl
    · show (PyData.canLay0 d && PyData.canLayAll0 ds) = true
      rw [h.lay, h2]; rfl
    · show max (PyData.depth d) (PyData.depthAll ds) ≤ k
      exact Nat.max_le.mpr ⟨h.dep, h3⟩
    · show tot (PyData.shown d :: PyData.shownAll ds) ≤ _
      unfold tot at h4 ⊢
      rw [List.map_cons, List.sum_cons]
      have := h.len
      omega
theorem GdAll.map {α : Type} {k n : Nat} {f : α → PyData} : ∀ {xs : List α}, (∀ x ∈ xs, Gd k n (f x)) → GdAll k (xs.length * (n + 2)) (xs.map f)
  | [], _ => by rw [List.length_nil, Nat.zero_mul]; exact .nil
  | x :: r, h => by
    rw [List.length_cons, Nat.succ_mul, Nat.add_comm]
    exact .cons (h x List.mem_cons_self) (GdAll.map fun y hy => h y (List.mem_cons_of_mem _ hy))
theorem Gd.list {k n : Nat} {ds : List PyData} (h : GdAll k n ds) : Gd (k + 1) (n + 2) (.list ds) := by
  obtain ⟨h1, h2, h3, h4⟩ := h.facts
  refine ⟨h1, h2, Nat.succ_le_succ h3, ?_⟩
  show (listText (PyData.shownAll ds)).length ≤ _
  unfold listText
  rw [Str.length_append]
  have := textFrom_tot (PyData.shownAll ds) 0 "["
  have e1 : (("[" : String) : Str).length = 1 := rfl
  have e2 : (("]" : String) : Str).length = 1 := rfl
  omega
theorem Gd.tup {k n : Nat} {ds : List PyData} (h : GdAll k n ds) : Gd (k + 1) (n + 3) (.tuple ds) := by
  obtain ⟨h1, h2, h3, h4⟩ := h.facts
  refine ⟨h1, h2, Nat.succ_le_succ h3, ?_⟩
  show (tupleText (PyData.shownAll ds)).length ≤ _
  unfold tupleText
  rw [Str.length_append, Str.length_append]
  have := join_tot (PyData.shownAll ds)
  have e1 : (("(" : String) : Str).length = 1 := rfl
  have e2 : ((if (PyData.shownAll ds).length == 1 then ",)" else ")" : String) : Str).length ≤ 2 := by split <;> decide +kernel
  omega
theorem Gd.mono {k l n m : Nat} {d : PyData} (h : Gd k n d) (a : k ≤ l) (b : n ≤ m) : Gd l m d := ⟨h.sh, h.lay, Nat.le_trans h.dep a, Nat.le_trans h.len b⟩
theorem Gd.int {i : Int} (h : i.natAbs < 10 ^ 8) : Gd 0 9 (.int i) := by
  refine ⟨decide_eq_true (log_small (by omega)), rfl, Nat.le_refl _, ?_⟩
  show (Str.ofString (toString i)).length ≤ 9
  rw [PySem.ofString_length]
  exact int_text_length_le10 (k := 8) (by decide) h
theorem Gd.int24 {i : Int} (h : i.natAbs < 10 ^ 24) : Gd 0 25 (.int i) := by
  refine ⟨decide_eq_true (Nat.lt_trans (log_lt (Nat.lt_trans h (show 10 ^ 24 < 2 ^ 200 by decide)) (by decide)) (by decide)), rfl, Nat.le_refl _, ?_⟩
  show (Str.ofString (toString i)).length ≤ 25
  rw [PySem.ofString_length]
  exact int_text_length_le10 (k := 24) (by decide) h
def dI (ns : List Int) : PyData := .list (ns.map PyData.int)
def dEls (els : List (List Int)) : PyData := .list (els.map dI)
def dTb (tab : DP.Tb) : PyData := .list (tab.map dEls)
theorem dp_ints {K : PySem.W.Frag} {H : Hp} : ∀ x : List Int, DpAll K H (x.map V.int) (x.map PyData.int)
  | [] => .nil
  | n :: r => .cons (.int n) (dp_ints r)
theorem dpI {K : PySem.W.Frag} {H : Hp} {a : Addr} {ns : List Int} (h : IL H a ns) : Dp K H (.ref a) (dI ns) := .lst h.sq (dp_ints ns)
theorem dp_els {K : PySem.W.Frag} {H : Hp} : ∀ {es : List Addr} {row : List (List Int)}, A2 (fun e p => IL H e p) es row → DpAll K H (es.map V.ref) (row.map dI)
  | _, _, .nil => .nil
  | _, _, .cons h t => .cons (dpI h) (dp_els t)
theorem dp_row {K : PySem.W.Frag} {H : Hp} {a : Addr} {row : List (List Int)} (h : RowL H a row) : Dp K H (.ref a) (dEls row) := let ⟨es, ha, hE⟩ := h; .lst (.of ha) (dp_els hE)
theorem dp_rows {K : PySem.W.Frag} {H : Hp} : ∀ {as : List Addr} {tab : DP.Tb}, A2 (RowL H) as tab → DpAll K H (as.map V.ref) (tab.map dEls)
  | _, _, .nil => .nil
  | _, _, .cons h t => .cons (dp_row h) (dp_rows t)
theorem dp_tb {K : PySem.W.Frag} {H : Hp} {p : Addr} {tab : DP.Tb} (h : TbR H p tab) : Dp K H (.ref p) (dTb tab) := let ⟨as, ha, hA⟩ := h; .lst (.of ha) (dp_rows hA)
def B16 : Nat := 7 ^ 16 * 2 ^ 32
theorem gd_tb {tab : DP.Tb} {R C : Nat} {ps : List (List Int)} (h : DP.Mp R C (7 ^ 16 * 2 ^ 32) ps tab) (hR : R ≤ 12) (hC : C ≤ 12) : Gd 3 30000 (dTb tab) := by
  have h1 : ∀ e, Po (7 ^ 16 * 2 ^ 32) e → Gd 1 200 (dI e) := fun e he =>
    (Gd.list (GdAll.map (n := 25) fun v hv => Gd.int24 (by
      obtain ⟨j, hj, rfl⟩ := List.mem_iff_getElem.mp hv
      have := he.2.2 j
      rw [K00.cf_lt hj] at this
      exact Nat.lt_of_le_of_lt this (by decide)))).mono (Nat.le_refl _) (by have := he.2.1; omega)
  have h2 : ∀ row ∈ tab, Gd 2 2450 (dEls row) := fun row hr =>
    (Gd.list (GdAll.map fun e he => h1 e (h.po row hr e he))).mono (Nat.le_refl _) (by rw [h.wid row hr]; omega)
  exact (Gd.list (GdAll.map h2)).mono (Nat.le_refl _) (by rw [h.len]; omega)
def d3 (x y z : Int) : PyData := .tuple [.int x, .int y, .int z]
theorem d3_dp {K : PySem.W.Frag} {H : Hp} {a : Addr} {x y z : Int} (h : SqT K H a [.int x, .int y, .int z]) : Dp K H (.ref a) (d3 x y z) := .tup h (.cons (.int x) (.cons (.int y) (.cons (.int z) .nil)))
theorem d3_sh (x y z : Int) : SeqAt.shaped (d3 x y z) = true := rfl
theorem d3_eqv (x y z : Int) : PyData.eqv (d3 x y z) (d3 x y z) = true := SeqAt.eqv_refl _ (SeqAt.canLay_of_shaped (d3_sh x y z))
/-! ### the least point -/
theorem least {p : Nat → Prop} : ∀ (N : Nat), (∃ k, k ≤ N ∧ p k) → ∃ k, k ≤ N ∧ p k ∧ ∀ j, j < k → ¬ p j
  | N, h => by
    by_cases e : ∃ k, k < N ∧ p k
    · obtain ⟨k, hk, pk⟩ := e
      cases N with
      | zero => omega
      | succ N =>
        obtain ⟨i, hi, pi, hl⟩ := least N ⟨k, by omega, pk⟩
        exact ⟨i, by omega, pi, hl⟩
    · obtain ⟨k, hk, pk⟩ := h
      rcases Nat.lt_or_ge k N with z | z
      · exact absurd ⟨k, z, pk⟩ e
      · have : k = N := by omega
        subst this
        exact ⟨k, Nat.le_refl _, pk, fun j hj hp => e ⟨j, hj, hp⟩⟩
def fullP (ps : List (List Int)) : List (List Int) := ps.filter fun p => decide (0 < p.length)
theorem cntP_le (x : Int) : ∀ ps : List (List Int), cntP x ps ≤ (fullP ps).length ∧ (cntP x ps = (fullP ps).length ↔ ∀ p ∈ fullP ps, pval x p ≠ 0)
  | [] => ⟨Nat.le_refl _, ⟨fun _ _ z => (by cases z), fun _ => rfl⟩⟩
  | p :: ps => by
    obtain ⟨h1, h2⟩ := cntP_le x ps
    have e1 : cntP x (p :: ps) = (if pval x p ≠ 0 then 1 else 0) + cntP x ps := by
      unfold cntP DP.cnt
      rw [List.map_cons, List.filter_cons]
      by_cases h : pval x p = 0
      · rw [if_neg (by simp [h]), if_neg (by simp [h])]; omega
      · rw [if_pos (by simp [h]), if_pos h, List.length_cons]; omega
    have e2 : fullP (p :: ps) = if 0 < p.length then p :: fullP ps else fullP ps := by
      unfold fullP
      rw [List.filter_cons]
      by_cases h : 0 < p.length
      · rw [if_pos (decide_eq_true h), if_pos h]
      · rw [if_neg (by simp only [decide_eq_true_eq]; exact h), if_neg h]
    rw [e1, e2]
    by_cases h : 0 < p.length
    · rw [if_pos h, List.length_cons]
      by_cases z : pval x p = 0
      · rw [if_neg (by simp [z])]
        refine ⟨by omega, fun y => by omega, fun y => absurd z (y p List.mem_cons_self)⟩
      · rw [if_pos z]
        refine ⟨by omega, fun y q hq => ?_, fun y => ?_⟩
        · rcases List.mem_cons.mp hq with rfl | hq
          · exact z
          · exact h2.mp (by omega) q hq
        · have := h2.mpr fun q hq => y q (List.mem_cons_of_mem _ hq)
          omega
    · have : p = [] := List.length_eq_zero_iff.mp (by omega)
      subst this
      rw [if_neg h, if_neg (fun z => z rfl)]
      refine ⟨by omega, fun y => h2.mp (by omega), fun y => ?_⟩
      have := h2.mpr y
      omega
theorem rdeg4 {row : List (List Int)} {B : Nat} (h : ∀ e ∈ row, Po B e) : rdeg row ≤ 4 := by
  unfold rdeg
  rcases foldl_max_mem (row.map fun e => e.length - 1) 0 with z | z
  · rw [z]; exact Nat.zero_le _
  · obtain ⟨e, he, z⟩ := List.mem_map.mp z
    rw [← z]
    have := (h e he).2.1
    omega
theorem reach_le {B : Nat} : ∀ {tab : DP.Tb}, (∀ row ∈ tab, ∀ e ∈ row, Po B e) → reach tab ≤ tab.length * 4
  | [], _ => Nat.zero_le _
  | row :: tab, h => by
    have h1 := reach_le (tab := tab) fun r hr => h r (List.mem_cons_of_mem _ hr)
    have h2 := rdeg4 (h row List.mem_cons_self)
    unfold reach DP.sd at h1 ⊢
    rw [List.map_cons, List.sum_cons, List.length_cons]
    omega
theorem sum4 : ∀ {ps : List (List Int)}, (∀ e ∈ ps, e.length ≤ 5) → (ps.map fun p => p.length - 1).sum ≤ ps.length * 4
  | [], _ => Nat.zero_le _
  | p :: ps, h => by
    have h1 := sum4 (ps := ps) fun e he => h e (List.mem_cons_of_mem _ he)
    have h2 := h p List.mem_cons_self
    rw [List.map_cons, List.sum_cons, List.length_cons]
    omega
/-- all that the ranks of a made table are -/
theorem made_rg {tab : DP.Tb} {R C : Nat} {ps : List (List Int)} (h : DP.Mp R C (7 ^ 16 * 2 ^ 32) ps tab) (hR : R ≤ 12) (hC : C ≤ 12) (lp : ps.length = min R C) (po : ∀ e ∈ ps, Po (2 ^ 32) e) :
    ∃ at0 : Nat, at0 ≤ 48 ∧ Rg tab C (fun k => cntP ((k : Nat) : Int) ps) (fullP ps).length at0 ∧ (∀ k : Nat, k < at0 → ∃ p ∈ fullP ps, pval ((k : Nat) : Int) p = 0) ∧ (∀ p ∈ fullP ps, pval ((at0 : Nat) : Int) p ≠ 0) ∧ reach tab ≤ 48 ∧
      ∀ k : Nat, k ≤ reach tab → ∀ x ∈ DP.vals ((k : Nat) : Int) tab, DT.Lim (5 * (7 ^ 16 * 2 ^ 32) * 48 ^ 5) (DT.fn x) := by
  have lf : (fullP ps).length ≤ min R C := by rw [← lp]; exact List.length_filter_le _ _
  have memf : ∀ p ∈ fullP ps, p ∈ ps ∧ 0 < p.length := fun p hp => ⟨(List.mem_filter.mp hp).1, of_decide_eq_true (List.mem_filter.mp hp).2⟩
  have r48 : reach tab ≤ 48 := by
    have := reach_le h.po
    rw [h.len] at this
    omega
  obtain ⟨k0, hk0, nz0⟩ := DP.parts_hit (ps := fullP ps) (D := 48) (fun p hp => DP.can_hit (po p (memf p hp).1).1 (fun z => by have := (memf p hp).2; rw [z] at this; exact absurd this (by decide))) (by
    have := sum4 (ps := fullP ps) fun e he => (po e (memf e he).1).2.1
    omega)
  obtain ⟨at0, ha48, hit, lo⟩ := least (p := fun k : Nat => ∀ p ∈ fullP ps, pval ((k : Nat) : Int) p ≠ 0) 48 ⟨k0, hk0, nz0⟩
  have lo' : ∀ k : Nat, k < at0 → ∃ p ∈ fullP ps, pval ((k : Nat) : Int) p = 0 := fun k hk => by
    have := lo k hk
    exact Decidable.byContradiction fun w => this fun p hp z => w ⟨p, hp, z⟩
  have c0 : cntP ((at0 : Nat) : Int) ps = (fullP ps).length := (cntP_le _ ps).2.mpr hit
  refine ⟨at0, ha48, ⟨h.wid, fun k _ => h.rk _, fun k _ => (cntP_le _ ps).1, c0, fun k hk => ?_, ?_, ?_⟩, lo', hit, r48, fun k hk x hx j => ?_⟩
  · have h1 := (cntP_le ((k : Nat) : Int) ps).1
    rcases Nat.lt_or_ge (cntP ((k : Nat) : Int) ps) (fullP ps).length with z | z
    · exact z
    · exact absurd ((cntP_le ((k : Nat) : Int) ps).2.mp (by omega)) (lo k hk)
  · have r0 := h.rk ((at0 : Nat) : Int)
    rw [c0] at r0
    obtain ⟨k, hk, nz⟩ := DP.reach_hit h.wid r0
    have rk := h.rk ((k : Nat) : Int)
    have h1 := (cntP_le ((k : Nat) : Int) ps).1
    rcases Nat.lt_or_ge (cntP ((k : Nat) : Int) ps) (fullP ps).length with z | z
    · exact absurd (rk.2 _ z) nz
    · have := (cntP_le ((k : Nat) : Int) ps).2.mp (by omega)
      rcases Nat.lt_or_ge k at0 with y | y
      · exact absurd this (lo k y)
      · omega
  · refine ⟨by rw [h.len]; omega, by omega, fun e => ?_⟩
    have := h.len
    rw [e] at this
    have : R = 0 := this.symm
    omega
  · obtain ⟨row, hr, rfl⟩ := List.mem_map.mp hx
    rw [DP.fn_vrow]
    have pe := DP.po_mem (h.po row hr) j
    have b := DP.pval_bound (x := ((k : Nat) : Int)) (X := 48) (by omega) (by decide) (row.getD j []) pe.2.2
    refine Nat.le_trans b ?_
    have l5 := pe.2.1
    exact Nat.mul_le_mul (Nat.mul_le_mul_right _ l5) (Nat.pow_le_pow_right (by decide) l5)
theorem ps_via2 {X : Cx} {st : Stmt} {t t' : TS} (h : PS X st t) (f : ∀ D σ H, t' D σ H → t D σ H) : PS X st t' := ps_via h f
def TSl (a : Addr) : TS := fun Dn σ G => ∃ (d : Addr) (ds : List Int) (R C : Nat), σ = [some (.ref a), some (.ref d), some (.int (R : Nat)), some (.int (C : Nat)), none, none, none, none, none, none, none, none] ∧ IL G d ds ∧ R ≤ 12 ∧ C ≤ 12 ∧ (0 < C → 0 < R) ∧
  ∀ R' C' : Nat, R' ≤ 12 → C' ≤ 12 → (0 < C' → 0 < R') → Dn.nx [some (.ref a), some (.ref d), some (.int (R' : Nat)), some (.int (C' : Nat)), none, none, none, none, none, none, none, none] G
section
variable {P : Program} {w : World} {K : PySem.W.Frag} {mg : Str → Option Value} {base : Heap}
def sp_law (K : PySem.W.Frag) : Sp := fun vs H Q _ => ∃ (a : Addr) (ns : List Int), vs = [.ref a] ∧ SqL K H a (ns.map V.int) ∧ ns.length ≤ 63 ∧ ∀ H', Q (.bl true) H'
theorem ok_law (T : Txt K mg) : LG.FnG P w K mg base CX0 6 T.law.a T.law.fd ["script"] (sp_law K) := by
  refine LG.fun_okG T.law.F sc_law (fun vs H Q E h => ?_) (fun cdv A outer s H vs Q E hr gd h => ?_)
  · obtain ⟨a, ns, rfl, _⟩ := h
    rfl
  · obtain ⟨a, ns, rfl, ha, hl, fin⟩ := h
    refine ⟨_, (pss_cons (ps_set (i := 1) sc_law.nd rfl (.inl rfl) (pe_call (ok_law_draws T) (hr.mono (by decide)) (by rfl) T.law_draws.g T.law_draws.F.kp T.law_draws.b .nil pass0 (pa_cons (pv 0) pa_nil)))
      (pss_cons (ps_set (i := 2) sc_law.nd rfl (.inl rfl) (pe_call (ok_law_at T) (hr.mono (by decide)) (by rfl) T.law_at.g T.law_at.F.kp T.law_at.b .nil pass0 (pa_cons (pv 1) (pa_cons pe_int (pa_cons pe_int pa_nil)))))
      (pss_cons (ps_set (i := 3) sc_law.nd rfl (.inl rfl) (pe_op op_mul (pe_call (ok_law_at T) (hr.mono (by decide)) (by rfl) T.law_at.g T.law_at.F.kp T.law_at.b .nil pass0 (pa_cons (pv 1) (pa_cons pe_int (pa_cons pe_int pa_nil)))) (pe_callTy call_int1 (by rfl) T.m_int (by decide +kernel) (pa_cons (pe_cmpR op_gt (pv 2) pe_int (nomark _)) pa_nil))))
      (pss_cons (ps_via (t' := TSl a) (ps_if (pt_cmpR op_eq (pe_call (ok_law_at T) (hr.mono (by decide)) (by rfl) T.law_at.g T.law_at.F.kp T.law_at.b .nil pass0 (pa_cons (pv 1) (pa_cons pe_int (pa_cons pe_int pa_nil)))) pe_int (nomark _))
        (pss_cons (ps_set (i := 2) sc_law.nd rfl (.inl rfl) (pe_op op_add pe_int (pe_call (ok_law_at T) (hr.mono (by decide)) (by rfl) T.law_at.g T.law_at.F.kp T.law_at.b .nil pass0 (pa_cons (pv 1) (pa_cons pe_int (pa_cons pe_int pa_nil))))))
        (pss_one (ps_set (i := 3) sc_law.nd rfl (.inl rfl) (pe_op op_add pe_int (pe_call (ok_law_at T) (hr.mono (by decide)) (by rfl) T.law_at.g T.law_at.F.kp T.law_at.b .nil pass0 (pa_cons (pv 1) (pa_cons pe_int (pa_cons pe_int pa_nil))))))))
        pss_nil) ?vial)
      (pss_cons (ps_asg (pe_call (ok_law_made T) (hr.mono (by decide)) (by rfl) T.law_made.g T.law_made.F.kp T.law_made.b .nil pass0 (pa_cons (pv 1) (pa_cons (pv 2) (pa_cons (pv 3) pa_nil)))) (pg_tup rfl (pgs_cons (pg_name (i := 4) sc_law.nd rfl (.inl rfl)) (pgs_cons (pg_name (i := 5) sc_law.nd rfl (.inl rfl)) pgs_nil))))
      (pss_cons (ps_set (i := 6) sc_law.nd rfl (.inl rfl) (pe_callB (LG.call_reprD gd hr.units) (by rfl) T.m_repr (by decide +kernel) (pa_cons (pv 4) pa_nil)))
      (pss_cons (ps_set (i := 7) sc_law.nd rfl (.inl rfl) (pe_callB (cr_sum rfl) (by rfl) T.m_sum (by decide +kernel) (pa_cons (pe_lc (own := [("row", 9)]) rfl sc_law.nd (pi_list (pv 4)) (blkOk_by (N := ["script", "draws", "rows", "columns", "table", "parts", "kept", "degrees", "told", "row", "number", "element"]) (sc := defScope s_law) (by decide +kernel)) (fun _ _ _ _ _ => (pg_name (i := 9) sc_law.nd rfl (.inl rfl))) (fun _ _ _ _ _ => pts_nil) (fun _ _ _ _ _ => (pe_callB (id := "max") (r := rMax K) (cr_max rfl) (by rfl) T.m_max (by decide +kernel) (pa_cons (pe_op op_cat (pe_lst (pa_cons pe_int pa_nil)) (pe_lc (wi := iList K _) (own := [("element", 11)]) rfl sc_law.nd (pi_list (pv 9)) (blkOk_by (N := ["script", "draws", "rows", "columns", "table", "parts", "kept", "degrees", "told", "row", "number", "element"]) (sc := { kind := .function, names := [(".0", .local), ("row", .local), ("max", .globalImplicit)], isGenerator := false, isCoroutine := false, more := [] }) (by decide +kernel)) (fun _ _ _ _ _ => (pg_name (i := 11) sc_law.nd rfl (.inl rfl))) (fun _ _ _ _ _ => pts_nil) (fun _ _ _ _ _ => (pe_op op_sub (pe_callB (id := "len") (r := rLenS K) call_lenC (by rfl) T.m_len (by decide +kernel) (pa_cons (pv 11) pa_nil)) pe_int)))) pa_nil)))) pa_nil)))
      (pss_cons (ps_set (i := 8) sc_law.nd rfl (.inl rfl) (pe_tup (pa_cons (pe_call (ok_rank T) (hr.mono (by decide)) (by rfl) T.rank.g T.rank.F.kp T.rank.b .nil pass0 (pa_cons (pv 4) pa_nil)) (pa_cons (pe_call (ok_point T) (hr.mono (by decide)) (by rfl) T.point.g T.point.F.kp T.point.b .nil pass0 (pa_cons (pv 4) pa_nil)) (pa_cons (pe_call (ok_reach T) (hr.mono (by decide)) (by rfl) T.reach.g T.reach.F.kp T.reach.b .nil pass0 (pa_cons (pv 4) pa_nil)) pa_nil)))))
      (pss_cons (ps_if (PW.pt (pw_or (pt_not (pt_val (pe_callB (cr_all rfl) (by rfl) T.m_all (by decide +kernel) (pa_cons (pe_lc (own := [("number", 10)]) rfl sc_law.nd (pi_tup (pv 8)) (blkOk_by (N := ["script", "draws", "rows", "columns", "table", "parts", "kept", "degrees", "told", "row", "number", "element"]) (sc := defScope s_law) (by decide +kernel)) (fun _ _ _ _ _ => (pg_name (i := 10) sc_law.nd rfl (.inl rfl))) (fun _ _ _ _ _ => pts_nil) (fun _ _ _ _ _ => (pe_call (ok_law_is_integer T) (hr.mono (by decide)) (by rfl) T.law_is_integer.g T.law_is_integer.F.kp T.law_is_integer.b .nil pass0 (pa_cons (pv 10) pa_nil)))) pa_nil)))) (pw_or (pt_cmpR op_ne (pe_callB (LG.call_reprD gd hr.units) (by rfl) T.m_repr (by decide +kernel) (pa_cons (pv 4) pa_nil)) (pv 6) (nomark _)) (pw_or1 (pt_not (pt_val (pe_call (ok_law_reaches T) (hr.mono (by decide)) (by rfl) T.law_reaches.g T.law_reaches.F.kp T.law_reaches.b .nil pass0 (pa_cons (pv 1) pa_nil))))))))
        (pss_one (ps_ret pe_bl))
        pss_nil)
      (pss_one (ps_ret (pe_and (pe_cmpR (op_eqD hr.units) (pv 8) (pe_tup (pa_cons (pe_callB call_len_seq (by rfl) T.m_len (by decide +kernel) (pa_cons (pv 5) pa_nil)) (pa_cons (pe_call (ok_law_point T) (hr.mono (by decide)) (by rfl) T.law_point.g T.law_point.F.kp T.law_point.b .nil pass0 (pa_cons (pv 5) pa_nil)) (pa_cons (pv 7) pa_nil)))) (nomark _)) (pe_and (pe_cmpR op_eq (pe_call (ok_rank T) (hr.mono (by decide)) (by rfl) T.rank.g T.rank.F.kp T.rank.b .nil pass0 (pa_cons (pv 4) pa_nil)) (pe_callB call_len_seq (by rfl) T.m_len (by decide +kernel) (pa_cons (pv 5) pa_nil)) (nomark _)) (pe_one (pe_cmpR op_eq (pe_callB (LG.call_reprD gd hr.units) (by rfl) T.m_repr (by decide +kernel) (pa_cons (pv 4) pa_nil)) (pv 6) (nomark _)))))))))))))))), ?_⟩
    case vial =>
      intro Dn σ G hh
      obtain ⟨d, ds, R, C, rfl, hd, hR, hC, hRC, go⟩ := hh
      refine ⟨.ref d, rfl, d, ds, 2, 16, rfl, hd, by decide, by decide, fun r _ _ => ⟨rfl, _, rfl, ite2 (fun _ => ?_) (fun _ => go R C hR hC hRC)⟩⟩
      refine ⟨.ref d, rfl, d, ds, 0, 7, rfl, hd, by decide, by decide, fun x x0 x1 => ⟨_, _, rfl, rfl, ?_⟩⟩
      obtain ⟨R', e1, l1⟩ : ∃ R' : Nat, (6 + x : Int) = (R' : Nat) ∧ 6 ≤ R' ∧ R' ≤ 12 := ⟨(6 + x).toNat, by omega, by omega, by omega⟩
      rw [show (fun i j => V.int (i + j)) (6 : Int) x = V.int (R' : Nat) from congrArg V.int e1]
      refine ⟨.ref d, rfl, d, ds, 1, 7, rfl, hd, by decide, by decide, fun y y0 y1 => ⟨_, _, rfl, rfl, ?_⟩⟩
      obtain ⟨C', e2, l2⟩ : ∃ C' : Nat, (6 + y : Int) = (C' : Nat) ∧ 6 ≤ C' ∧ C' ≤ 12 := ⟨(6 + y).toNat, by omega, by omega, by omega⟩
      rw [show (fun i j => V.int (i + j)) (6 : Int) y = V.int (C' : Nat) from congrArg V.int e2]
      exact go R' C' (by omega) (by omega) (by omega)
    refine ⟨.ref a, rfl, a, ns, rfl, ha, hl, fun H1 d ds s1 nd hd _ => ?_⟩
    refine ⟨.ref d, rfl, d, ds, 0, 5, rfl, hd, by decide, by decide, fun x x0 x1 => ?_⟩
    obtain ⟨R0, rfl, hR0⟩ : ∃ R0 : Nat, x = (R0 : Nat) ∧ R0 ≤ 4 := ⟨x.toNat, by omega, by omega⟩
    refine ⟨.ref d, rfl, d, ds, 1, 5, rfl, hd, by decide, by decide, fun y y0 y1 => ⟨_, rfl, _, _, rfl, rfl, .inr ⟨_, rfl, ?_⟩⟩⟩
    obtain ⟨C0, ec, hC0, hRC0⟩ : ∃ C0 : Nat, y * (if decide (0 < ((R0 : Nat) : Int)) = true then (1 : Int) else 0) = (C0 : Nat) ∧ C0 ≤ 4 ∧ (0 < C0 → 0 < R0) := by
      by_cases z : 0 < R0
      · rw [if_pos (decide_eq_true (by omega)), Int.mul_one]
        exact ⟨y.toNat, by omega, by omega, fun _ => z⟩
      · rw [if_neg (by rw [decide_eq_false (by omega)]; decide), Int.mul_zero]
        exact ⟨0, rfl, by decide, fun z => absurd z (by decide)⟩
    refine ⟨_, _, rfl, rfl, .inl ⟨by omega, by omega⟩, ?_⟩
    rw [show (fun i j => V.int (i * j)) y (if decide (0 < ((R0 : Nat) : Int)) = true then (1 : Int) else 0) = V.int (C0 : Nat) from congrArg V.int ec]
    refine ⟨d, ds, R0, C0, rfl, hd, by omega, by omega, hRC0, fun R C hR hC hRC => ?_⟩
    refine ⟨.ref d, rfl, _, rfl, _, rfl, d, ds, R, C, rfl, hd, hR, hC, hRC, fun H2 t p q tab ps s2 hT md lp hP po ht => ?_⟩
    refine ⟨t, _, rfl, ht, rfl, _, _, rfl, _, _, rfl, rfl, ?_⟩
    have hd2 := hd.same s2
    obtain ⟨at0, a48, rg, lo, hi, r48, lim⟩ := made_rg md hR hC lp po
    have g := gd_tb md hR hC
    have g0 := PyData.hasDict_of_canLay _ g.lay
    refine ⟨.ref p, rfl, p, dTb tab, rfl, dp_tb hT, g.sh, g0, Nat.le_trans g.dep (by decide), Nat.le_trans g.len (by decide), ?_⟩
    generalize hkept : (dTb tab).shown = kept
    obtain ⟨as, hp, hA⟩ := id hT
    have el := hA.len
    have lT := md.len
    have r16 : ∀ row ∈ tab, row.length ≤ 16 := fun row hr2 => by rw [md.wid row hr2]; omega
    refine ⟨.ref p, rfl, p, rfl, ⟨_, .of hp⟩, fun D nD => ?_⟩
    refine lc_inv (walk_list (xs := as.map V.ref)) (fun i G ys => ys = (((tab.take i).map rdeg).map fun k => ((k : Nat) : Int)).map V.int) nD (fun G s => .of (s _ _ hp)) (small' (by rw [List.length_map]; omega)) rfl (fun i y G Hx ys hi sm hD hR2 yy Qt Qf qt qf => ?_) (fun G ys sm hD hR2 => ?_)
    · obtain ⟨rfl, hy⟩ := yy
      obtain ⟨b, ea, rfl⟩ := ref_at hy
      obtain ⟨row, er, hRow⟩ := hA.get ea
      obtain ⟨es, hes, hE⟩ := hRow.same sm
      have lr := r16 row (List.mem_of_getElem? er)
      have le := hE.len
      refine ⟨rfl, by show 1 ≤ sizeLine; decide, fun u nu => ?_⟩
      have su := same_upd nu (o := .lst [V.int 0])
      refine ⟨.ref b, rfl, b, rfl, ⟨_, .of (su _ _ hes)⟩, fun D2 nD2 => ?_⟩
      refine lc_inv (walk_list (xs := es.map V.ref)) (fun j G2 ys => ys = ((row.take j).map fun e => ((e.length : Nat) : Int) - 1).map V.int) nD2 (fun G s => .of (s _ _ (su _ _ hes))) (small' (by rw [List.length_map]; omega)) rfl (fun j y2 G2 Hx2 ys2 hj sm2 hD2 hR3 yy2 Qt2 Qf2 qt2 qf2 => ?_) (fun G2 ys2 sm2 hD2 hR3 => ?_)
      · obtain ⟨rfl, hy2⟩ := yy2
        obtain ⟨e, ee, rfl⟩ := ref_at hy2
        obtain ⟨p2, ep, hI⟩ := hE.get ee
        refine ⟨rfl, .ref e, rfl, e, _, rfl, .inl ((hI.same su).same sm2).sq, _, _, rfl, rfl, ?_⟩
        refine qt2 _ _ (Same.refl _) ?_
        rw [hR3, take_snoc ep, List.map_append, List.map_append, List.length_map]
        rfl
      · rw [List.length_map, le, List.take_length] at hR3
        subst hR3
        refine ⟨u, D2, _, _, rfl, rfl, sm2 _ _ upd_same, hD2, by rw [List.length_map, List.length_map]; exact small (by show 1 + _ ≤ _; omega), fun v nv => ?_⟩
        refine ⟨v, 0 :: row.map fun e => ((e.length : Nat) : Int) - 1, rfl, .of upd_same, Nat.succ_pos _, fun m hm hg => ?_⟩
        obtain rfl := rdeg_is hm hg
        refine qt _ _ ((su.trans sm2).trans (same_upd nv)) ?_
        rw [hR2, take_snoc er, List.map_append, List.map_append, List.map_append]
        rfl
    rw [List.length_map, el, List.take_length] at hR2
    subst hR2
    refine ⟨D, _, rfl, .of hD, ?_⟩
    rw [sum_cast]
    show _
    have rsum : (tab.map rdeg).sum = reach tab := rfl
    rw [rsum]
    have hT2 := hT.same sm
    have hP2 := hP.same sm
    have hd3 := hd2.same sm
    clear hA hp hD nD
    have big : (12 * (5 * (7 ^ 16 * 2 ^ 32) * 48 ^ 5)) ^ 12 < 2 ^ 4000 := by decide +kernel
    refine ⟨.ref p, rfl, p, tab, C, _, _, at0, 5 * (7 ^ 16 * 2 ^ 32) * 48 ^ 5, 12, rfl, hT2, rg, by omega, by omega, by omega, by omega, by decide, by decide, big, lim, fun H3 s3 => ?_⟩
    have hT3 := hT2.same s3
    refine ⟨.ref p, rfl, p, tab, C, _, _, at0, 5 * (7 ^ 16 * 2 ^ 32) * 48 ^ 5, 12, rfl, hT3, rg, by omega, by omega, by omega, by omega, by decide, by decide, big, lim, fun H4 s4 => ?_⟩
    have hT4 := hT3.same s4
    refine ⟨.ref p, rfl, p, tab, rfl, hT4, by omega, fun r hr2 => by have := r16 r hr2; omega, fun H5 s5 => ?_⟩
    refine ⟨by show 3 ≤ sizeLine; decide, fun t3 nt3 => ?_⟩
    have hTu : SqT K (upd H5 t3 (.tup [V.int ((fullP ps).length : Nat), V.int (at0 : Nat), V.int (reach tab : Nat)])) t3 [V.int ((fullP ps).length : Nat), V.int (at0 : Nat), V.int (reach tab : Nat)] := .of upd_same
    have s6 := ((s3.trans s4).trans s5).trans (same_upd nt3 (o := .tup [V.int ((fullP ps).length : Nat), V.int (at0 : Nat), V.int (reach tab : Nat)]))
    have hT6 := hT2.same s6
    have hP6 := hP2.same s6
    have hd6 := hd3.same s6
    generalize upd H5 t3 _ = H6 at hTu s6 hT6 hP6 hd6
    refine ⟨.ref t3, rfl, t3, rfl, ⟨_, hTu⟩, fun D3 nD3 => ?_⟩
    refine lc_inv (walk_tup (xs := [V.int ((fullP ps).length : Nat), V.int (at0 : Nat), V.int (reach tab : Nat)])) (fun i G ys => ys = (List.replicate i true).map V.bl) nD3 (fun G s => Same.seqT s hTu) (small' (by show 3 < 60000; decide)) rfl (fun i y G Hx ys hi sm7 hD7 hR7 yy Qt Qf qt qf => ?_) (fun G7 ys sm7 hD7 hR7 => ?_)
    · obtain ⟨rfl, hy⟩ := yy
      obtain ⟨z, rfl⟩ : ∃ z : Int, y = .int z := by
        have hy : ([V.int ((fullP ps).length : Nat), V.int (at0 : Nat), V.int (reach tab : Nat)])[i]? = some y := hy
        match i, hy with
        | 0, hy => exact ⟨_, (Option.some.inj hy).symm⟩
        | 1, hy => exact ⟨_, (Option.some.inj hy).symm⟩
        | 2, hy => exact ⟨_, (Option.some.inj hy).symm⟩
      refine ⟨rfl, _, rfl, z, rfl, ?_⟩
      refine qt _ _ (Same.refl _) ?_
      rw [hR7, List.replicate_succ', List.map_append]
      rfl
    subst hR7
    refine ⟨D3, _, rfl, .of hD7, true, rfl, ?_⟩
    have hT7 := hT6.same sm7
    refine iteF ⟨.ref p, rfl, p, dTb tab, rfl, dp_tb hT7, g.sh, g0, Nat.le_trans g.dep (by decide), Nat.le_trans g.len (by decide), _, rfl, rfl, _, rfl, ?_⟩
    rw [hkept, decide_eq_true rfl]
    refine iteF ⟨.ref d, rfl, d, ds, rfl, hd6.same sm7, fun H8 s8 => ⟨true, rfl, iteF ?_⟩⟩
    have s68 := sm7.trans s8
    have hT8 := hT6.same s68
    obtain ⟨es, hes, hE⟩ := hP6.same s68
    have lE : es.length = (fullP ps).length := hE.len
    have lf : (fullP ps).length ≤ 12 := by
      have h1 : (fullP ps).length ≤ ps.length := List.length_filter_le _ _
      omega
    refine ⟨_, rfl, .ref q, rfl, q, _, rfl, .inl (.of hes), .ref q, rfl, q, fullP ps, at0, rfl, ⟨es, hes, hE⟩, by omega, fun e he => po e (List.mem_filter.mp he).1, by omega, lo, hi, fun H9 s9 => ?_⟩
    rw [List.length_map, lE]
    refine ⟨_, rfl, by show 3 ≤ sizeLine; decide, fun t9 nt9 => ?_⟩
    have st9 := s9.trans (same_upd nt9 (o := .tup [V.int ((fullP ps).length : Nat), V.int (at0 : Nat), V.int (reach tab : Nat)]))
    have hTu9 := Same.seqT (s68.trans st9) hTu
    have hT9 := hT8.same st9
    have hes9 := st9 _ _ hes
    refine ⟨d3 _ _ _, d3 _ _ _, d3_dp hTu9, d3_dp (.of upd_same), d3_sh _ _ _, d3_sh _ _ _, _, rfl, ?_⟩
    rw [d3_eqv]
    generalize upd H9 t9 _ = H10 at hT9 hes9
    refine iteT ⟨.ref p, rfl, p, tab, C, _, _, at0, 5 * (7 ^ 16 * 2 ^ 32) * 48 ^ 5, 12, rfl, hT9, rg, by omega, by omega, by omega, by omega, by decide, by decide, big, lim, fun H11 s11 => ?_⟩
    refine ⟨.ref q, rfl, q, _, rfl, .inl (.of (s11 _ _ hes9)), rfl, _, rfl, ?_⟩
    rw [List.length_map, lE, decide_eq_true rfl]
    refine iteT ⟨.ref p, rfl, p, dTb tab, rfl, dp_tb (hT9.same s11), g.sh, g0, Nat.le_trans g.dep (by decide), Nat.le_trans g.len (by decide), _, rfl, rfl, ?_⟩
    rw [hkept, decide_eq_true rfl]
    exact fin _
end

section
/-- the facts of the text, from what stands behind the top -/
theorem all_mk {l : PySem.W.OpenLaw} {w : World} {K : PySem.W.Frag} {h : Heap} {mg : Str → Option Value} {fa : Addr} (X : K.In h) (G : h.Ns mainGlobals mg) (hfa : mg "law" = some (.ref fa))
    {f0 : Addr} {od0 an0 : Option Addr} {sl0 : Array (Option Value)} {oc0 kV0 dc0 pm0 cd0 ct0 : Value}
    {f1 : Addr} {od1 an1 : Option Addr} {sl1 : Array (Option Value)} {oc1 kV1 dc1 pm1 cd1 ct1 : Value}
    {f2 : Addr} {od2 an2 : Option Addr} {sl2 : Array (Option Value)} {oc2 kV2 dc2 pm2 cd2 ct2 : Value}
    {f3 : Addr} {od3 an3 : Option Addr} {sl3 : Array (Option Value)} {oc3 kV3 dc3 pm3 cd3 ct3 : Value}
    {f4 : Addr} {od4 an4 : Option Addr} {sl4 : Array (Option Value)} {oc4 kV4 dc4 pm4 cd4 ct4 : Value}
    {f5 : Addr} {od5 an5 : Option Addr} {sl5 : Array (Option Value)} {oc5 kV5 dc5 pm5 cd5 ct5 : Value}
    {f6 : Addr} {od6 an6 : Option Addr} {sl6 : Array (Option Value)} {oc6 kV6 dc6 pm6 cd6 ct6 : Value}
    {f7 : Addr} {od7 an7 : Option Addr} {sl7 : Array (Option Value)} {oc7 kV7 dc7 pm7 cd7 ct7 : Value}
    {f8 : Addr} {od8 an8 : Option Addr} {sl8 : Array (Option Value)} {oc8 kV8 dc8 pm8 cd8 ct8 : Value}
    {f9 : Addr} {od9 an9 : Option Addr} {sl9 : Array (Option Value)} {oc9 kV9 dc9 pm9 cd9 ct9 : Value}
    {f10 : Addr} {od10 an10 : Option Addr} {sl10 : Array (Option Value)} {oc10 kV10 dc10 pm10 cd10 ct10 : Value}
    {f11 : Addr} {od11 an11 : Option Addr} {sl11 : Array (Option Value)} {oc11 kV11 dc11 pm11 cd11 ct11 : Value}
    {f12 : Addr} {od12 an12 : Option Addr} {sl12 : Array (Option Value)} {oc12 kV12 dc12 pm12 cd12 ct12 : Value}
    {f13 : Addr} {od13 an13 : Option Addr} {sl13 : Array (Option Value)} {oc13 kV13 dc13 pm13 cd13 ct13 : Value}
    {f14 : Addr} {od14 an14 : Option Addr} {sl14 : Array (Option Value)} {oc14 kV14 dc14 pm14 cd14 ct14 : Value}
    {f15 : Addr} {od15 an15 : Option Addr} {sl15 : Array (Option Value)} {oc15 kV15 dc15 pm15 cd15 ct15 : Value}
    {f16 : Addr} {od16 an16 : Option Addr} {sl16 : Array (Option Value)} {oc16 kV16 dc16 pm16 cd16 ct16 : Value}
    {f17 : Addr} {od17 an17 : Option Addr} {sl17 : Array (Option Value)} {oc17 kV17 dc17 pm17 cd17 ct17 : Value}
    {f18 : Addr} {od18 an18 : Option Addr} {sl18 : Array (Option Value)} {oc18 kV18 dc18 pm18 cd18 ct18 : Value}
    {f19 : Addr} {od19 an19 : Option Addr} {sl19 : Array (Option Value)} {oc19 kV19 dc19 pm19 cd19 ct19 : Value}
    {f20 : Addr} {od20 an20 : Option Addr} {sl20 : Array (Option Value)} {oc20 kV20 dc20 pm20 cd20 ct20 : Value}
    {f21 : Addr} {od21 an21 : Option Addr} {sl21 : Array (Option Value)} {oc21 kV21 dc21 pm21 cd21 ct21 : Value}
    {f22 : Addr} {od22 an22 : Option Addr} {sl22 : Array (Option Value)} {oc22 kV22 dc22 pm22 cd22 ct22 : Value}
    {f23 : Addr} {od23 an23 : Option Addr} {sl23 : Array (Option Value)} {oc23 kV23 dc23 pm23 cd23 ct23 : Value}
    (a0 : PySem.W.nsIn K mainGlobals "_first_row" = some (some (.ref f0))) (l0 : K.lookup f0 = some ⟨oc0, od0, .func (PySem.W.fnOf "_first_row" "_first_row" (defArgs s_first_row) (defBody s_first_row) (defScope s_first_row) .none kV0 dc0 pm0 an0 cd0 ct0), sl0⟩) (c0 : PySem.W.codeIn K cd0 "_first_row" = true) (k0 : PySem.W.keepIn K (.ref f0) = true)
    (a1 : PySem.W.nsIn K mainGlobals "_lowered" = some (some (.ref f1))) (l1 : K.lookup f1 = some ⟨oc1, od1, .func (PySem.W.fnOf "_lowered" "_lowered" (defArgs s_lowered) (defBody s_lowered) (defScope s_lowered) .none kV1 dc1 pm1 an1 cd1 ct1), sl1⟩) (c1 : PySem.W.codeIn K cd1 "_lowered" = true) (k1 : PySem.W.keepIn K (.ref f1) = true)
    (a2 : PySem.W.nsIn K mainGlobals "triangle" = some (some (.ref f2))) (l2 : K.lookup f2 = some ⟨oc2, od2, .func (PySem.W.fnOf "triangle" "triangle" (defArgs s_triangle) (defBody s_triangle) (defScope s_triangle) .none kV2 dc2 pm2 an2 cd2 ct2), sl2⟩) (c2 : PySem.W.codeIn K cd2 "triangle" = true) (k2 : PySem.W.keepIn K (.ref f2) = true)
    (a3 : PySem.W.nsIn K mainGlobals "degree" = some (some (.ref f3))) (l3 : K.lookup f3 = some ⟨oc3, od3, .func (PySem.W.fnOf "degree" "degree" (defArgs s_degree) (defBody s_degree) (defScope s_degree) .none kV3 dc3 pm3 an3 cd3 ct3), sl3⟩) (c3 : PySem.W.codeIn K cd3 "degree" = true) (k3 : PySem.W.keepIn K (.ref f3) = true)
    (a4 : PySem.W.nsIn K mainGlobals "value" = some (some (.ref f4))) (l4 : K.lookup f4 = some ⟨oc4, od4, .func (PySem.W.fnOf "value" "value" (defArgs s_value) (defBody s_value) (defScope s_value) .none kV4 dc4 pm4 an4 cd4 ct4), sl4⟩) (c4 : PySem.W.codeIn K cd4 "value" = true) (k4 : PySem.W.keepIn K (.ref f4) = true)
    (a5 : PySem.W.nsIn K mainGlobals "_width" = some (some (.ref f5))) (l5 : K.lookup f5 = some ⟨oc5, od5, .func (PySem.W.fnOf "_width" "_width" (defArgs s_width) (defBody s_width) (defScope s_width) .none kV5 dc5 pm5 an5 cd5 ct5), sl5⟩) (c5 : PySem.W.codeIn K cd5 "_width" = true) (k5 : PySem.W.keepIn K (.ref f5) = true)
    (a6 : PySem.W.nsIn K mainGlobals "value_at" = some (some (.ref f6))) (l6 : K.lookup f6 = some ⟨oc6, od6, .func (PySem.W.fnOf "value_at" "value_at" (defArgs s_value_at) (defBody s_value_at) (defScope s_value_at) .none kV6 dc6 pm6 an6 cd6 ct6), sl6⟩) (c6 : PySem.W.codeIn K cd6 "value_at" = true) (k6 : PySem.W.keepIn K (.ref f6) = true)
    (a7 : PySem.W.nsIn K mainGlobals "number_rank" = some (some (.ref f7))) (l7 : K.lookup f7 = some ⟨oc7, od7, .func (PySem.W.fnOf "number_rank" "number_rank" (defArgs s_number_rank) (defBody s_number_rank) (defScope s_number_rank) .none kV7 dc7 pm7 an7 cd7 ct7), sl7⟩) (c7 : PySem.W.codeIn K cd7 "number_rank" = true) (k7 : PySem.W.keepIn K (.ref f7) = true)
    (a8 : PySem.W.nsIn K mainGlobals "reach" = some (some (.ref f8))) (l8 : K.lookup f8 = some ⟨oc8, od8, .func (PySem.W.fnOf "reach" "reach" (defArgs s_reach) (defBody s_reach) (defScope s_reach) .none kV8 dc8 pm8 an8 cd8 ct8), sl8⟩) (c8 : PySem.W.codeIn K cd8 "reach" = true) (k8 : PySem.W.keepIn K (.ref f8) = true)
    (a9 : PySem.W.nsIn K mainGlobals "_ranks" = some (some (.ref f9))) (l9 : K.lookup f9 = some ⟨oc9, od9, .func (PySem.W.fnOf "_ranks" "_ranks" (defArgs s_ranks) (defBody s_ranks) (defScope s_ranks) .none kV9 dc9 pm9 an9 cd9 ct9), sl9⟩) (c9 : PySem.W.codeIn K cd9 "_ranks" = true) (k9 : PySem.W.keepIn K (.ref f9) = true)
    (a10 : PySem.W.nsIn K mainGlobals "rank" = some (some (.ref f10))) (l10 : K.lookup f10 = some ⟨oc10, od10, .func (PySem.W.fnOf "rank" "rank" (defArgs s_rank) (defBody s_rank) (defScope s_rank) .none kV10 dc10 pm10 an10 cd10 ct10), sl10⟩) (c10 : PySem.W.codeIn K cd10 "rank" = true) (k10 : PySem.W.keepIn K (.ref f10) = true)
    (a11 : PySem.W.nsIn K mainGlobals "point" = some (some (.ref f11))) (l11 : K.lookup f11 = some ⟨oc11, od11, .func (PySem.W.fnOf "point" "point" (defArgs s_point) (defBody s_point) (defScope s_point) .none kV11 dc11 pm11 an11 cd11 ct11), sl11⟩) (c11 : PySem.W.codeIn K cd11 "point" = true) (k11 : PySem.W.keepIn K (.ref f11) = true)
    (a12 : PySem.W.nsIn K mainGlobals "_law_draws" = some (some (.ref f12))) (l12 : K.lookup f12 = some ⟨oc12, od12, .func (PySem.W.fnOf "_law_draws" "_law_draws" (defArgs s_law_draws) (defBody s_law_draws) (defScope s_law_draws) .none kV12 dc12 pm12 an12 cd12 ct12), sl12⟩) (c12 : PySem.W.codeIn K cd12 "_law_draws" = true) (k12 : PySem.W.keepIn K (.ref f12) = true)
    (a13 : PySem.W.nsIn K mainGlobals "_law_at" = some (some (.ref f13))) (l13 : K.lookup f13 = some ⟨oc13, od13, .func (PySem.W.fnOf "_law_at" "_law_at" (defArgs s_law_at) (defBody s_law_at) (defScope s_law_at) .none kV13 dc13 pm13 an13 cd13 ct13), sl13⟩) (c13 : PySem.W.codeIn K cd13 "_law_at" = true) (k13 : PySem.W.keepIn K (.ref f13) = true)
    (a14 : PySem.W.nsIn K mainGlobals "_law_is_integer" = some (some (.ref f14))) (l14 : K.lookup f14 = some ⟨oc14, od14, .func (PySem.W.fnOf "_law_is_integer" "_law_is_integer" (defArgs s_law_is_integer) (defBody s_law_is_integer) (defScope s_law_is_integer) .none kV14 dc14 pm14 an14 cd14 ct14), sl14⟩) (c14 : PySem.W.codeIn K cd14 "_law_is_integer" = true) (k14 : PySem.W.keepIn K (.ref f14) = true)
    (a15 : PySem.W.nsIn K mainGlobals "_law_plus" = some (some (.ref f15))) (l15 : K.lookup f15 = some ⟨oc15, od15, .func (PySem.W.fnOf "_law_plus" "_law_plus" (defArgs s_law_plus) (defBody s_law_plus) (defScope s_law_plus) .none kV15 dc15 pm15 an15 cd15 ct15), sl15⟩) (c15 : PySem.W.codeIn K cd15 "_law_plus" = true) (k15 : PySem.W.keepIn K (.ref f15) = true)
    (a16 : PySem.W.nsIn K mainGlobals "_law_times" = some (some (.ref f16))) (l16 : K.lookup f16 = some ⟨oc16, od16, .func (PySem.W.fnOf "_law_times" "_law_times" (defArgs s_law_times) (defBody s_law_times) (defScope s_law_times) .none kV16 dc16 pm16 an16 cd16 ct16), sl16⟩) (c16 : PySem.W.codeIn K cd16 "_law_times" = true) (k16 : PySem.W.keepIn K (.ref f16) = true)
    (a17 : PySem.W.nsIn K mainGlobals "_law_value" = some (some (.ref f17))) (l17 : K.lookup f17 = some ⟨oc17, od17, .func (PySem.W.fnOf "_law_value" "_law_value" (defArgs s_law_value) (defBody s_law_value) (defScope s_law_value) .none kV17 dc17 pm17 an17 cd17 ct17), sl17⟩) (c17 : PySem.W.codeIn K cd17 "_law_value" = true) (k17 : PySem.W.keepIn K (.ref f17) = true)
    (a18 : PySem.W.nsIn K mainGlobals "_law_menu" = some (some (.ref f18))) (l18 : K.lookup f18 = some ⟨oc18, od18, .func (PySem.W.fnOf "_law_menu" "_law_menu" (defArgs s_law_menu) (defBody s_law_menu) (defScope s_law_menu) .none kV18 dc18 pm18 an18 cd18 ct18), sl18⟩) (c18 : PySem.W.codeIn K cd18 "_law_menu" = true) (k18 : PySem.W.keepIn K (.ref f18) = true)
    (a19 : PySem.W.nsIn K mainGlobals "_law_deep" = some (some (.ref f19))) (l19 : K.lookup f19 = some ⟨oc19, od19, .func (PySem.W.fnOf "_law_deep" "_law_deep" (defArgs s_law_deep) (defBody s_law_deep) (defScope s_law_deep) .none kV19 dc19 pm19 an19 cd19 ct19), sl19⟩) (c19 : PySem.W.codeIn K cd19 "_law_deep" = true) (k19 : PySem.W.keepIn K (.ref f19) = true)
    (a20 : PySem.W.nsIn K mainGlobals "_law_made" = some (some (.ref f20))) (l20 : K.lookup f20 = some ⟨oc20, od20, .func (PySem.W.fnOf "_law_made" "_law_made" (defArgs s_law_made) (defBody s_law_made) (defScope s_law_made) .none kV20 dc20 pm20 an20 cd20 ct20), sl20⟩) (c20 : PySem.W.codeIn K cd20 "_law_made" = true) (k20 : PySem.W.keepIn K (.ref f20) = true)
    (a21 : PySem.W.nsIn K mainGlobals "_law_point" = some (some (.ref f21))) (l21 : K.lookup f21 = some ⟨oc21, od21, .func (PySem.W.fnOf "_law_point" "_law_point" (defArgs s_law_point) (defBody s_law_point) (defScope s_law_point) .none kV21 dc21 pm21 an21 cd21 ct21), sl21⟩) (c21 : PySem.W.codeIn K cd21 "_law_point" = true) (k21 : PySem.W.keepIn K (.ref f21) = true)
    (a22 : PySem.W.nsIn K mainGlobals "_law_reaches" = some (some (.ref f22))) (l22 : K.lookup f22 = some ⟨oc22, od22, .func (PySem.W.fnOf "_law_reaches" "_law_reaches" (defArgs s_law_reaches) (defBody s_law_reaches) (defScope s_law_reaches) .none kV22 dc22 pm22 an22 cd22 ct22), sl22⟩) (c22 : PySem.W.codeIn K cd22 "_law_reaches" = true) (k22 : PySem.W.keepIn K (.ref f22) = true)
    (a23 : PySem.W.nsIn K mainGlobals "law" = some (some (.ref f23))) (l23 : K.lookup f23 = some ⟨oc23, od23, .func (PySem.W.fnOf "law" "law" (defArgs s_law) (defBody s_law) (defScope s_law) .none kV23 dc23 pm23 an23 cd23 ct23), sl23⟩) (c23 : PySem.W.codeIn K cd23 "law" = true) (k23 : PySem.W.keepIn K (.ref f23) = true)
    (z_abs : PySem.W.nsIn K mainGlobals "abs" = some none)
    (z_all : PySem.W.nsIn K mainGlobals "all" = some none)
    (z_bool : PySem.W.nsIn K mainGlobals "bool" = some none)
    (z_int : PySem.W.nsIn K mainGlobals "int" = some none)
    (z_isinstance : PySem.W.nsIn K mainGlobals "isinstance" = some none)
    (z_len : PySem.W.nsIn K mainGlobals "len" = some none)
    (z_list : PySem.W.nsIn K mainGlobals "list" = some none)
    (z_max : PySem.W.nsIn K mainGlobals "max" = some none)
    (z_min : PySem.W.nsIn K mainGlobals "min" = some none)
    (z_range : PySem.W.nsIn K mainGlobals "range" = some none)
    (z_repr : PySem.W.nsIn K mainGlobals "repr" = some none)
    (z_reversed : PySem.W.nsIn K mainGlobals "reversed" = some none)
    (z_sum : PySem.W.nsIn K mainGlobals "sum" = some none)
    (z_zip : PySem.W.nsIn K mainGlobals "zip" = some none)
    : ∃ fd : FuncData, (∀ (s : Shared) (v : Value), BindsTo s fd ⟨[v], []⟩ [("script", v)]) ∧ ∀ base : Heap, K.In base → base.Ns mainGlobals mg → LG.FnG l.prog w K mg base CX0 6 fa fd ["script"] (sp_law K) := by
  have e := hfa.symm.trans (PySem.W.mg_of X G a23)
  cases e
  let T : Txt K mg := {
    first_row := ⟨_, _, fun_mk (st := s_first_row) l0 c0 k0, (fun_mk (st := s_first_row) l0 c0 k0).binds (ps := ["rows", "start", "column"]) (fun _ _ _ _ _ _ us hl => match us, hl with | [_, _, _], _ => rfl), PySem.W.mg_of X G a0⟩
    lowered := ⟨_, _, fun_mk (st := s_lowered) l1 c1 k1, (fun_mk (st := s_lowered) l1 c1 k1).binds (ps := ["row", "pivot", "column", "last"]) (fun _ _ _ _ _ _ us hl => match us, hl with | [_, _, _, _], _ => rfl), PySem.W.mg_of X G a1⟩
    triangle := ⟨_, _, fun_mk (st := s_triangle) l2 c2 k2, (fun_mk (st := s_triangle) l2 c2 k2).binds (ps := ["numbers", "width"]) (fun _ _ _ _ _ _ us hl => match us, hl with | [_, _], _ => rfl), PySem.W.mg_of X G a2⟩
    degree := ⟨_, _, fun_mk (st := s_degree) l3 c3 k3, (fun_mk (st := s_degree) l3 c3 k3).binds (ps := ["one"]) (fun _ _ _ _ _ _ us hl => match us, hl with | [_], _ => rfl), PySem.W.mg_of X G a3⟩
    value := ⟨_, _, fun_mk (st := s_value) l4 c4 k4, (fun_mk (st := s_value) l4 c4 k4).binds (ps := ["one", "at"]) (fun _ _ _ _ _ _ us hl => match us, hl with | [_, _], _ => rfl), PySem.W.mg_of X G a4⟩
    width := ⟨_, _, fun_mk (st := s_width) l5 c5 k5, (fun_mk (st := s_width) l5 c5 k5).binds (ps := ["table"]) (fun _ _ _ _ _ _ us hl => match us, hl with | [_], _ => rfl), PySem.W.mg_of X G a5⟩
    value_at := ⟨_, _, fun_mk (st := s_value_at) l6 c6 k6, (fun_mk (st := s_value_at) l6 c6 k6).binds (ps := ["table", "at"]) (fun _ _ _ _ _ _ us hl => match us, hl with | [_, _], _ => rfl), PySem.W.mg_of X G a6⟩
    number_rank := ⟨_, _, fun_mk (st := s_number_rank) l7 c7 k7, (fun_mk (st := s_number_rank) l7 c7 k7).binds (ps := ["numbers"]) (fun _ _ _ _ _ _ us hl => match us, hl with | [_], _ => rfl), PySem.W.mg_of X G a7⟩
    reach := ⟨_, _, fun_mk (st := s_reach) l8 c8 k8, (fun_mk (st := s_reach) l8 c8 k8).binds (ps := ["table"]) (fun _ _ _ _ _ _ us hl => match us, hl with | [_], _ => rfl), PySem.W.mg_of X G a8⟩
    ranks := ⟨_, _, fun_mk (st := s_ranks) l9 c9 k9, (fun_mk (st := s_ranks) l9 c9 k9).binds (ps := ["table"]) (fun _ _ _ _ _ _ us hl => match us, hl with | [_], _ => rfl), PySem.W.mg_of X G a9⟩
    rank := ⟨_, _, fun_mk (st := s_rank) l10 c10 k10, (fun_mk (st := s_rank) l10 c10 k10).binds (ps := ["table"]) (fun _ _ _ _ _ _ us hl => match us, hl with | [_], _ => rfl), PySem.W.mg_of X G a10⟩
    point := ⟨_, _, fun_mk (st := s_point) l11 c11 k11, (fun_mk (st := s_point) l11 c11 k11).binds (ps := ["table"]) (fun _ _ _ _ _ _ us hl => match us, hl with | [_], _ => rfl), PySem.W.mg_of X G a11⟩
    law_draws := ⟨_, _, fun_mk (st := s_law_draws) l12 c12 k12, (fun_mk (st := s_law_draws) l12 c12 k12).binds (ps := ["script"]) (fun _ _ _ _ _ _ us hl => match us, hl with | [_], _ => rfl), PySem.W.mg_of X G a12⟩
    law_at := ⟨_, _, fun_mk (st := s_law_at) l13 c13 k13, (fun_mk (st := s_law_at) l13 c13 k13).binds (ps := ["draws", "k", "many"]) (fun _ _ _ _ _ _ us hl => match us, hl with | [_, _, _], _ => rfl), PySem.W.mg_of X G a13⟩
    law_is_integer := ⟨_, _, fun_mk (st := s_law_is_integer) l14 c14 k14, (fun_mk (st := s_law_is_integer) l14 c14 k14).binds (ps := ["actual"]) (fun _ _ _ _ _ _ us hl => match us, hl with | [_], _ => rfl), PySem.W.mg_of X G a14⟩
    law_plus := ⟨_, _, fun_mk (st := s_law_plus) l15 c15 k15, (fun_mk (st := s_law_plus) l15 c15 k15).binds (ps := ["one", "two"]) (fun _ _ _ _ _ _ us hl => match us, hl with | [_, _], _ => rfl), PySem.W.mg_of X G a15⟩
    law_times := ⟨_, _, fun_mk (st := s_law_times) l16 c16 k16, (fun_mk (st := s_law_times) l16 c16 k16).binds (ps := ["one", "two"]) (fun _ _ _ _ _ _ us hl => match us, hl with | [_, _], _ => rfl), PySem.W.mg_of X G a16⟩
    law_value := ⟨_, _, fun_mk (st := s_law_value) l17 c17 k17, (fun_mk (st := s_law_value) l17 c17 k17).binds (ps := ["one", "at"]) (fun _ _ _ _ _ _ us hl => match us, hl with | [_, _], _ => rfl), PySem.W.mg_of X G a17⟩
    law_menu := ⟨_, _, fun_mk (st := s_law_menu) l18 c18 k18, (fun_mk (st := s_law_menu) l18 c18 k18).binds (ps := ["cell"]) (fun _ _ _ _ _ _ us hl => match us, hl with | [_], _ => rfl), PySem.W.mg_of X G a18⟩
    law_deep := ⟨_, _, fun_mk (st := s_law_deep) l19 c19 k19, (fun_mk (st := s_law_deep) l19 c19 k19).binds (ps := ["draws", "many"]) (fun _ _ _ _ _ _ us hl => match us, hl with | [_, _], _ => rfl), PySem.W.mg_of X G a19⟩
    law_made := ⟨_, _, fun_mk (st := s_law_made) l20 c20 k20, (fun_mk (st := s_law_made) l20 c20 k20).binds (ps := ["draws", "rows", "columns"]) (fun _ _ _ _ _ _ us hl => match us, hl with | [_, _, _], _ => rfl), PySem.W.mg_of X G a20⟩
    law_point := ⟨_, _, fun_mk (st := s_law_point) l21 c21 k21, (fun_mk (st := s_law_point) l21 c21 k21).binds (ps := ["parts"]) (fun _ _ _ _ _ _ us hl => match us, hl with | [_], _ => rfl), PySem.W.mg_of X G a21⟩
    law_reaches := ⟨_, _, fun_mk (st := s_law_reaches) l22 c22 k22, (fun_mk (st := s_law_reaches) l22 c22 k22).binds (ps := ["draws"]) (fun _ _ _ _ _ _ us hl => match us, hl with | [_], _ => rfl), PySem.W.mg_of X G a22⟩
    law := ⟨_, _, fun_mk (st := s_law) l23 c23 k23, (fun_mk (st := s_law) l23 c23 k23).binds (ps := ["script"]) (fun _ _ _ _ _ _ us hl => match us, hl with | [_], _ => rfl), PySem.W.mg_of X G a23⟩
    m_abs := PySem.W.mg_none_of X G z_abs
    m_all := PySem.W.mg_none_of X G z_all
    m_bool := PySem.W.mg_none_of X G z_bool
    m_int := PySem.W.mg_none_of X G z_int
    m_isinstance := PySem.W.mg_none_of X G z_isinstance
    m_len := PySem.W.mg_none_of X G z_len
    m_list := PySem.W.mg_none_of X G z_list
    m_max := PySem.W.mg_none_of X G z_max
    m_min := PySem.W.mg_none_of X G z_min
    m_range := PySem.W.mg_none_of X G z_range
    m_repr := PySem.W.mg_none_of X G z_repr
    m_reversed := PySem.W.mg_none_of X G z_reversed
    m_sum := PySem.W.mg_none_of X G z_sum
    m_zip := PySem.W.mg_none_of X G z_zip
  }
  exact ⟨PySem.W.fnOf "law" "law" (defArgs s_law) (defBody s_law) (defScope s_law) .none kV23 dc23 pm23 an23 cd23 ct23, fun s v => .of_eq rfl, fun base _ _ => ok_law T⟩
theorem walk {l : PySem.W.OpenLaw} {q : Program} {loose : List Str} {XP : (Str → Option Value) → Heap → Prop} {YP : World → Heap → Prop} {d : DefRec} {K : Params → PySem.W.Frag} (hn : l.most = some 63) (hdf : d.params.defaults = [])
    (hY : ∀ (w : World) (h : Heap), YP w h → (K w.params).In h)
    (F : ∀ (w : World) (mg : Str → Option Value) (fa : Addr) (h : Heap), (K w.params).In h → h.Ns mainGlobals mg → mg d.name = some (.ref fa) →
      ∃ fd : FuncData, (∀ (s : Shared) (u : Value), BindsTo s fd ⟨[u], []⟩ [("script", u)]) ∧ ∀ base : Heap, (K w.params).In base → base.Ns mainGlobals mg → LG.FnG l.prog w (K w.params) mg base CX0 6 fa fd ["script"] (sp_law (K w.params))) :
    PySem.W.WalkO q loose XP YP l.row.toRowW d [] (fun f vs => PySem.call f vs) :=
  LG.walkG (n := 63) (k := 6) (x := "script") (sp := sp_law) hn (by decide) hdf ⟨rfl, by decide, by decide⟩ hY F fun _ _ a ns hl _ hS => ⟨a, ns, rfl, hS, hl, fun _ => rfl⟩
end
end K03

open PySem PySem.W PyProof.Rows in
set_option maxRecDepth 100000 in
set_option maxHeartbeats 0 in
theorem PySem.Challenge.cw_unsaidsizes_k03_ranks_of_polynomials_holds : PySem.Challenge.rw_unsaidsizes_k03_ranks_of_polynomials.Holds := by
  w_on; o_law; k_head; (case hw => w_witness2)
  k_fill
  refine K03.walk (l := PySem.Challenge.rw_unsaidsizes_k03_ranks_of_polynomials) rfl rfl (fun w h Y => PySem.W.kIn_of Y) ?F
  case F =>
    intro w mg fa h KX G hmg
    refine' K03.all_mk KX G hmg ?a0 ?l0 ?c0 ?k0 ?a1 ?l1 ?c1 ?k1 ?a2 ?l2 ?c2 ?k2 ?a3 ?l3 ?c3 ?k3 ?a4 ?l4 ?c4 ?k4 ?a5 ?l5 ?c5 ?k5 ?a6 ?l6 ?c6 ?k6 ?a7 ?l7 ?c7 ?k7 ?a8 ?l8 ?c8 ?k8 ?a9 ?l9 ?c9 ?k9 ?a10 ?l10 ?c10 ?k10 ?a11 ?l11 ?c11 ?k11 ?a12 ?l12 ?c12 ?k12 ?a13 ?l13 ?c13 ?k13 ?a14 ?l14 ?c14 ?k14 ?a15 ?l15 ?c15 ?k15 ?a16 ?l16 ?c16 ?k16 ?a17 ?l17 ?c17 ?k17 ?a18 ?l18 ?c18 ?k18 ?a19 ?l19 ?c19 ?k19 ?a20 ?l20 ?c20 ?k20 ?a21 ?l21 ?c21 ?k21 ?a22 ?l22 ?c22 ?k22 ?a23 ?l23 ?c23 ?k23 ?z_abs ?z_all ?z_bool ?z_int ?z_isinstance ?z_len ?z_list ?z_max ?z_min ?z_range ?z_repr ?z_reversed ?z_sum ?z_zip
    (case a0 => k_is)
    (case l0 => k_is)
    (case c0 => k_is)
    (case k0 => k_is)
    (case a1 => k_is)
    (case l1 => k_is)
    (case c1 => k_is)
    (case k1 => k_is)
    (case a2 => k_is)
    (case l2 => k_is)
    (case c2 => k_is)
    (case k2 => k_is)
    (case a3 => k_is)
    (case l3 => k_is)
    (case c3 => k_is)
    (case k3 => k_is)
    (case a4 => k_is)
    (case l4 => k_is)
    (case c4 => k_is)
    (case k4 => k_is)
    (case a5 => k_is)
    (case l5 => k_is)
    (case c5 => k_is)
    (case k5 => k_is)
    (case a6 => k_is)
    (case l6 => k_is)
    (case c6 => k_is)
    (case k6 => k_is)
    (case a7 => k_is)
    (case l7 => k_is)
    (case c7 => k_is)
    (case k7 => k_is)
    (case a8 => k_is)
    (case l8 => k_is)
    (case c8 => k_is)
    (case k8 => k_is)
    (case a9 => k_is)
    (case l9 => k_is)
    (case c9 => k_is)
    (case k9 => k_is)
    (case a10 => k_is)
    (case l10 => k_is)
    (case c10 => k_is)
    (case k10 => k_is)
    (case a11 => k_is)
    (case l11 => k_is)
    (case c11 => k_is)
    (case k11 => k_is)
    (case a12 => k_is)
    (case l12 => k_is)
    (case c12 => k_is)
    (case k12 => k_is)
    (case a13 => k_is)
    (case l13 => k_is)
    (case c13 => k_is)
    (case k13 => k_is)
    (case a14 => k_is)
    (case l14 => k_is)
    (case c14 => k_is)
    (case k14 => k_is)
    (case a15 => k_is)
    (case l15 => k_is)
    (case c15 => k_is)
    (case k15 => k_is)
    (case a16 => k_is)
    (case l16 => k_is)
    (case c16 => k_is)
    (case k16 => k_is)
    (case a17 => k_is)
    (case l17 => k_is)
    (case c17 => k_is)
    (case k17 => k_is)
    (case a18 => k_is)
    (case l18 => k_is)
    (case c18 => k_is)
    (case k18 => k_is)
    (case a19 => k_is)
    (case l19 => k_is)
    (case c19 => k_is)
    (case k19 => k_is)
    (case a20 => k_is)
    (case l20 => k_is)
    (case c20 => k_is)
    (case k20 => k_is)
    (case a21 => k_is)
    (case l21 => k_is)
    (case c21 => k_is)
    (case k21 => k_is)
    (case a22 => k_is)
    (case l22 => k_is)
    (case c22 => k_is)
    (case k22 => k_is)
    (case a23 => k_is)
    (case l23 => k_is)
    (case c23 => k_is)
    (case k23 => k_is)
    (case z_abs => k_is)
    (case z_all => k_is)
    (case z_bool => k_is)
    (case z_int => k_is)
    (case z_isinstance => k_is)
    (case z_len => k_is)
    (case z_list => k_is)
    (case z_max => k_is)
    (case z_min => k_is)
    (case z_range => k_is)
    (case z_repr => k_is)
    (case z_reversed => k_is)
    (case z_sum => k_is)
    (case z_zip => k_is)
