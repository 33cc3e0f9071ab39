import PyProof.Rows.All
import Wide.All
import OpenK.AllK
import Wide.FinOn
import KE.KTypeName
import KE.KExcIs
import PyProof.FitsInt
import HandS.Base
import HandS.Call
import HandS.List
import HandS.Comp
import HandS.Ends
import HandS.Iter
import HandS.Wide
import HandS.WideBits
import HandS.Gcd
import HandS.Words
import HandS.WordsList
import HandS.WordsExc
import HandS.IsInst
import HandS.TupLe
import HandS.Exc
import HandS.ExcOwn
import HandS.ExcInit
import HandS.ExcField
import HandS.FStr
import KE.KNest
import PyProof.ReprRoads
import PyProof.StrLawsRepr
import PyProof.StrBlock2
import HandS.Nested
import HandS.AnyAll
import HandS.EndBits
import HandS.SetBool
import HandS.Deep
import HandS.Walk
import HandS.Set
import HandS.Strs
import PyProof.ListOps
import PyProof.Rows.SetFrom
import PyProof.SumAny
import HandS.TryOnly
import HandS.Conv
import HandS.GenOver
import HandS.DictComp
import HandS.SetKeys
import HandS.Dict
import HandS.Small
import PyProof.Rows.StrMul
import HandS.Text
import PyProof.Rows.StrJoinRep
import PyProof.StrLawsIn
import HandS.Zip0
import PySem.Challenge.RW_unsaidsizes_k07_books_and_their_faults
import HandS.Sort
import HandS.DictSubView
import HandS.DictTup
import KE.KDictCopyH
import KE.KDictList
import KE.GoesEnum
import KE.GoesMore
import PyProof.Rows.TupIter
import HandS.TryMany
import HandS.ExcCtx
import HandS.Hot
import HandS.HotCalls
set_option Elab.async false
set_option linter.all false
set_option maxRecDepth 100000
set_option maxHeartbeats 8000000
-- G
/-! calls under which no text of a list is being made (for repr of lists) -/
namespace LG
open PySem PySem.Spec PyProof.Rows L2
/-- as FnOk, for callers of which it is known that no guard stands -/
structure FnG (P : Program) (w : World) (K : PySem.W.Frag) (mg : Str → Option Value) (base : Heap) (CX : CXT) (k : Nat) (f : Addr) (fd : FuncData) (ps : List Str) (sp : Sp) : Prop where
  len : ∀ vs H Q E, sp vs H Q E → vs.length = ps.length
  run : ∀ (A : Around) (ou : List Env) (s : Shared) (H : Hp) (ar : Args) (us : List Value) (vs : List V) (Q : VK) (E : XK), Room k A → A.guards = some [] → Env0 P w K mg base A ou s H →
    BindsTo s fd ar (ps.zip us) → Vals vs us → sp vs H Q E → codeAny (model P w) A (.call (.ref f) ar) (CR CX ou P w H s Q E) s
section
variable {P : Program} {w : World} {K : PySem.W.Frag} {mg : Str → Option Value} {base : Heap} {CX : CXT} {k : Nat} {f : Addr} {fd : FuncData} {ps : List Str} {sp : Sp}
theorem deeper_guards {A : Around} (e : Env) (h : A.guards = some []) : (A.deeper e).guards = some [] := h
theorem g_of_ok (F : FnOk P w K mg base CX k f fd ps sp) : FnG P w K mg base CX k f fd ps sp := ⟨F.len, fun A ou s H ar us vs Q E hr _ => F.run A ou s H ar us vs Q E hr⟩

/-- a def's body keeps its promise, under known guards -/
theorem fnG_of {nm qu : Str} {pa : Arguments} {bo : List Stmt} {sc : Scope} {dv kv dc pm cd ct oc : Value} {an od : Option Addr} {sl : Array (Option Value)} {N : List Str}
    (hf : K.lookup f = some ⟨oc, od, .func (PySem.W.fnOf nm qu pa bo sc dv kv dc pm an cd ct), sl⟩) (hq : PySem.W.codeIn K cd qu = true) (S : FnScope N ps sc) (ln : ∀ vs H Q E, sp vs H Q E → vs.length = ps.length)
    (hb : ∀ (A : Around) (ou : List Env) (s : Shared) (H : Hp) (vs : List V) (Q : VK) (E : XK), Room k (A.deeper (envOfC qu sc s.heap.objs.size f cd)) → A.guards = some [] → sp vs H Q E →
      ∃ t, PSs (cxOf CX P w K mg base N qu sc f cd A ou s H E) bo t ∧ t { nx := fun _ G => Q .non G, rt := Q } (L2.start N vs) H) :
    FnG P w K mg base CX (k + 1) f (PySem.W.fnOf nm qu pa bo sc dv kv dc pm an cd ct) ps sp := by
  refine ⟨ln, fun A ou s H ar us vs Q E room gd en bd rel want => ?_⟩
  have there : K.In s.heap := en.mod.kin.keeps fun b o z => (en.bs b o z).1
  have nl : s.heap.NoLimit := en.mod.nolimit.keeps fun b o z => (en.bs b o z).1
  refine codeAny_call_function room.depth (there _ _ hf) rfl S.co S.gen rfl (PySem.W.codeRec_of there hq) (bd _ _ _ _ ?_)
  refine wpAny_newFunctionEnv_cells S.kind (fun y hy => ?_) fun env eenv s1 x => ?_
  · obtain ⟨n, v⟩ := y
    exact (S.par n (List.of_mem_zip hy).1).imp id fun q => ⟨q, PySem.W.cellsFrom_some _ _ _ (.inl q)⟩
  subst eenv
  refine ⟨nl.keeps x.toInCall.keep, codeAny_func ?_⟩
  obtain ⟨t, ht, hw⟩ := hb A ou s H vs Q E (room.deeper _) gd want
  have J0 := inv_start (CX := CX) (E := E) S room.hd en (ln _ _ _ _ want) rel x
  refine wpAny_mono (ht.run [] s1 (L2.start N vs) H _ J0 hw) (fun fl s' hs => ?_) fun e s' hs => hs
  cases fl with
  | brk => exact False.elim hs.choose_spec.choose_spec.2
  | cont => exact False.elim hs.choose_spec.choose_spec.2
  | ret u =>
    obtain ⟨v, _, G, J, rv, q⟩ := hs
    exact ⟨v, G, J.os, J.bare, J.base, J.hok, rv, q⟩
  | next =>
    obtain ⟨_, G, J, q⟩ := hs
    exact ⟨V.non, G, J.os, J.bare, J.base, J.hok, rfl, q⟩
/-- .. by the text -/
theorem fun_okG {x qual : Str} {st : Stmt} {N : List Str} (F : Fun K x qual st f fd) (S : FnScope N ps (defScope st)) (ln : ∀ vs H Q E, sp vs H Q E → vs.length = ps.length)
    (hb : ∀ (cd : Value) (A : Around) (ou : List Env) (s : Shared) (H : Hp) (vs : List V) (Q : VK) (E : XK), Room k (A.deeper (envOfC qual (defScope st) s.heap.objs.size f cd)) → A.guards = some [] → sp vs H Q E →
      ∃ t, PSs (cxOf CX0 P w K mg base N qual (defScope st) f cd A ou s H E).nox (defBody st) t ∧ t { nx := fun _ G => Q .non G, rt := Q } (L2.start N vs) H) : FnG P w K mg base CX0 (k + 1) f fd ps sp := by
  obtain ⟨oc, od, kV, doc, pm, an, cd, ct, osl, rfl, lk, hc⟩ := F.ex
  refine fnG_of lk hc S ln fun A ou s H vs Q E hr hg want => ?_
  obtain ⟨t, h, q⟩ := hb cd A ou s H vs Q E hr hg want
  exact ⟨t, h.nox, q⟩
end
section
variable {X : Cx} {CX : CXT} {k : Nat} {f : Addr} {fd : FuncData} {ps : List Str} {sp : Sp} {dvs : List V} {ds : List Value} {E : XK} {x : Str} {p pos : Pos} {e : Expr} {es : List Expr} {t : TA}
theorem pe_callG (F : FnG X.prog X.w X.K X.mg X.base CX k f fd ps sp) (hr : Room k X.A) (gd : X.A.guards = some []) (hg : Gl X x) (hm : X.mg x = some (.ref f)) (hk : PySem.W.keepIn X.K (.ref f) = true) (hb : Binds X.K fd ps ds) (hd : Vals dvs ds) (hx : Passes CX X E)
    (ha : PA X (e :: es) t) (hdb : (x == ("__debug__" : Str)) = false := by decide) (he : starEach (e :: es) X.env = (false, eval e X.env) :: starEach es X.env := by rfl) (hpl : (backTo pos (starEach es X.env)).any (·.1) = false := by rfl) :
    PE X (.Call (.Name x p) (e :: es) [] pos) (tCall sp dvs E t) := by
  refine ⟨fun pins s σ H Q I h => wpAny_Call_Name_kw (ld_glob I hg hm ?_ hdb)⟩
  refine PySem.W.callWith_K (h₀ := X.base) I.ok.mod.kin hk (thn (ha.run pos pins s σ H _ I h) fun us s1 ⟨vs, H1, J, r, q⟩ => ⟨J.kIn, ?_⟩) he hpl
  have r2 : Vals (vs ++ dvs) (us ++ ds) := r.append hd
  have ll : (us ++ ds).length = ps.length := by
    rw [← r2.length]
    exact F.len _ _ _ _ q
  refine wpAny_call (codeAny_mono (F.run X.A X.stack s1 H1 ⟨us, []⟩ (us ++ ds) (vs ++ dvs) Q E hr gd J.env0 (hb s1 us J.kIn ll) r2 q) fun r s' z => ?_)
  cases r with
  | error er => exact hx pins σ H1 s1 er s' J z
  | ok fl =>
    cases fl with
    | ret u => exact J.after z
    | next => exact False.elim z
    | brk => exact False.elim z
    | cont => exact False.elim z
/-- repr of nested data -/
theorem call_reprD (gd : X.A.guards = some []) (hu : X.A.units + 64 < cLine) : CallR X (.builtin "repr") (fun xs H Q => ∃ (a : Addr) (d : PyData), xs = [.ref a] ∧ Dp X.K H (.ref a) d ∧ d.showable = true ∧ d.hasDict = false ∧ d.depth ≤ 60 ∧ d.shown.length ≤ sizeLine ∧ Q (.str d.shown) H) := by
  intro pins s σ H xs us Q I r h
  obtain ⟨a, d, rfl, hd, h1, h2, h3, h4, q⟩ := h
  obtain ⟨u, rfl, e⟩ := vals1 r
  cases (show u = Value.ref a from e)
  obtain ⟨as, rd⟩ := Dp.reads I d (.ref a) (.ref a) hd rfl
  refine PySem.repr_of_reads' rd h1 (fun z => by rw [h2] at z; cases z) gd (by omega) (fun _ _ z => z) (fun h' u tk k => ?_) h4
  exact ⟨.str _, H, I.kept (t' := tk) k, ⟨u, rfl⟩, q⟩
end

/-! the law's own call -/
section
variable {P : Program} {w : World} {K : PySem.W.Frag} {mg mb : Str → Option Value} {k : Nat} {fa a : Addr} {fd : FuncData} {x : Str} {sp : Sp} {s₁ : Shared} {vs : List Value} {ns : List Int}
/-- from one abstract heap, in which the script alone may stand -/
theorem enter (KX : K.In s₁.heap) (gl : s₁.heap.Ns mainGlobals mg) (bl : s₁.heap.Ns builtinsNs mb) (bb : ∀ y : Str, y ≠ "__name__" → mb y = bootBuiltins y) (nl : s₁.heap.NoLimit) (g0 : s₁.gens = #[])
    (at_ : s₁.heap.get? a = some { cls := .type "list", data := .seq vs.toArray }) (room : Room k callerA) (bind : ∀ (s : Shared) (u : Value), BindsTo s fd ⟨[u], []⟩ [(x, u)])
    (F : ∀ base : Heap, K.In base → base.Ns mainGlobals mg → FnG P w K mg base CX0 k fa fd [x] sp) {H : Hp} (only : Only H) (ok : HOk P w H s₁.heap) (alone : ∀ b, H b ≠ none → b = a) (notK : H a ≠ none → K.lookup a = none)
    (want : sp [.ref a] H (fun v _ => v = .bl true) fun _ _ _ => False) :
    codeAny (model P w) callerA (.call (.ref fa) ⟨[.ref a], []⟩) (fun r s' => r = .ok (.ret (.bool true)) ∧ OldK s₁.heap s'.heap ∧ s'.os = s₁.os ∧ AllBare s'.gens) s₁ := by
  have free : ∀ {b : Addr} {o : Obj}, s₁.heap.get? b = some o → (∀ it n, o.data ≠ .seq it n) → H b = none := fun {b o} z nd => by
    cases q : H b with
    | none => rfl
    | some u =>
      obtain rfl := alone b (by rw [q]; exact fun y => nomatch y)
      rw [at_] at z
      cases z
      exact absurd rfl (nd vs.toArray _)
  have nsOf : ∀ {b : Addr} {m : Str → Option Value}, s₁.heap.Ns b m → (hidT s₁.heap H).Ns b m := fun {b m} ⟨o, es, ep, z, d, r⟩ =>
    ⟨o, es, ep, hidT_get z (free z fun it n y => by rw [d] at y; exact nomatch y), d, r⟩
  have inB : K.In (hidT s₁.heap H) := fun b o z => by
    refine hidT_get (KX b o z) ?_
    cases q : H b with
    | none => rfl
    | some u =>
      obtain rfl := alone b (by rw [q]; exact fun y => nomatch y)
      rw [notK (by rw [q]; exact fun y => nomatch y)] at z
      cases z
  have md : Mod K mg (hidT s₁.heap H) := ⟨inB, nsOf gl, ⟨mb, nsOf bl, bb⟩, let ⟨mc, y1, y2⟩ := nl; ⟨mc, nsOf y1, y2⟩⟩
  have en : Env0 P w K mg (hidT s₁.heap H) callerA [] s₁ H := ⟨rfl, md, fun b o z => of_hidT z, Nat.le_of_eq (hidT_size _ _), trivial, fun b z => absurd (show b ∈ ([] : List Addr) from z) (List.not_mem_nil), ok, .of_eq g0⟩
  refine codeAny_mono ((F _ inB (nsOf gl)).run callerA [] s₁ H ⟨[.ref a], []⟩ [.ref a] [.ref a] _ _ room rfl en (bind s₁ (.ref a)) (.cons rfl .nil) want) fun r s' h => ?_
  cases r with
  | error e => exact False.elim h
  | ok fl =>
    cases fl with
    | next => exact False.elim h
    | brk => exact False.elim h
    | cont => exact False.elim h
    | ret u =>
      obtain ⟨v, G, e1, e2, un, okG, rel, q⟩ := h
      obtain rfl : v = V.bl true := q
      obtain rfl : u = Value.bool true := rel
      refine ⟨rfl, OldK.of_keep fun b o z => ?_, e1, e2⟩
      cases q : H b with
      | none => exact un.keep b o z q (fun y => nomatch y) (fun y => nomatch y)
      | some u =>
        rcases only b with y | ⟨ob, xs, y⟩
        · rw [q] at y
          cases y
        · have z1 := (ok b _ y).1
          have z2 := (okG b _ (un.frzs b ob _ y)).1
          rw [z] at z1
          cases z1
          exact z2

theorem enter_all (KX : K.In s₁.heap) (gl : s₁.heap.Ns mainGlobals mg) (bl : s₁.heap.Ns builtinsNs mb) (bb : ∀ y : Str, y ≠ "__name__" → mb y = bootBuiltins y) (nl : s₁.heap.NoLimit) (g0 : s₁.gens = #[])
    (at_ : s₁.heap.get? a = some { cls := .type "list", data := .seq vs.toArray }) (ia : IntsAre vs ns) (small : ns.length ≤ sizeLine) (room : Room k callerA) (bind : ∀ (s : Shared) (u : Value), BindsTo s fd ⟨[u], []⟩ [(x, u)])
    (F : ∀ base : Heap, K.In base → base.Ns mainGlobals mg → FnG P w K mg base CX0 k fa fd [x] sp) (want : ∀ H : Hp, Only H → SqL K H a (ns.map V.int) → sp [.ref a] H (fun v _ => v = .bl true) fun _ _ _ => False) :
    codeAny (model P w) callerA (.call (.ref fa) ⟨[.ref a], []⟩) (fun r s' => r = .ok (.ret (.bool true)) ∧ OldK s₁.heap s'.heap ∧ s'.os = s₁.os ∧ AllBare s'.gens) s₁ := by
  have rel := vals_ints ia
  cases hk : K.lookup a with
  | some o =>
    have z := KX a o hk
    rw [at_] at z
    cases z
    have only : Only (fun _ => none) := fun _ => .inl rfl
    have len := ia.length
    exact enter KX gl bl bb nl g0 at_ room bind F only (fun b u z => by cases z) (fun b z => absurd rfl z) (fun z => absurd rfl z)
      (want _ only (.inr ⟨_, vs.toArray, _, hk, rfl, rfl, rfl, by rw [List.size_toArray, len]; exact small, by simpa using rel⟩))
  | none =>
    let ob : Obj := { cls := .type "list", data := .seq vs.toArray }
    let H : Hp := fun b => if b = a then some (.frz ob (.lst (ns.map V.int))) else none
    have hit : H a = some (.frz ob (.lst (ns.map V.int))) := if_pos rfl
    have one : ∀ b, H b ≠ none → b = a := fun b z => by
      by_cases e : b = a
      · exact e
      · exact absurd (if_neg e) z
    have only : Only H := fun b => by
      by_cases e : b = a
      · exact .inr ⟨ob, ns.map V.int, if_pos e⟩
      · exact .inl (if_neg e)
    refine enter KX gl bl bb nl g0 at_ room bind F only (fun b u z => ?_) one (fun _ => hk) (want H only (.inl (.inr ⟨ob, hit⟩)))
    obtain rfl := one b (by rw [z]; exact fun y => nomatch y)
    rw [hit] at z
    cases z
    exact ⟨at_, by rw [List.length_map]; exact small, vs, _, rel, at_⟩
end
/-- what k_head leaves, from the law's promise -/
theorem walkG {l : PySem.W.OpenLaw} {n k : Nat} {q : Program} {loose : List Str} {XP : (Str → Option Value) → Heap → Prop} {YP : World → Heap → Prop} {d : DefRec} {K : Params → PySem.W.Frag} {sp : PySem.W.Frag → Sp} {x : Str}
    (hn : l.most = some n) (hz : n ≤ sizeLine) (hdf : d.params.defaults = []) (room : Room k callerA) (hY : ∀ (w : World) (h : Heap), YP w h → (K w.params).In h)
    (F : ∀ (w : World) (mg : Str → Option Value) (fa : Addr) (h : Heap), (K w.params).In h → h.Ns mainGlobals mg → mg d.name = some (.ref fa) →
      ∃ fd : FuncData, (∀ (s : Shared) (u : Value), BindsTo s fd ⟨[u], []⟩ [(x, u)]) ∧ ∀ base : Heap, (K w.params).In base → base.Ns mainGlobals mg → FnG l.prog w (K w.params) mg base CX0 k fa fd [x] (sp (K w.params)))
    (want : ∀ (K : PySem.W.Frag) (H : Hp) (a : Addr) (ns : List Int), ns.length ≤ n → Only H → SqL K H a (ns.map V.int) → sp K [.ref a] H (fun v _ => v = .bl true) fun _ _ _ => False) :
    PySem.W.WalkO q loose XP YP l.row.toRowW d [] (fun f vs => PySem.call f vs) := by
  refine Att.attach_call hn hdf fun w s0 s1 mg mb fa o pm cd doc a vs ns G Y ho hd hcd hmg hobj ia len g0 => ?_
  obtain ⟨fd, bi, FF⟩ := F w mg fa _ (hY w _ Y) G.T.g hmg
  exact enter_all (hY w _ Y) G.T.g G.T.b G.T.builtins G.T.nolimit g0 hobj ia (Nat.le_trans len hz) room bi FF fun H only hs => want _ H a ns len only hs
end LG
-- GL
/-! elements of generator expressions that call nothing of the text: values by names, under whatever frames -/
namespace LE
open PySem PySem.Spec PyProof.Rows L2
/-- where such an element is reckoned: the names that it sees, what stands as the def that holds it had it -/
structure Site (X : Cx) (sc : Scope) (H : Hp) (Γ : List (Str × V)) (ce : Env) (t : Shared) : Prop where
  fn : sc.kind = .function
  eqs : ce.scope = sc
  gl : ce.globals = mainGlobals
  bl : ce.builtins = builtinsNs
  mod : Mod X.K X.mg X.base
  bs : ∀ b o, X.base.get? b = some o → t.heap.get? b = some o
  obj : ∀ b u, H b = some u → (∀ q, u ≠ .tbl q) → ObjOk X.prog X.w H t.heap b u
  var : ∀ y v, Γ.lookup y = some v → ∃ u, RelV v u ∧ ((sc.names.lookup y = some .local ∧ ∃ m, t.heap.Ns ce.locals m ∧ m y = some u) ∨ (sc.names.lookup y = some .free ∧ ∃ c, ce.cells.lookup y = some c ∧ t.heap.IsCell c (some u)))
section
variable {X : Cx} {sc : Scope} {H : Hp} {Γ : List (Str × V)} {ce : Env} {t t' : Shared}
theorem Site.keeps (S : Site X sc H Γ ce t) (k : Keeps t t') : Site X sc H Γ ce t' := by
  obtain ⟨h', n, rfl, kk⟩ := k
  refine ⟨S.fn, S.eqs, S.gl, S.bl, S.mod, fun b o e => kk _ _ (S.bs b o e), fun b u e n => (S.obj b u e n).stay (fun c v _ y => kk c v y) (fun _ y => y) fun _ _ y => y, fun y v e => ?_⟩
  obtain ⟨u, r, l⟩ := S.var y v e
  refine ⟨u, r, l.imp (fun ⟨a, m, hn, hm⟩ => ⟨a, m, hn.keeps kk, hm⟩) fun ⟨a, c, hc, o, ho, hd⟩ => ⟨a, c, hc, o, kk _ _ ho, hd⟩⟩
theorem Site.list {p : Addr} {xs : List V} (S : Site X sc H Γ ce t) (h : SqL X.K H p xs) : ∃ its : List Value, Vals xs its ∧ PlainL t.heap p its.toArray ∧ xs.length ≤ sizeLine := by
  rcases h with (h | ⟨o, h⟩) | ⟨o, its, n, hk, hc, hd, hs, hz, r⟩
  · obtain ⟨z, its, n, r, e⟩ := S.obj p _ h fun _ y => nomatch y
    exact ⟨its, r, ⟨_, n, e, rfl, rfl, rfl⟩, z⟩
  · obtain ⟨_, z, its, n, r, e⟩ := S.obj p _ h fun _ y => nomatch y
    exact ⟨its, r, ⟨_, n, e, rfl, rfl, rfl⟩, z⟩
  · refine ⟨its.toList, r, ⟨o, n, S.bs _ _ (S.mod.kin p o hk), hc, hd, by simpa using hs⟩, ?_⟩
    have e := r.length
    simp only [Array.length_toList] at e
    omega
end
/-- e is v there, and nothing is changed -/
def PU (X : Cx) (sc : Scope) (H : Hp) (Γ : List (Str × V)) (e : Expr) (v : V) : Prop :=
  ∀ (ce : Env) (B : Around) (t : Shared) (F R : Value → Shared → Prop), Site X sc H Γ ce t → (∀ u t', RelV v u → Keeps t t' → R u t') → wpAny (model X.prog X.w) B (eval e ce) R F t
theorem kt (s : Shared) (k : Nat) : Keeps s { s with toks := k } := ⟨s.heap, k, rfl, fun _ _ e => e⟩
theorem k0 (s : Shared) : Keeps s s := kt s s.toks
theorem Keeps.on {a b c : Shared} (h : Keeps a b) (h' : Keeps b c) : Keeps a c := by
  obtain ⟨x, n, rfl, k⟩ := h
  obtain ⟨y, m, rfl, k'⟩ := h'
  exact ⟨y, m, rfl, fun i o e => k' i o (k i o e)⟩
section
variable {X : Cx} {sc : Scope} {H : Hp} {Γ : List (Str × V)} {a b : Expr} {pos : Pos}
theorem pu_var {y : Str} {v : V} (h : Γ.lookup y = some v) (hd : (y == ("__debug__" : Str)) = false := by decide) (hcd : (y == ("__classdict__" : Str)) = false := by decide) : PU X sc H Γ (.Name y pos) v := by
  intro ce B t F R S q
  obtain ⟨u, r, l⟩ := S.var y v h
  have fk : ce.scope.kind = .function := by rw [S.eqs]; exact S.fn
  rcases l with ⟨hl, m, hn, hm⟩ | ⟨hl, c, hc, ho⟩
  · exact wpAny_Name (wpAny_loadName_local fk (show ce.scope.names.lookup y = some .local by rw [S.eqs]; exact hl) hn hm (q u t r (k0 t))) hd
  · exact wpAny_Name (wpAny_loadName_free fk (show ce.scope.names.lookup y = some .free by rw [S.eqs]; exact hl) hc ho (q u t r (k0 t)) hcd) hd
theorem pu_int {i : Int} {j : Nat} : PU X sc H Γ (.Constant (.int i) j pos) (.int i) := fun ce B t F R S q => wpAny_Constant_int (q _ _ ⟨_, rfl⟩ (kt t _))
/-- two ints are compared -/
theorem pu_cmp {op : CmpOp} {g : Int → Int → Bool} {i j : Int} (rule : ∀ (B : Around) (i j : Int) (t u : Tok) (s : Shared) (Q : Value → Shared → Prop) (E : Value → Shared → Prop), Q (.bool (g i j)) s → wpAny (model X.prog X.w) B (compareOp op (.int i t) (.int j u)) Q E s)
    (ha : PU X sc H Γ a (.int i)) (hb : PU X sc H Γ b (.int j)) (hm : behindInMarks op b = false := by rfl) : PU X sc H Γ (.Compare a [op] [b] pos) (.bl (g i j)) := by
  intro ce B t F R S q
  refine wpAny_Compare1 (ha ce B t F _ S fun u t1 r1 k1 => hb ce B t1 F _ (S.keeps k1) fun w t2 r2 k2 => ?_) hm
  obtain ⟨_, rfl⟩ := r1
  obtain ⟨_, rfl⟩ := r2
  exact rule _ _ _ _ _ _ _ _ (q _ _ rfl (Keeps.on k1 k2))
theorem pu_lt {i j : Int} (ha : PU X sc H Γ a (.int i)) (hb : PU X sc H Γ b (.int j)) : PU X sc H Γ (.Compare a [.Lt] [b] pos) (.bl (decide (i < j))) := pu_cmp (g := fun i j => decide (i < j)) (fun _ _ _ _ _ _ _ _ q => lt_int q) ha hb (nomark _)
theorem pu_eqI {i j : Int} (ha : PU X sc H Γ a (.int i)) (hb : PU X sc H Γ b (.int j)) : PU X sc H Γ (.Compare a [.Eq] [b] pos) (.bl (decide (i = j))) := by
  intro ce B t F R S q
  refine wpAny_Compare1 (ha ce B t F _ S fun u t1 r1 k1 => hb ce B t1 F _ (S.keeps k1) fun w t2 r2 k2 => ?_) (nomark _)
  obtain ⟨_, rfl⟩ := r1
  obtain ⟨_, rfl⟩ := r2
  exact eq_int (q _ _ (by show _ = _; congr 1) (Keeps.on k1 k2))
theorem pu_sub {i j : Int} (ha : PU X sc H Γ a (.int i)) (hb : PU X sc H Γ b (.int j)) : PU X sc H Γ (.BinOp a .Sub b pos) (.int (i - j)) := by
  intro ce B t F R S q
  refine wpAny_BinOp (ha ce B t F _ S fun u t1 r1 k1 => hb ce B t1 F _ (S.keeps k1) fun w t2 r2 k2 => ?_)
  obtain ⟨_, rfl⟩ := r1
  obtain ⟨_, rfl⟩ := r2
  exact sub_int (q _ _ ⟨_, rfl⟩ (Keeps.on (Keeps.on k1 k2) (kt t2 _)))
theorem pu_non {j : Nat} : PU X sc H Γ (.Constant .none j pos) .non := fun ce B t F R S q => Constant_none (q _ _ rfl (k0 t))
/-- a is not None -/
theorem pu_notN {v : V} {j : Nat} {p : Pos} (ha : PU X sc H Γ a v) : PU X sc H Γ (.Compare a [.IsNot] [.Constant .none j p] pos) (.bl (!decide (v = .non))) := by
  intro ce B t F R S q
  refine wpAny_Compare1 (ha ce B t F _ S fun u t1 r1 k1 => Constant_none (isnot_none_gen (q _ _ ?_ k1))) rfl
  cases v <;> first
    | (cases r1; rfl)
    | (obtain ⟨t, rfl⟩ := r1; rfl)
theorem pu_one {op : BoolOp} {v : V} (ha : PU X sc H Γ a v) : PU X sc H Γ (.BoolOp op [a] pos) v := fun ce B t F R S q => BoolOp_one (ha ce B t F R S q)
theorem pu_and {rest : List Expr} {c r : Bool} (ha : PU X sc H Γ a (.bl c)) (hb : c = true → PU X sc H Γ (.BoolOp .And (b :: rest) pos) (.bl r)) : PU X sc H Γ (.BoolOp .And (a :: b :: rest) pos) (.bl (c && r)) := by
  intro ce B t F R S q
  refine BoolOp_and (ha ce B t F _ S fun u t1 r1 k1 => ?_)
  cases r1
  refine wpAny_truthy_bool ?_
  cases c with
  | true => exact hb rfl ce B t1 F R (S.keeps k1) fun u t2 r2 k2 => q u t2 r2 (Keeps.on k1 k2)
  | false => exact q _ _ rfl k1
/-- an item of a list, by a place from 0 on -/
theorem pu_ix {p : Addr} {xs : List V} {i : Nat} {v : V} (ha : PU X sc H Γ a (.ref p)) (hb : PU X sc H Γ b (.int (i : Int))) (hl : SqL X.K H p xs) (hi : xs[i]? = some v) (hs : PlainIx b := by exact fun _ _ => rfl) : PU X sc H Γ (.Subscript a b pos) v := by
  intro ce B t F R S q
  refine Subscript_ (ha ce B t F _ S fun u t1 r1 k1 => hb ce B t1 F _ (S.keeps k1) fun w t2 r2 k2 => ?_)
  cases r1
  obtain ⟨_, rfl⟩ := r2
  have S2 := (S.keeps k1).keeps k2
  obtain ⟨its, r, pl, hz⟩ := S2.list hl
  obtain ⟨x, ex, rx⟩ := r.get hi
  have hn := line63
  have hlt : i < xs.length := (List.getElem?_eq_some_iff.mp hi).1
  exact item_listR pl.isList (by omega) (by omega) (by simpa using ex) (q _ _ rx (Keeps.on k1 k2)) (hs _ _)
/-- len of a list -/
theorem pu_len {p : Addr} {xs : List V} {np : Pos} (ha : PU X sc H Γ a (.ref p)) (hl : SqL X.K H p xs) (hg : sc.names.lookup ("len" : Str) = some .globalImplicit) (hm : X.mg "len" = none)
    (he : ∀ ce : Env, starEach [a] ce = (false, eval a ce) :: starEach [] ce := by exact fun _ => rfl) : PU X sc H Γ (.Call (.Name "len" np) [a] [] pos) (.int xs.length) := by
  intro ce B t F R S q
  obtain ⟨mb, h1, h2⟩ := S.mod.blt
  refine wpAny_Call_Name_kw (Calls.Name_function_global (by rw [S.eqs]; exact S.fn) (show ce.scope.names.lookup ("len" : Str) = some .globalImplicit by rw [S.eqs]; exact hg)
    (Calls.loadGlobal_builtin (by rw [S.gl]; exact S.mod.glob.keeps S.bs) hm (by rw [S.bl]; exact h1.keeps S.bs) ((h2 "len" (by decide)).trans boot_len) ?_) (by decide))
  refine PyProof.Rows.callWith_builtin1 ?_ (he ce) rfl
  rw [he ce]
  refine Calls.spliced_cons (ha ce B t F _ S fun u t1 r1 k1 => Calls.spliced_nil ?_)
  cases r1
  obtain ⟨its, r, pl, hz⟩ := (S.keeps k1).list hl
  have hn := line63
  have e := r.length
  exact Calls.call_len_list pl.isList (by simp only [List.size_toArray] <;> omega) (q _ _ ⟨_, by rw [List.size_toArray, e]⟩ (Keeps.on k1 (kt t1 _)))
end
end LE
-- GA
/-! any and all of a generator expression over a list, its element reckoned by GL -/
namespace LE
open PySem PySem.Spec PyProof.Rows L2
open GxR (TabB TabG Tabbed GenS)
theorem pair_of_lookup {α : Type} : ∀ {l : List (Str × α)} {y : Str} {v : α}, l.lookup y = some v → (y, v) ∈ l
  | (k, w) :: r, y, v, h => by
    rw [List.lookup_cons] at h
    cases e : y == k with
    | true =>
      rw [e] at h
      have e2 : y = k := by simpa using e
      cases h
      rw [e2]
      exact List.mem_cons_self
    | false =>
      rw [e] at h
      exact List.mem_cons_of_mem _ (pair_of_lookup h)
/-- what is asked of the expression's scope, to be seen by looking -/
structure GOK (ds sc : Scope) (x : Str) : Prop where
  kind : sc.kind = .function
  co : sc.isCoroutine = false
  cell : ∀ y ∈ sc.names, y.2 ≠ .cell
  dot : sc.names.lookup (".0" : Str) = some NameKind.local
  loc : sc.names.lookup x = some .local
  kin : ∀ y ∈ sc.names, y.2 = .free → ds.names.lookup y.1 = some .cell ∨ ds.names.lookup y.1 = some .free
instance {ds sc : Scope} {x : Str} : Decidable (GOK ds sc x) :=
  decidable_of_iff (sc.kind = .function ∧ sc.isCoroutine = false ∧ (∀ y ∈ sc.names, y.2 ≠ .cell) ∧ sc.names.lookup (".0" : Str) = some NameKind.local ∧ sc.names.lookup x = some .local ∧ ∀ y ∈ sc.names, y.2 = .free → ds.names.lookup y.1 = some .cell ∨ ds.names.lookup y.1 = some .free)
    ⟨fun ⟨a, b, c, d, e, f⟩ => ⟨a, b, c, d, e, f⟩, fun ⟨a, b, c, d, e, f⟩ => ⟨a, b, c, d, e, f⟩⟩
def Gsc (X : Cx) (sc : Scope) (x : Str) : Prop := ∃ ds, X.env.scope = ds ∧ GOK ds sc x
theorem Gsc.gens {X : Cx} {sc : Scope} {x : Str} (g : Gsc X sc x) (ok : X.Ok) : GenS X.env sc x := by
  obtain ⟨ds, rfl, h⟩ := g
  exact ⟨h.kind, h.co, h.cell, h.dot, h.loc, fun y hy e => ok.has _ (h.kin y hy e)⟩
/-- the names of the def that the element sees, and what they hold -/
def Seen (X : Cx) (σ : L2.St) (sc : Scope) (Γ : List (Str × V)) : Prop :=
  ∀ y v, Γ.lookup y = some v → ∃ i : Nat, X.N[i]? = some y ∧ σ[i]? = some (some v) ∧ (X.env.scope.names.lookup y = some .cell ∨ X.env.scope.names.lookup y = some .free) ∧ sc.names.lookup y = some .free
theorem seen_nil {X : Cx} {σ : L2.St} {sc : Scope} : Seen X σ sc [] := fun _ _ h => nomatch h
theorem seen_cons {X : Cx} {σ : L2.St} {sc : Scope} {Γ : List (Str × V)} {y : Str} {v : V} (i : Nat) (hN : X.N[i]? = some y) (hσ : σ[i]? = some (some v)) (hk : X.env.scope.names.lookup y = some .cell ∨ X.env.scope.names.lookup y = some .free) (hf : sc.names.lookup y = some .free)
    (r : Seen X σ sc Γ) : Seen X σ sc ((y, v) :: Γ) := fun z w h => by
  rw [List.lookup_cons] at h
  cases e : z == y with
  | true =>
    rw [e] at h
    cases h
    rw [show z = y by simpa using e]
    exact ⟨i, hN, hσ, hk, hf⟩
  | false =>
    rw [e] at h
    exact r z w h
/-- a generator that is ready, of n turns, the j-th one true as tr says -/
def Rdy (X : Cx) (pins : List (Addr × Obj)) (σ : L2.St) (H1 : Hp) (P : Addr) (n : Nat) (tr : Nat → Bool) (g : Addr) (s5 : Shared) : Prop :=
  ∃ (fp wr : List Addr) (G : Array GenState → Array GenState → Prop) (F : Nat → Value → Prop) (St : Nat → Shared → Prop),
    WalksS X.prog X.w X.A.in1 g fp wr G n F St ∧ St 0 s5 ∧ TruthOf X.prog X.w X.A.in1 F tr ∧ ∀ s', Moved wr G s5 s' → ∃ H2, Tabbed P H1 H2 ∧ Inv X pins σ H2 s'
section
variable {X : Cx} {pins : List (Addr × Obj)} {σ : L2.St} {H : Hp} {s : Shared}
/-- the expression's code object: found, or made and put behind the table -/
theorem code_step {c P : Addr} {pos : Pos} {q : Str} {sc : Scope} {ps : Array Value} {R : Value → Shared → Prop} {E : Value → Shared → Prop} {A : Around} {M : Model} {t : Shared} (hcode : X.env.code = .ref c) (cd : PySem.W.CodeHd t.heap c P)
    (hP : t.heap.get? P = some { cls := .none, data := .fields ps }) (ht : TriplesOk ps.toList)
    (go : ∀ (code : Value) (h3 : Heap) (tk : Nat) (more : Array Value), Heap.ExtBut P t.heap h3 → t.heap.objs.size ≤ h3.objs.size → h3.get? P = some { cls := .none, data := .fields (ps ++ more) } → TriplesOk (ps ++ more).toList → R code { t with heap := h3, toks := tk }) :
    wpAny M A (genexprCode X.env pos q sc) R E t := by
  cases e : codeAmong pos ps.toList with
  | some v =>
    refine PySem.wpAny_genexprCode_hit hcode (cd.code hP ht) e ?_
    have z := go v t.heap t.toks #[] (Heap.ExtBut.refl _ _) (Nat.le_refl _) (by rw [Array.append_empty]; exact hP) (by rw [Array.append_empty]; exact ht)
    exact z
  | none =>
    refine PySem.wpAny_genexprCodeX hcode (cd.code hP ht) (cd.tab hP) e fun d h3 tk x ge lt ic _ it _ => go _ h3 tk _ x (Nat.le_trans ge (Nat.le_of_lt lt)) it.2 ?_
    obtain ⟨_, _, _, _, _, _, _, _, _, _, _, _, _, _, _, _, _, _, _, tr, _⟩ := ic
    exact tr
/-- .. for x in a list -/
theorem gen_list {c P : Addr} {elt iter : Expr} {x : Str} {px gpos : Pos} {sc : Scope} {te : TE} {k : Nat} {Q' : Value → Shared → Prop} {R : Nat → (Nat → Bool) → Hp → Prop}
    (hr : Room k X.A) (TB : TabB X.base X.mg c P) (hcode : X.env.code = .ref c) (S : GenS X.env sc x) (hi : PE X iter te) (hs : ∀ v, genFold iter X.env v = pure v) (I : Inv X pins σ H s)
    (h : te σ H fun v H1 => ∃ (a : Addr) (xs : List V) (tr : Nat → Bool) (Γ : List (Str × V)), v = .ref a ∧ SqL X.K H1 a xs ∧ TabG H1 P ∧ Seen X σ sc Γ ∧ (∀ j w, xs[j]? = some w → PU X sc H1 ((x, w) :: Γ) elt (.bl (tr j))) ∧ R xs.length tr H1)
    (hQ : ∀ n tr H1 g s5, R n tr H1 → Rdy X pins σ H1 P n tr g s5 → Q' (.ref g) s5) :
    wpAny (model X.prog X.w) X.A (eval (.GeneratorExp elt [⟨.Name x px, iter, [], 0⟩] sc gpos) X.env) Q' X.xe s := by
  refine wpAny_GeneratorExp_walksQ hr.hd S.co (closure_ok S.free) S.cell S.dot S.loc S.kind (by have := hr.dp; omega) ?_ hs
  refine thn (hi.run pins s σ H _ I h) fun u s1 ⟨v, H1, I1, r1, a, xs, tr, Γ, ev, hl, ⟨ps, hP, ht⟩, sn, hel, hR⟩ => ?_
  subst ev
  cases (show u = Value.ref a from r1)
  obtain ⟨its, rv, pl, hz⟩ := I1.list hl
  have nlen := rv.length
  refine wpAny_pyIter_list pl.isList ?_
  -- the iterator stands behind all else
  have kp : ∀ b o, s1.heap.get? b = some o → (s1.heap.push { cls := .type "list_iterator", data := .fields #[.ref a, .int 0 0] }).get? b = some o := fun b o e => Heap.get?_push_of_some _ e
  have oP : s1.heap.get? P = some { cls := .none, data := .fields ps } := I1.hok P _ hP
  have nl2 : (s1.heap.push { cls := .type "list_iterator", data := .fields #[.ref a, .int 0 0] }).NoLimit := I1.nolimit.push _
  have hsz2 : (s1.heap.push { cls := .type "list_iterator", data := .fields #[.ref a, .int 0 0] }).objs.size = s1.heap.objs.size + 1 := Heap.size_push ..
  have itA : (s1.heap.push { cls := .type "list_iterator", data := .fields #[.ref a, .int 0 0] }).IsListIter s1.heap.objs.size a 0 := ⟨_, Heap.get?_push_size _ rfl, rfl, rfl⟩
  have hal : a < s1.heap.objs.size := by
    obtain ⟨o, e, _⟩ := pl.isList
    exact Heap.lt_size e
  refine ⟨nl2, code_step (ps := ps) hcode (TB.code.keeps fun b o e => kp b o (I1.bk b o e)) (kp _ _ oP) ht fun code h3 tk more ex ge hP3 ht3 => ?_⟩
  have ge : s1.heap.objs.size + 1 ≤ h3.objs.size := by
    rw [← hsz2]
    exact ge
  obtain ⟨bm, ob, e1, e2, e3, e4, e5, e6, e7, e8⟩ := TB.bm
  have k3 : ∀ b o, b ≠ P → s1.heap.get? b = some o → h3.get? b = some o := fun b o n e => ex b o n (kp b o e)
  refine wpAny_builtinsFor (m := X.mg) (by rw [I1.ok.glob]; exact ((I1.mod.glob.keeps I1.bk).keeps kp).extBut ex TB.gP) e1 e2 (k3 _ _ e4 (I1.bk _ _ e5)) e6 e7 e8 ?_
  have aP : a ≠ P := fun z => by
    obtain ⟨o, e, d, n, e'⟩ := pl.isList
    rw [z, oP] at e
    cases e
    cases e'
  have iP : s1.heap.objs.size ≠ P := fun z => by
    have := Heap.lt_size oP
    rw [← z] at this
    exact Nat.lt_irrefl _ this
  have cP : cStatics ≠ P := fun z => by
    obtain ⟨_, ⟨o, es, ep, ho, hd, _⟩, _⟩ := I1.nolimit
    rw [z, oP] at ho
    cases ho
    cases hd
  have cl : cStatics < s1.heap.objs.size := let ⟨_, q, _⟩ := I1.nolimit; q.lt
  refine ⟨s1.heap.objs.size, [s1.heap.objs.size, a], [s1.heap.objs.size], its.toArray.size, fun i v => its.toArray[i]? = some v, fun i h => h.IsListIter s1.heap.objs.size a i ∧ h.IsList a its.toArray, fun _ => true, fun i y => y = .bool (tr i), rfl,
    fun A' hA => Walks.list hA _ _ (Nat.ne_of_lt hal) _, ⟨itA.at fun o e => ex _ o iP e, ?_⟩, fun b hb => ?_, nl2.extBut ex cP, fun z => ?_, fun href hk => ⟨fun A' E' i v t m _ _ _ _ _ => ?_, fun A' E' i v t m hA hv _ hn hm kk => ?_⟩, fun g h5 tk5 gs bare lt5 sz5 k5 W at5 => ?_⟩
  · obtain ⟨o, e, r⟩ := pl.isList
    exact ⟨o, k3 a o aP e, r⟩
  · show b < h3.objs.size
    rcases List.mem_cons.mp hb with z | z
    · rw [z]
      exact Nat.lt_of_lt_of_le (Nat.lt_succ_self _) ge
    · rw [List.mem_singleton.mp z]
      exact Nat.lt_of_lt_of_le (Nat.lt_succ_of_lt hal) ge
  · have z2 := List.mem_singleton.mp z
    rw [z2] at cl
    exact Nat.lt_irrefl _ cl
  · rw [List.forIn_nil]
    exact wpAny_pure ⟨rfl, k0 t⟩
  · -- one element
    have up : ∀ b o, b ≠ P → s1.heap.get? b = some o → t.heap.get? b = some o := fun b o n e => by
      have lb := Heap.lt_size e
      refine kk b (List.mem_range.mpr (show b < h3.objs.size from Nat.lt_of_lt_of_le (Nat.lt_succ_of_lt lb) ge)) (fun y => ?_) o (hk b o (k3 b o n e))
      rw [List.mem_singleton.mp y] at lb
      exact Nat.lt_irrefl _ lb
    have hv' : its[i]? = some v := by simpa using hv
    obtain ⟨w, ew, rw'⟩ : ∃ w, xs[i]? = some w ∧ RelV w v := by
      have lt : i < xs.length := by
        rw [nlen]
        exact (List.getElem?_eq_some_iff.mp hv').1
      obtain ⟨y, ey, ry⟩ := rv.get (List.getElem?_eq_getElem lt)
      rw [hv'] at ey
      cases ey
      exact ⟨_, List.getElem?_eq_getElem lt, ry⟩
    refine hel i w ew _ A' t E' _ ?_ fun u t' ru ku => ⟨ru, ku⟩
    refine ⟨S.kind, rfl, I1.ok.glob, rfl, I1.mod, fun b o e => up b o (fun z => ?_) (I1.bk b o e), fun b o e n => (I1.hok b o e).stay (fun d y hd ey => up d y (fun z => ?_) ey) (fun _ y => y) fun _ _ y => y, fun y v' e => ?_⟩
    · have := (I1.bs b o e).2
      rw [z, hP] at this
      cases this
    · rcases hd with q | q
      · rw [← q, z, hP] at e
        exact n ps (Option.some.inj e).symm
      · rw [z, hP] at q
        cases q
    · rw [List.lookup_cons] at e
      cases b : y == x with
      | true =>
        rw [b] at e
        have e' : y = x := by simpa using b
        cases e
        exact ⟨v, rw', .inl ⟨by rw [e']; exact S.loc, m, hn, by rw [e']; exact hm⟩⟩
      | false =>
        rw [b] at e
        obtain ⟨j, hN, hσ, hv2, hf⟩ := sn y v' e
        obtain ⟨m1, _, hl1⟩ := I1.loc
        obtain ⟨u, ru, lk⟩ := hl1 j y v' hN hσ (.inr hv2)
        rcases lk with ⟨q1, _⟩ | ⟨_, cc, hc, hcell⟩
        · have q1' : X.env.scope.names.lookup y = some .local := q1
          rcases hv2 with q2 | q2 <;> (rw [q1'] at q2; cases q2)
        · obtain ⟨oc, ec, dc⟩ := hcell
          refine ⟨u, ru, .inr ⟨hf, cc, NdefX.clo_has S.free (pair_of_lookup hf) hc, oc, up cc oc (fun z => ?_) ec, dc⟩⟩
          rw [z, oP] at ec
          cases ec
          cases dc
  · -- behind its making
    simp only [GxR.passing_true, List.length_range] at W
    have en : its.toArray.size = xs.length := by rw [List.size_toArray, nlen]
    refine hQ its.toArray.size tr H1 g _ (by rw [en]; exact hR) ⟨_, _, _, _, _, W.in4_1, at5, fun j y sj Qj Ej hy hq => ?_, fun s' mv => ?_⟩
    · obtain ⟨i, hij, rfl⟩ := hy
      obtain ⟨_, ej⟩ := List.getElem?_eq_some_iff.mp hij
      rw [List.getElem_range] at ej
      rw [← ej]
      exact wpAny_truthy_bool hq
    · have out : ∀ b o, s1.heap.get? b = some o → b ∉ h3.objs.size :: [s1.heap.objs.size] := fun b o e y => by
        have lb := Heap.lt_size e
        rcases List.mem_cons.mp y with z | z
        · rw [z] at lb
          have : (h3.objs.size : Nat) < s1.heap.objs.size := lb
          omega
        · rw [List.mem_singleton.mp z] at lb
          exact Nat.lt_irrefl _ lb
      have J := GxR.inv_tab (more := more) (h' := s'.heap) (g' := s'.gens) (d' := s'.drawn) (t' := s'.toks) I1 hP (fun b o n e => mv.heap b o (out b o e) (k5 b o (k3 b o n e))) (mv.heap P _ (out P _ oP) (k5 P _ hP3)) (AllBare.movedS (I1.bare.push bare) mv)
      rw [GxR.sh_eta s1 s' mv.os] at J
      exact ⟨_, ⟨⟨_, upd_same, ht3⟩, fun b n => upd_ne n⟩, J⟩
/-- any(test for x in a list), all(..) -/
def tGenL (X : Cx) (P : Addr) (x : Str) (sc : Scope) (elt : Expr) (fold : Nat → (Nat → Bool) → Bool) (te : TE) : TE := fun σ H Q => te σ H fun v H1 => ∃ (a : Addr) (xs : List V) (tr : Nat → Bool) (Γ : List (Str × V)), v = .ref a ∧ SqL X.K H1 a xs ∧ TabG H1 P ∧
  Seen X σ sc Γ ∧ (∀ j w, xs[j]? = some w → PU X sc H1 ((x, w) :: Γ) elt (.bl (tr j))) ∧ ∀ H2, Tabbed P H1 H2 → Q (.bl (fold xs.length tr)) H2
def anyTo (n : Nat) (tr : Nat → Bool) : Bool := (List.range n).any tr
def allTo (n : Nat) (tr : Nat → Bool) : Bool := (List.range n).all tr
section
variable {c P : Addr} {elt iter : Expr} {x : Str} {px p pos gpos : Pos} {sc : Scope} {te : TE} {k : Nat}
theorem pe_anyL (hr : Room k X.A) (hg : Gl X "any") (hm : X.mg "any" = none) (TB : TabB X.base X.mg c P) (hcode : X.env.code = .ref c) (S : Gsc X sc x) (hi : PE X iter te) (hs : ∀ v, genFold iter X.env v = pure v)
    (he : starEach [.GeneratorExp elt [⟨.Name x px, iter, [], 0⟩] sc gpos] X.env = (false, eval (.GeneratorExp elt [⟨.Name x px, iter, [], 0⟩] sc gpos) X.env) :: starEach [] X.env := by rfl) :
    PE X (.Call (.Name "any" p) [.GeneratorExp elt [⟨.Name x px, iter, [], 0⟩] sc gpos] [] pos) (tGenL X P x sc elt anyTo te) := by
  refine ⟨fun pins s σ H Q I h => wpAny_Call_Name_kw (ld_blt I hg hm boot_any (PyProof.Rows.callWith_builtin1 ?_ he (by rfl)))⟩
  rw [he]
  refine Calls.spliced_cons (gen_list (R := fun n tr H1 => ∀ H2, Tabbed P H1 H2 → Q (.bl (anyTo n tr)) H2) hr TB hcode (S.gens I.ok) hi hs I h fun n tr H1 g s5 hR ⟨fp, wr, G, F, sq, W, h0, tt, aft⟩ => Calls.spliced_nil ?_)
  refine call_any_walkS (W.self 0 _ _ _ h0 ⟨g, fp, wr, G, _, F, sq, _, rfl, W, h0, tt, fun s' mv => ?_⟩)
  obtain ⟨H2, T, J⟩ := aft s' mv
  exact ⟨.bl _, H2, J, rfl, hR H2 T⟩
theorem pe_allL (hr : Room k X.A) (hg : Gl X "all") (hm : X.mg "all" = none) (TB : TabB X.base X.mg c P) (hcode : X.env.code = .ref c) (S : Gsc X sc x) (hi : PE X iter te) (hs : ∀ v, genFold iter X.env v = pure v)
    (he : starEach [.GeneratorExp elt [⟨.Name x px, iter, [], 0⟩] sc gpos] X.env = (false, eval (.GeneratorExp elt [⟨.Name x px, iter, [], 0⟩] sc gpos) X.env) :: starEach [] X.env := by rfl) :
    PE X (.Call (.Name "all" p) [.GeneratorExp elt [⟨.Name x px, iter, [], 0⟩] sc gpos] [] pos) (tGenL X P x sc elt allTo te) := by
  refine ⟨fun pins s σ H Q I h => wpAny_Call_Name_kw (ld_blt I hg hm (by decide +kernel : bootBuiltins "all" = some (.builtin "all")) (PyProof.Rows.callWith_builtin1 ?_ he (by rfl)))⟩
  rw [he]
  refine Calls.spliced_cons (gen_list (R := fun n tr H1 => ∀ H2, Tabbed P H1 H2 → Q (.bl (allTo n tr)) H2) hr TB hcode (S.gens I.ok) hi hs I h fun n tr H1 g s5 hR ⟨fp, wr, G, F, sq, W, h0, tt, aft⟩ => Calls.spliced_nil ?_)
  refine call_all_walkS (W.self 0 _ _ _ h0 ⟨g, fp, wr, G, _, F, sq, _, rfl, W, h0, tt, fun s' mv => ?_⟩)
  obtain ⟨H2, T, J⟩ := aft s' mv
  exact ⟨.bl _, H2, J, rfl, hR H2 T⟩
end
end
end LE
-- GN
/-! any and all of a generator expression: whatever a for may walk, whatever target, the element by any judgement (it may call defs) -/
namespace GN
open PySem PySem.Spec PyProof.Rows L2 GenW
open GxR (TabB TabG Tabbed)
/-- the context in which such an element is reckoned; the expression's frame was made at s, over the around A -/
abbrev inGen (X : Cx) (s : Shared) (H : Hp) (A : Around) (ce : Env) (fp : List Addr) : Cx :=
  { X with s_0 := s, H_0 := H, env := ce, outer := X.stack, stack := ce :: X.stack, A := A.deeper ce, ex := fp, fn := fun _ => false, calm := true, pn := [], xe := fun _ _ => False }
/-- the names: the expression's own ones with their slots, or captured ones; none that a further one captures -/
structure NmOk (N : List Str) (ds sc : Scope) (own : List (Str × Nat)) : Prop where
  blk : BlkOk N ds sc own
  co : sc.isCoroutine = false
  cell : ∀ y ∈ sc.names, y.2 ≠ .cell
  dot : sc.names.lookup (".0" : Str) = some NameKind.local
theorem nmOk_by {N : List Str} {ds sc : Scope} {own : List (Str × Nat)} (b : BlkOk N ds sc own) (c : sc.isCoroutine = false := by rfl) (d : ∀ y ∈ sc.names, y.2 ≠ .cell := by decide +kernel) (e : sc.names.lookup (".0" : Str) = some NameKind.local := by decide +kernel) : NmOk N ds sc own := ⟨b, c, d, e⟩
section
variable {X : Cx} {pins : List (Addr × Obj)} {σ : L2.St} {H : Hp} {s s5 : Shared}
/-- only the table of generators, the marks and the count of texts are others -/
theorem inv_gens {s' : Shared} (I : Inv X pins σ H s) (ho : s'.os = s.os) (hh : s'.heap = s.heap) (hb : AllBare s'.gens) : Inv X pins σ H s' := by
  obtain ⟨a1, a2, a3, a4, a5, a6, a7, a8, a9, b1, b2⟩ := I
  refine ⟨a1, ho.trans a2, hb, ?_, ?_, ?_, a7, a8, ?_, ?_, b2⟩ <;> rw [hh] <;> assumption
theorem gen_start {sc : Scope} {own : List (Str × Nat)} {fp : List Addr} {A : Around} {code : Value} {m : Str → Option Value} (I : Inv X pins σ H s) (ok : NmOk X.N X.env.scope sc own) (hN : X.N.Nodup)
    (hfp : ∀ b ∈ fp, FpOk X pins H b ∧ b < s.heap.objs.size) (fr : A.frames = some X.stack) (hd : A.handled = none) (ho : s5.os = s.os) (hb : AllBare s5.gens)
    (kp : ∀ b o, s.heap.get? b = some o → s5.heap.get? b = some o) (ns : s5.heap.Ns s.heap.objs.size m) :
    Inv (inGen X s H A (genEnv sc (cloFrom X.env.cells sc.names []) s.heap.objs.size code builtinsNs X.env) fp) [] (wipe σ (own.map (·.2))) H s5 := by
  have hfree : ∀ y ∈ sc.names, y.2 = .free → ∃ c, X.env.cells.lookup y.1 = some c := fun y hy e => I.ok.has _ (ok.blk.free y hy e)
  have cm : ∀ {y c}, (cloFrom X.env.cells sc.names []).lookup y = some c → X.env.cells.lookup y = some c ∧ c < s.heap.objs.size := fun {y c} e => by
    rcases cloFrom_mem (PySem.mem_of_lookup e) with hm | ⟨h1, rfl⟩
    · cases hm
    · obtain ⟨c, hc⟩ := hfree _ h1 rfl
      rw [hc]
      obtain ⟨w, z⟩ := I.cell _ _ hc
      exact ⟨rfl, z.lt⟩
  have look : ∀ {y}, sc.names.lookup y = some .free → ∃ c, (cloFrom X.env.cells sc.names []).lookup y = some c ∧ X.env.cells.lookup y = some c := fun {y} hl => by
    obtain ⟨c', e'⟩ := mem_lookup (cloFrom_has (cells := X.env.cells) (acc := []) (PySem.mem_of_lookup hl))
    exact ⟨c', e', (cm e').1⟩
  have okG : (inGen X s H A (genEnv sc (cloFrom X.env.cells sc.names []) s.heap.objs.size code builtinsNs X.env) fp).Ok := by
    refine ⟨I.ok.mod, ok.blk.kind, I.ok.glob, rfl, Nat.le_refl _, fun y z c e1 e2 => I.ok.inj y z c (cm e1).1 (cm e2).1, fun y hy => ?_, fun y c z _ => absurd z Bool.false_ne_true, fun _ => hd, Around.frames_deeper fr, .inr ⟨rfl, rfl⟩,
      fun b hb => ⟨Nat.ne_of_lt (hfp b hb).2, fun y c e z => (hfp b hb).1.2.2.2.2.1 y c (cm e).1 z⟩, I.bs, Nat.le_trans I.ok.bsz I.sz, fun b o e hb => ?_, fun b hb z => ?_, I.stack, I.stkFree⟩
    · have hy' : sc.names.lookup y = some .cell ∨ sc.names.lookup y = some .free := hy
      rcases hy' with hy' | hy'
      · exact absurd rfl (ok.cell _ (PySem.mem_of_lookup hy'))
      · obtain ⟨c, h1, _⟩ := look hy'
        exact ⟨c, h1⟩
    · rcases (hfp b hb).1.2.2.2.1 with z | z
      · exact I.ok.noex b o e z
      · exact absurd (Nat.lt_of_lt_of_le (Heap.lt_size e) (Nat.le_trans I.ok.bsz z)) (Nat.lt_irrefl _)
    · rcases List.mem_cons.mp (I.stkSub b z) with z | z
      · exact (hfp b hb).1.2.1 z
      · exact (hfp b hb).1.2.2.1 z
  refine ⟨okG, ho, hb, Un.kept kp, ⟨m, ns, fun i y v e1 e2 e3 => ?_⟩, fun y c e => ?_, I.hok.fresh (Nat.le_refl _), fun y c e => I.freeC y c (cm e).1, fun p hp => absurd (show p ∈ ([] : List (Addr × Obj)) ++ [] from hp) (by simp), I.hok.kept kp, by rw [wipe_length]; exact I.len⟩
  · obtain ⟨e2, hne⟩ := wipe_some e2
    have e3 : Vis sc y := e3
    have fr : sc.names.lookup y = some .free := by
      rcases e3 with e | e | e
      · rcases ok.blk.own _ (PySem.mem_of_lookup e) (.inl rfl) with e' | e'
        · obtain ⟨p, hp, hpy⟩ := List.mem_map.mp e'
          have e5 := ok.blk.ix p hp
          have : p.1 = y := hpy
          rw [this] at e5
          exact absurd (List.mem_map.mpr ⟨p, hp, nodup_ix hN e5 e1⟩) hne
        · exact absurd (List.mem_of_getElem? e1) e'
      · exact absurd rfl (ok.cell _ (PySem.mem_of_lookup e))
      · exact e
    obtain ⟨m1, _, hl⟩ := I.loc
    have hvis : Vis X.env.scope y := .inr (ok.blk.free _ (PySem.mem_of_lookup fr) rfl)
    obtain ⟨w, r, q⟩ := hl i y v e1 e2 hvis
    obtain ⟨c, h1, h2⟩ := look fr
    refine ⟨w, r, .inr ⟨.inr fr, c, h1, ?_⟩⟩
    rcases q with ⟨k, _⟩ | ⟨_, c', e', z⟩
    · have k : X.env.scope.names.lookup y = some .local := k
      rcases ok.blk.free _ (PySem.mem_of_lookup fr) rfl with k' | k' <;> rw [show X.env.scope.names.lookup y = _ from k'] at k <;> cases k
    · rw [h2] at e'
      cases e'
      exact z.keeps kp
  · obtain ⟨w, z⟩ := I.cell y c (cm e).1
    exact ⟨w, z.keeps kp⟩
end
/-! ### one segment of the generator -/
/-- all goes well as long as W says so; vs: the expression's own slots, forgotten ahead of each turn -/
structure Way (J : It) (g : TG) (te : TE) (stop : Bool) (vs : List Nat) (σ : L2.St) (Q : VK) (W : Nat → Nat → Hp → Prop) : Prop where
  turn : ∀ i m H, W i m H → (J.stop i H ∧ Q (.bl (!stop)) H) ∨ (J.go i H ∧ ∀ x H2, J.yld i H x H2 → g x (wipe σ vs) H2 fun σ2 H3 => wipe σ2 vs = wipe σ vs ∧ te σ2 H3 fun v H4 => ∃ b, v = .bl b ∧ if b = stop then Q (.bl stop) H4 else ∃ m', m' < m ∧ W (i + 1) m' H4)
theorem inv_wipe {X : Cx} {pins : List (Addr × Obj)} {σ : L2.St} {H : Hp} {s : Shared} (vs : List Nat) (I : Inv X pins σ H s) : Inv X pins (wipe σ vs) H s := I.weak (wipe_length σ vs) fun _ _ e => (wipe_some e).1
/-- a state that looks the same to the generator -/
def Like (s s' : Shared) : Prop := s'.os = s.os ∧ s'.heap = s.heap ∧ AllBare s'.gens
def GEnd (Y : Cx) (ps : List (Addr × Obj)) (stop : Bool) (Q : VK) (s : Shared) : Prop := ∃ σ H, Inv Y ps σ H s ∧ Q (.bl (!stop)) H
def GPro (Y : Cx) (ps : List (Addr × Obj)) (stop : Bool) (Q : VK) : Protocol := fun _ _ v s kap =>
  ∃ b σ H, v = Value.bool b ∧ Inv Y ps σ H s ∧ if b = stop then Q (.bl stop) H else ∀ s', Like s s' → kap (.send .none) s'
theorem over_gen {A : Around} {elt tg iter : Expr} {ifs : List Expr} {sc : Scope} {pos : Pos} {it acc : Value} {ce : Env} : A.over (.compLoop (.GeneratorExp elt [⟨tg, iter, ifs, 0⟩] sc pos) 0 it acc ce) [] = A.deeper ce := by
  first
    | rfl
    | (obtain ⟨hd, d, fr, gs, u⟩ := A; simp [Around.over, Around.deeper, marksOver, frameCount, unitsOf, envsOf, guardsOf, pushEnvs, pushGuards, Code.envs, Code.env?, Code.isFrame, Code.guards, Code.isGuard, Code.weight, Code.frames, Code.isCreation, Code.isCaller, Code.cUnits])
theorem over_gen0 {A : Around} {elt tg iter : Expr} {ifs : List Expr} {sc : Scope} {pos : Pos} {it acc : Value} {ce : Env} : A.over (.compStart (.GeneratorExp elt [⟨tg, iter, ifs, 0⟩] sc pos) 0 it acc ce) [] = A.deeper ce := by
  first
    | rfl
    | (obtain ⟨hd, d, fr, gs, u⟩ := A; simp [Around.over, Around.deeper, marksOver, frameCount, unitsOf, envsOf, guardsOf, pushEnvs, pushGuards, Code.envs, Code.env?, Code.isFrame, Code.guards, Code.isGuard, Code.weight, Code.frames, Code.isCreation, Code.isCaller, Code.cUnits])
section
variable {Y : Cx} {A : Around} {ps : List (Addr × Obj)} {elt tg iter : Expr} {sc : Scope} {pos : Pos} {it : Addr} {fp : List Addr} {tn : Nat → Heap → Prop} {J : It} {g : TG} {te : TE} {stop : Bool} {Q : VK} {W : Nat → Nat → Hp → Prop} {vs : List Nat} {σ₀ : L2.St}
abbrev Rg (Y : Cx) (ps : List (Addr × Obj)) (stop : Bool) (Q : VK) : GenEnd := fun n s₀ r s₁ => r = .ok .next ∧ (fun (_ : Nat) (_ s : Shared) => GEnd Y ps stop Q s) n s₀ s₁
theorem seg_turns (hA : A.deeper Y.env = Y.A) (hx : ∀ e s, ¬ Y.xe e s) (hc : Y.calm = true) (hco : Y.env.scope.isCoroutine = false) (T : Turn Y.prog Y.w Y.K tg J fp it tn) (hg : PG Y tg g) (he : PE Y elt te) (hW : Way J g te stop vs σ₀ Q W)
    (fo : ∀ (H : Hp), (∀ b ∈ fp, H b = none) → ∀ b ∈ fp, FpOk Y ps H b) :
    ∀ (m n i : Nat) (H : Hp) (s₀ s : Shared), m < n → W i m H → Inv Y ps (wipe σ₀ vs) H s → tn i s.heap → (∀ b ∈ fp, H b = none) →
      Seg (model Y.prog Y.w) A (Rg Y ps stop Q) (GPro Y ps stop Q) n s₀ (.compLoop (.GeneratorExp elt [⟨tg, iter, [], 0⟩] sc pos) 0 (.ref it) .none Y.env)
        ((model Y.prog Y.w).den (.compLoop (.GeneratorExp elt [⟨tg, iter, [], 0⟩] sc pos) 0 (.ref it) .none Y.env)) [] s := by
  intro m
  induction m using Nat.strongRecOn with
  | ind m ih =>
    intro n i H s₀ s hmn hw I st fr
    generalize hσ : wipe σ₀ vs = σ at I
    have oA : A.over (.compLoop (.GeneratorExp elt [⟨tg, iter, [], 0⟩] sc pos) 0 (.ref it) .none Y.env) [] = Y.A := over_gen.trans hA
    show Seg _ A _ _ _ s₀ _ ((compTurn (.GeneratorExp elt [⟨tg, iter, [], 0⟩] sc pos) 0 (.ref it) .none Y.env).onRaise (leaving Y.env)) [] s
    rw [compTurn_gen, Sem.onRaise_eq_wrap]
    refine seg_bind_wrap (wpAny_standAt ?_)
    rcases hW.turn i m H hw with ⟨hs, q⟩ | ⟨hgo, step⟩
    · refine seg_bind_wrap ?_
      rw [oA]
      refine thn (T.done Y rfl rfl rfl hc i ps s σ H _ I (fo H fr) st hs) fun r s1 ⟨er, I1⟩ => ?_
      subst er
      exact seg_end (.ok .next) ⟨rfl, σ, H, I1, q⟩
    · refine seg_bind_wrap ?_
      rw [oA]
      refine thn (T.item Y rfl rfl rfl hc i ps s σ H _ I (fo H fr) st hgo) fun r s1 ⟨u, er, h1⟩ => ?_
      subst er
      refine seg_bind_wrap ?_
      rw [oA]
      refine thn h1 fun _ s2 ⟨x, H2, I2, rx, hy, st2, fr2⟩ => ?_
      have I2' := I2.pinned (fo H2 fr2) (T.obj _ _ st2)
      refine seg_bind_wrap ?_
      rw [oA]
      refine wpAny_mono (hg.run _ s2 σ H2 x u _ I2' rx (by have q := step x H2 hy; rw [hσ] at q; exact q)) (fun _ s3 h3 => ?_) fun e s' z => absurd z (hx e s')
      obtain ⟨σ3, H3, I3, hw3, q3⟩ := h3
      refine seg_bind_wrap ?_
      rw [oA]
      refine wpAny_tests_nil ?_
      obtain ⟨n, rfl⟩ : ∃ k, n = k + 1 := ⟨n - 1, by omega⟩
      simp only [if_true]
      have hy : ∀ v, yieldOut Y.env v = yieldValue v := fun v => by simp only [yieldOut, hco, Bool.false_eq_true, if_false]
      simp only [hy]
      rw [Sem.bind_eq_wrap', Sem.bind_eq_wrap', Sem.wrap_wrap, Sem.wrap_wrap]
      refine seg_wrap ?_
      rw [oA]
      refine wpAny_mono (he.run _ s3 σ3 H3 _ I3 q3) (fun y s4 h4 => ?_) fun e s' z => absurd z (hx e s')
      obtain ⟨v, H4, I4, ry, b, ev, q4⟩ := h4
      subst ev
      cases (show y = Value.bool b from ry)
      have st4 : tn (i + 1) s4.heap := T.keep _ _ _ st2 fun c hc o e => (I4.pin (c, o) (List.mem_append_right _ (List.mem_append_right _ (mem_pinsAt hc e)))).1
      have fr4 : ∀ c ∈ fp, H4 c = none := fun c hc => by
        obtain ⟨o, e, _⟩ := T.obj _ _ st2 c hc
        exact (I4.pin (c, o) (List.mem_append_right _ (List.mem_append_right _ (mem_pinsAt hc e)))).2.1
      refine seg_at (seg_yield rfl rfl rfl ⟨b, σ3, H4, rfl, I4.unpinned, ?_⟩)
      by_cases hb : b = stop
      · rw [if_pos hb] at q4 ⊢
        exact q4
      · rw [if_neg hb] at q4 ⊢
        obtain ⟨m', hm, w4⟩ := q4
        intro s5 lk
        refine seg_again rfl (ih m' hm n (i + 1) H4 s5 s5 (by omega) w4 (inv_gens (by rw [hσ, ← hw3]; exact inv_wipe vs I4.unpinned) lk.1 lk.2.1 lk.2.2) ?_ fr4)
        rw [lk.2.1]
        exact st4
theorem seg_first (hA : A.deeper Y.env = Y.A) (hx : ∀ e s, ¬ Y.xe e s) (hc : Y.calm = true) (hco : Y.env.scope.isCoroutine = false) (T : Turn Y.prog Y.w Y.K tg J fp it tn) (hg : PG Y tg g) (he : PE Y elt te) (hW : Way J g te stop vs σ₀ Q W)
    (fo : ∀ (H : Hp), (∀ b ∈ fp, H b = none) → ∀ b ∈ fp, FpOk Y ps H b) {m n : Nat} {H : Hp} {s₀ s : Shared} (hmn : m < n) (hw : W 0 m H) (I : Inv Y ps (wipe σ₀ vs) H s) (st : tn 0 s.heap) (fr : ∀ b ∈ fp, H b = none) :
    Seg (model Y.prog Y.w) A (Rg Y ps stop Q) (GPro Y ps stop Q) n s₀ (.compStart (.GeneratorExp elt [⟨tg, iter, [], 0⟩] sc pos) 0 (.ref it) .none Y.env)
        ((model Y.prog Y.w).den (.compStart (.GeneratorExp elt [⟨tg, iter, [], 0⟩] sc pos) 0 (.ref it) .none Y.env)) [] s := by
  have loop := seg_turns (iter := iter) (sc := sc) (pos := pos) hA hx hc hco T hg he hW fo m n 0 H s₀ s hmn hw I st fr
  show Seg _ A _ _ _ s₀ _ ((compStart (.GeneratorExp elt [⟨tg, iter, [], 0⟩] sc pos) 0 (.ref it) .none Y.env).onRaise (leaving Y.env)) [] s
  unfold compStart
  rw [Sem.onRaise_eq_wrap]
  show Seg _ A _ _ _ s₀ _ ((ask >>= _).wrap _ _ _ _) [] s
  refine seg_bind_wrap (wpAny_askSetting ?_)
  split
  · exact seg_again rfl loop
  · first
      | exact seg_bind_wrap (wpAny_rule (seg_bind_wrap (wpAny_standAt (seg_bind_wrap (T.self _ 0 s _ _ st (seg_again rfl loop))))))
      | (refine seg_bind_wrap (wpAny_rule ?_); show Seg _ A _ _ _ s₀ _ ((standAt iter.pos >>= _).wrap _ _ _ _) [] s; exact seg_bind_wrap (wpAny_standAt (seg_bind_wrap (T.self _ 0 s _ _ st (seg_again rfl loop)))))
end
/-! ### what consumes it -/
/-- the generator sleeps, n wakings at most are left -/
def Ready (Y : Cx) (A : Around) (ps : List (Addr × Obj)) (g : Nat) (stop : Bool) (Q : VK) (n : Nat) (s : Shared) : Prop :=
  (∃ (σ : L2.St) (H : Hp), Inv Y ps σ H s) ∧ ∃ gs, s.gens[g]? = some gs ∧ ∀ s', Like s s' → gs.Goes (model Y.prog Y.w) A (Rg Y ps stop Q) (GPro Y ps stop Q) n (.send .none) s'
/-- what a waking hands out -/
def Woke (Y : Cx) (A : Around) (ps : List (Addr × Obj)) (g : Nat) (stop : Bool) (Q : VK) (n : Nat) (r : Option Value) (s : Shared) : Prop :=
  match r with
  | none => GEnd Y ps stop Q s
  | some v => ∃ b, v = Value.bool b ∧ if b = stop then ∃ σ H, Inv Y ps σ H s ∧ Q (.bl stop) H else ∃ k, k < n ∧ Ready Y A ps g stop Q k s
theorem bare_set {gens : Array GenState} {g : Nat} {x : GenState} (h : AllBare gens) (hx : x.bare = true) : AllBare (gens.setIfInBounds g x) := fun y hy => by
  rcases Array.mem_or_eq_of_mem_setIfInBounds hy with z | z
  · exact h y z
  · rw [z]
    exact hx
theorem set_there {s : Shared} {g : Nat} {x : GenState} (h : g + 1 ≤ (s.setGen g x).gens.size) : (s.setGen g x).gens[g]? = some x := by
  rw [setGen_size] at h
  have : g < s.gens.size := h
  simp [Shared.setGen, this]
section
variable {Y : Cx} {A : Around} {ps : List (Addr × Obj)} {a : Addr} {ao : Obj} {g : Nat} {stop : Bool} {Q : VK}
theorem woken {n : Nat} {s : Shared} {E : Value → Shared → Prop} (hh : A.handled = none) (hroom : A.depth < recursionLimit) (ha : (a, ao) ∈ ps) (hao : ∃ nm qn, ao.cls = .type "generator" ∧ ao.data = .fields #[.int g 0, nm, qn] ∧ ao.slots = #[])
    (h : Ready Y A.in1 ps g stop Q n s) : wpAny (model Y.prog Y.w) A (pyNext (.ref a)) (Woke Y A.in1 ps g stop Q n) E s := by
  obtain ⟨⟨σ, H, I⟩, gs, hgs, go⟩ := h
  obtain ⟨nm, qn, c1, c2, c3⟩ := hao
  have ge : s.heap.IsGen a g := ⟨ao, nm, qn, (I.pin (a, ao) (List.mem_append_right _ ha)).1, c1, c2, c3⟩
  have glt : g + 1 ≤ s.gens.size := by
    obtain ⟨z, _⟩ := Array.getElem?_eq_some_iff.mp hgs
    exact z
  have b0 : AllBare (s.setGen g .running).gens := bare_set I.bare rfl
  refine wpAny_gsz glt (wpAny_mono (wpAny_pyNext_genexpQ (P := fun _ _ s => GEnd Y ps stop Q s) hh I.nolimit hroom ge hgs (go _ ⟨rfl, rfl, b0⟩) (fun v s1 gs' hb hv => ?_) (fun s1 hp h' hk => ?_)) (fun r s' z => z) fun e s' (z : False) => False.elim z)
  · intro hsz
    obtain ⟨b, σ1, H1, rfl, I1, q⟩ := hv
    have b1 : AllBare (s1.setGen g gs').gens := bare_set I1.bare hb
    have I2 : Inv Y ps σ1 H1 (s1.setGen g gs') := inv_gens I1 rfl rfl b1
    refine ⟨b, rfl, ?_⟩
    by_cases e : b = stop
    · rw [if_pos e] at q ⊢
      exact ⟨σ1, H1, I2, q⟩
    · rw [if_neg e] at q ⊢
      cases n with
      | zero => exact (q s1 ⟨rfl, rfl, I1.bare⟩).elim
      | succ k => exact ⟨k, Nat.lt_succ_self k, ⟨σ1, H1, I2⟩, gs', set_there hsz, fun s' lk => q s' ⟨lk.1, lk.2.1, lk.2.2⟩⟩
  · intro _
    obtain ⟨σ1, H1, I1, q⟩ := hp
    have I2 : Inv Y ps σ1 H1 { s1 with heap := h', toks := s1.toks } := I1.kept hk
    exact ⟨σ1, H1, inv_gens I2 rfl rfl (bare_set I1.bare rfl), q⟩
/-- how the builtin ends -/
def Told (Y : Cx) (ps : List (Addr × Obj)) (Q : VK) (r : Result) (s : Shared) : Prop := ∃ b σ H, r = .ok (.ret (.bool b)) ∧ Inv Y ps σ H s ∧ Q (.bl b) H
theorem loop_all (hh : A.handled = none) (hroom : A.depth < recursionLimit) (ha : (a, ao) ∈ ps) (hao : ∃ nm qn, ao.cls = .type "generator" ∧ ao.data = .fields #[.int g 0, nm, qn] ∧ ao.slots = #[]) :
    ∀ (n : Nat) (s : Shared), Ready Y A.in1.in1 ps g false Q n s → codeAny (model Y.prog Y.w) A (.builtin "all.loop" ⟨[.ref a], []⟩) (Told Y ps Q) s := by
  intro n
  induction n using Nat.strongRecOn with
  | ind n ih =>
    intro s h
    refine codeAny_builtin F.entry_all_loop ?_
    rw [Around.under_plainId F.plain_all_loop _]
    show wpAny _ A.in1 (pyNext (.ref a) >>= _) _ _ s
    refine wpAny_bind (wpAny_mono (woken (A := A.in1) hh hroom ha hao h) (fun r s' w => ?_) fun _ _ z => z)
    cases r with
    | none =>
      obtain ⟨σ, H, I, q⟩ := w
      exact wpAny_bind (wpAny_rule (wpAny_pure ⟨true, σ, H, rfl, I, q⟩))
    | some v =>
      obtain ⟨b, rfl, w⟩ := w
      refine wpAny_bind (wpAny_holding (wpAny_truthy_bool ?_))
      refine wpAny_bind (wpAny_letGo ?_)
      cases b with
      | true =>
        rw [if_neg (by decide)] at w
        obtain ⟨k, hk, w⟩ := w
        simp only [if_true]
        exact wpAny_pure ⟨plainId_quiet F.plain_all_loop _, ih k hk s' w⟩
      | false =>
        rw [if_pos rfl] at w
        obtain ⟨σ, H, I, q⟩ := w
        simp only [Bool.false_eq_true, if_false]
        exact wpAny_bind (wpAny_rule (wpAny_pure ⟨false, σ, H, rfl, I, q⟩))
theorem loop_any (hh : A.handled = none) (hroom : A.depth < recursionLimit) (ha : (a, ao) ∈ ps) (hao : ∃ nm qn, ao.cls = .type "generator" ∧ ao.data = .fields #[.int g 0, nm, qn] ∧ ao.slots = #[]) :
    ∀ (n : Nat) (s : Shared), Ready Y A.in1.in1 ps g true Q n s → codeAny (model Y.prog Y.w) A (.builtin "any.loop" ⟨[.ref a], []⟩) (Told Y ps Q) s := by
  intro n
  induction n using Nat.strongRecOn with
  | ind n ih =>
    intro s h
    refine codeAny_builtin F.entry_any_loop ?_
    rw [Around.under_plainId F.plain_any_loop _]
    show wpAny _ A.in1 (pyNext (.ref a) >>= _) _ _ s
    refine wpAny_bind (wpAny_mono (woken (A := A.in1) hh hroom ha hao h) (fun r s' w => ?_) fun _ _ z => z)
    cases r with
    | none =>
      obtain ⟨σ, H, I, q⟩ := w
      exact wpAny_bind (wpAny_rule (wpAny_pure ⟨false, σ, H, rfl, I, q⟩))
    | some v =>
      obtain ⟨b, rfl, w⟩ := w
      refine wpAny_bind (wpAny_holding (wpAny_truthy_bool ?_))
      refine wpAny_bind (wpAny_letGo ?_)
      cases b with
      | false =>
        rw [if_neg (by decide)] at w
        obtain ⟨k, hk, w⟩ := w
        simp only [Bool.false_eq_true, if_false]
        exact wpAny_pure ⟨plainId_quiet F.plain_any_loop _, ih k hk s' w⟩
      | true =>
        rw [if_pos rfl] at w
        obtain ⟨σ, H, I, q⟩ := w
        simp only [if_true]
        exact wpAny_bind (wpAny_rule (wpAny_pure ⟨true, σ, H, rfl, I, q⟩))
end
/-! ### its making -/
/-- .. over iter, P the def's own table of code -/
def tGn (P : Addr) (own : List Nat) (stop : Bool) (wi : TI) (g : TG) (te : TE) : TE := fun σ H Q => wi σ H fun J H1 => TabG H1 P ∧ ∃ W : Nat → Nat → Hp → Prop, (∀ H2, Tabbed P H1 H2 → ∃ m, W 0 m H2) ∧ Way J g te stop own σ Q W
/-- it is made, nothing has been woken -/
def Fresh (X : Cx) (pins : List (Addr × Obj)) (σ : L2.St) (stop : Bool) (Q : VK) (a : Addr) (s : Shared) : Prop :=
  ∃ (Y : Cx) (ao : Obj) (g n : Nat), Y.prog = X.prog ∧ Y.w = X.w ∧ (∃ nm qn, ao.cls = .type "generator" ∧ ao.data = .fields #[.int g 0, nm, qn] ∧ ao.slots = #[]) ∧ Ready Y X.A.in1.in1 [(a, ao)] g stop Q n s ∧
    ∀ σ' H' s', Inv Y [(a, ao)] σ' H' s' → Inv X pins σ H' s'
section
variable {X : Cx} {pins : List (Addr × Obj)} {σ : L2.St} {H : Hp} {s : Shared} {c P : Addr} {elt tg iter : Expr} {sc : Scope} {own : List (Str × Nat)} {wi : TI} {g : TG} {te : TE} {k : Nat} {stop : Bool} {gpos : Pos}
theorem gen_made {Q : VK} {Q' : Value → Shared → Prop} (hr : Room (k + 1) X.A) (hN : X.N.Nodup) (TB : TabB X.base X.mg c P) (hcode : X.env.code = .ref c) (ok : NmOk X.N X.env.scope sc own) (hi : PI X tg iter wi) (hs : ∀ v, genFold iter X.env v = pure v)
    (hg : ∀ (s : Shared) (H : Hp) (A : Around) (C : Addr) (cd : Value) (fp : List Addr), PG (inGen X s H A (genEnv sc (cloFrom X.env.cells sc.names []) C cd builtinsNs X.env) fp) tg g)
    (he : ∀ (s : Shared) (H : Hp) (A : Around) (C : Addr) (cd : Value) (fp : List Addr), Room k (A.deeper (genEnv sc (cloFrom X.env.cells sc.names []) C cd builtinsNs X.env)) → A.guards = X.A.guards → PE (inGen X s H A (genEnv sc (cloFrom X.env.cells sc.names []) C cd builtinsNs X.env) fp) elt te)
    (I : Inv X pins σ H s) (h : tGn P (own.map (·.2)) stop wi g te σ H Q) (hQ : ∀ a s', Fresh X pins σ stop Q a s' → Q' (.ref a) s') :
    wpAny (model X.prog X.w) X.A (eval (.GeneratorExp elt [⟨tg, iter, [], 0⟩] sc gpos) X.env) Q' X.xe s := by
  have hfree : ∀ y ∈ sc.names, y.2 = .free → ∃ c, X.env.cells.lookup y.1 = some c := fun y hy e => I.ok.has _ (ok.blk.free y hy e)
  refine wpAny_GeneratorExp_make ok.co (closure_ok hfree) ok.cell ok.dot ok.blk.kind (by have := hr.dp; omega) ?_ hs
  refine thn (hi.run pins s σ H _ I h) fun xv s1 hx => thn hx fun itv s2 h2 => ?_
  obtain ⟨it, fp, tn, J, H2, rfl, I2, T, st2, f2, ⟨qs, hP, ht⟩, W, w0, way⟩ := h2
  have oP : s2.heap.get? P = some { cls := .none, data := .fields qs } := I2.hok P _ hP
  have nP : ∀ b ∈ fp, b ≠ P := fun b hb z => by
    have := (f2 b hb).1
    rw [z, hP] at this
    cases this
  refine ⟨I2.nolimit, LE.code_step (ps := qs) hcode (TB.code.keeps I2.bk) oP ht fun code h3 tk more ex ge hP3 ht3 => ?_⟩
  have I4 : Inv X pins σ (upd H2 P (.tbl (qs ++ more))) { s2 with heap := h3, toks := tk } := GxR.inv_tab (g' := s2.gens) (d' := s2.drawn) (t' := tk) I2 hP (fun b o n e => ex b o n e) hP3 I2.bare
  have tab : Tabbed P H2 (upd H2 P (.tbl (qs ++ more))) := ⟨⟨_, upd_same, ht3⟩, fun b n => upd_ne n⟩
  have st4 : tn 0 h3 := T.keep _ _ _ st2 fun b hb o e => ex b o (nP b hb) e
  have f4 : ∀ b ∈ fp, FpOk X pins (upd H2 P (.tbl (qs ++ more))) b := fun b hb => ⟨by rw [upd_ne (nP b hb)]; exact (f2 b hb).1, (f2 b hb).2⟩
  have lt4 : ∀ b ∈ fp, b < h3.objs.size := fun b hb => by
    obtain ⟨o, e, _⟩ := T.obj _ _ st4 b hb
    exact Heap.lt_size e
  obtain ⟨m0, w0⟩ := w0 _ tab
  generalize hH4 : upd H2 P (.tbl (qs ++ more)) = H4 at I4 tab f4 w0
  generalize hs4 : ({ s2 with heap := h3, toks := tk } : Shared) = s4 at I4
  have e4 : s4.heap = h3 := by rw [← hs4]
  rw [← e4] at st4 lt4
  obtain ⟨bm, ob, e1, e2, e3, e4', e5, e6, e7, e8⟩ := TB.bm
  refine wpAny_builtinsFor (m := X.mg) (by rw [I4.ok.glob]; exact I4.mod.glob.keeps I4.bk) e1 e2 (I4.bk _ _ e5) e6 e7 e8 ?_
  intro h' hn' hs'
  have hsz : h'.objs.size = s4.heap.objs.size + 1 := by rw [hs'.1, Heap.size_push]
  have keep' : ∀ b o, s4.heap.get? b = some o → h'.get? b = some o := fun b o e => hs'.extBut b o (Nat.ne_of_lt (Heap.lt_size e)) (Heap.get?_push_of_some _ e)
  generalize hce : genEnv sc (cloFrom X.env.cells sc.names []) s4.heap.objs.size code builtinsNs X.env = ce
  generalize hs5 : ({ s4 with gens := s4.gens.push (.fresh (.compStart (.GeneratorExp elt [⟨tg, iter, [], 0⟩] sc gpos) 0 (.ref it) .none ce)), toks := s4.toks + 1 + 1 + 1, heap := h'.push { cls := .type "generator", data := .fields #[.int s4.gens.size 0, .str "<genexpr>" (s4.toks + 1), .str (X.env.qual ++ "<genexpr>") (s4.toks + 1 + 1)] } } : Shared) = s5
  have h5 : s5.heap = h'.push { cls := .type "generator", data := .fields #[.int s4.gens.size 0, .str "<genexpr>" (s4.toks + 1), .str (X.env.qual ++ "<genexpr>") (s4.toks + 1 + 1)] } := by rw [← hs5]
  have g5 : s5.gens = s4.gens.push (.fresh (.compStart (.GeneratorExp elt [⟨tg, iter, [], 0⟩] sc gpos) 0 (.ref it) .none ce)) := by rw [← hs5]
  have o5 : s5.os = s4.os := by rw [← hs5]
  have kp : ∀ b o, s4.heap.get? b = some o → s5.heap.get? b = some o := fun b o e => by
    rw [h5]
    exact Heap.get?_push_of_some _ (keep' b o e)
  have hA : X.A.in1.in1.handled = none := hr.hd
  have J5 := gen_start (A := X.A.in1.in1) (code := code) (s5 := s5) (m := fun y => if y = (".0" : Str) then some (.ref it) else none) I4 ok hN (fun b hb => ⟨f4 b hb, lt4 b hb⟩) (show X.A.in1.in1.frames = _ from I4.ok.frames) hA o5
    (by rw [g5]; exact I4.bare.push rfl) kp (by rw [h5]; exact hn'.push _)
  have pg := hg s4 H4 X.A.in1.in1 s4.heap.objs.size code fp
  have pe := he s4 H4 X.A.in1.in1 s4.heap.objs.size code fp ⟨hr.hd, by have := hr.dp; show X.A.depth + 1 + 3 * k + 5 < _; omega, by have := hr.un; show X.A.units + 1 + 1 + 3 + 16 * k + 200 < _; omega⟩ rfl
  rw [hce] at J5 pg pe
  have hcl : ce.locals = s4.heap.objs.size := by rw [← hce]; rfl
  have hcs : ce.scope = sc := by rw [← hce]; rfl
  have hcc : ce.cells = cloFrom X.env.cells sc.names [] := by rw [← hce]; rfl
  have ae : h'.objs.size = s4.heap.objs.size + 1 := hsz
  have fsS : ∀ b ∈ frs X.stack, b < s4.heap.objs.size := fun b hb => by
    rcases List.mem_cons.mp (I4.stkSub b hb) with z | z
    · rw [z]
      exact I4.lt
    · rcases Nat.lt_or_ge b s4.heap.objs.size with y | y
      · exact y
      · exact absurd z (I4.nofs y)
  refine hQ _ _ ⟨inGen X s4 H4 X.A.in1.in1 ce fp, { cls := .type "generator", data := .fields #[.int s4.gens.size 0, .str "<genexpr>" (s4.toks + 1), .str (X.env.qual ++ "<genexpr>") (s4.toks + 1 + 1)] }, s4.gens.size, m0 + 1, rfl, rfl, ⟨_, _, rfl, rfl, rfl⟩, ?_, fun σ' H' s' J' => ?_⟩
  · have J6 : Inv (inGen X s4 H4 X.A.in1.in1 ce fp) [(h'.objs.size, { cls := .type "generator", data := .fields #[.int s4.gens.size 0, .str "<genexpr>" (s4.toks + 1), .str (X.env.qual ++ "<genexpr>") (s4.toks + 1 + 1)] })] (wipe σ (own.map (·.2))) H4 s5 := by
      refine J5.pins_of fun p hp => ?_
      rw [List.mem_singleton.mp hp]
      refine ⟨by rw [h5]; exact Heap.get?_push_size _ rfl, I4.hok.fresh (by rw [ae]; exact Nat.le_succ _), by show h'.objs.size ≠ ce.locals; rw [hcl, ae]; exact Nat.succ_ne_self _, fun z => ?_, fun v z => nomatch z⟩
      have lz : h'.objs.size < s4.heap.objs.size := fsS _ z
      rw [ae] at lz
      exact absurd lz (Nat.not_lt.mpr (Nat.le_succ _))
    refine ⟨⟨_, _, J6⟩, .fresh (.compStart (.GeneratorExp elt [⟨tg, iter, [], 0⟩] sc gpos) 0 (.ref it) .none ce), (by rw [g5]; exact Array.getElem?_push_size ..), fun s6 lk => ⟨rfl, ?_⟩⟩
    refine seg_first (Y := inGen X s4 H4 X.A.in1.in1 ce fp) (A := X.A.in1.in1) (T := T) (W := W) (J := J) rfl (fun _ _ z => z) rfl (by show ce.scope.isCoroutine = false; rw [hcs]; exact ok.co) pg pe way (fun Hx hn b hb => ?_) (Nat.lt_succ_self m0) w0 (inv_gens J6 lk.1 lk.2.1 lk.2.2) (by rw [lk.2.1]; exact T.keep _ _ _ st4 fun b _ o e => kp b o e) fun b hb => (f4 b hb).1
    have lb := lt4 b hb
    refine ⟨hn b hb, by show b ≠ ce.locals; rw [hcl]; exact Nat.ne_of_lt lb, fun z => ?_, .inl hb, fun y cc e z => ?_, fun p hp z => ?_⟩
    · rcases List.mem_cons.mp (I4.stkSub b z) with y | y
      · exact (f4 b hb).2.1 y
      · exact (f4 b hb).2.2.1 y
    · have e : ce.cells.lookup y = some cc := e
      rw [hcc] at e
      rcases cloFrom_mem (PySem.mem_of_lookup e) with hm | ⟨h1, h2⟩
      · cases hm
      · obtain ⟨c2, e2⟩ := hfree _ h1 rfl
        have e2' : X.env.cells.lookup y = some c2 := e2
        rw [e2'] at h2
        exact (f4 b hb).2.2.2.2.1 y c2 e2 (by rw [← z]; exact h2.symm)
    · have hp' : p ∈ [(h'.objs.size, ({ cls := .type "generator", data := .fields #[.int s4.gens.size 0, .str "<genexpr>" (s4.toks + 1), .str (X.env.qual ++ "<genexpr>") (s4.toks + 1 + 1)] } : Obj))] := hp
      rw [List.mem_singleton.mp hp'] at z
      have z' : h'.objs.size = b := z
      rw [← z', ae] at lb
      exact absurd lb (Nat.not_lt.mpr (Nat.le_succ _))
  · refine I4.call' (ch := fp) J'.os J'.base J'.hok J'.bare fun b hb => ?_
    have := f4 b hb
    exact ⟨this.2.2.2.1, this.2.1, this.2.2.2.2.1, this.2.2.2.2.2⟩
section
variable {p pos : Pos}
theorem pe_allG (hr : Room (k + 1) X.A) (hN : X.N.Nodup) (hgl : Gl X "all") (hm : X.mg "all" = none) (TB : TabB X.base X.mg c P) (hcode : X.env.code = .ref c) (ok : NmOk X.N X.env.scope sc own) (hi : PI X tg iter wi)
    (hg : ∀ (s : Shared) (H : Hp) (A : Around) (C : Addr) (cd : Value) (fp : List Addr), PG (inGen X s H A (genEnv sc (cloFrom X.env.cells sc.names []) C cd builtinsNs X.env) fp) tg g)
    (he : ∀ (s : Shared) (H : Hp) (A : Around) (C : Addr) (cd : Value) (fp : List Addr), Room k (A.deeper (genEnv sc (cloFrom X.env.cells sc.names []) C cd builtinsNs X.env)) → A.guards = X.A.guards → PE (inGen X s H A (genEnv sc (cloFrom X.env.cells sc.names []) C cd builtinsNs X.env) fp) elt te)
    (hs : ∀ v, genFold iter X.env v = pure v := by intro _; rfl) (hst : starEach [.GeneratorExp elt [⟨tg, iter, [], 0⟩] sc gpos] X.env = (false, eval (.GeneratorExp elt [⟨tg, iter, [], 0⟩] sc gpos) X.env) :: starEach [] X.env := by rfl) :
    PE X (.Call (.Name "all" p) [.GeneratorExp elt [⟨tg, iter, [], 0⟩] sc gpos] [] pos) (tGn P (own.map (·.2)) false wi g te) := by
  refine ⟨fun pins s σ H Q I h => wpAny_Call_Name_kw (ld_blt I hgl hm (by decide +kernel : bootBuiltins "all" = some (.builtin "all")) (PyProof.Rows.callWith_builtin1 ?_ hst (by rfl)))⟩
  rw [hst]
  refine Calls.spliced_cons (gen_made hr hN TB hcode ok hi hs hg he I h fun a s5 ⟨Y, ao, gn, n, rfl1, rfl2, hao, rd, back⟩ => Calls.spliced_nil ?_)
  refine call_function_tree F.kind_all F.plain_all F.entry_all (F.args_all1 _) ?_
  unfold Builtin.«all»
  refine wpAny_bind (m := oneArg "all" _) (wpAny_pure ?_)
  obtain ⟨nm, qn, c1, c2, c3⟩ := id hao
  obtain ⟨⟨σ6, H6, I6⟩, _⟩ := id rd
  rw [← rfl1, ← rfl2]
  refine wpAny_bind (wpAny_pyIter_gen (g := gn) ⟨ao, nm, qn, (I6.pin (a, ao) (List.mem_append_right _ List.mem_cons_self)).1, c1, c2, c3⟩ ?_)
  refine wpAny_pure ⟨plainId_quiet F.plain_all_loop _, codeAny_mono (loop_all (A := X.A) hr.hd (by have := hr.dp; omega) List.mem_cons_self hao n s5 rd) fun r s' z => ?_⟩
  obtain ⟨b, σ7, H7, rfl, I7, q⟩ := z
  exact ⟨.bl b, H7, back _ _ _ I7, rfl, q⟩
theorem pe_anyG (hr : Room (k + 1) X.A) (hN : X.N.Nodup) (hgl : Gl X "any") (hm : X.mg "any" = none) (TB : TabB X.base X.mg c P) (hcode : X.env.code = .ref c) (ok : NmOk X.N X.env.scope sc own) (hi : PI X tg iter wi)
    (hg : ∀ (s : Shared) (H : Hp) (A : Around) (C : Addr) (cd : Value) (fp : List Addr), PG (inGen X s H A (genEnv sc (cloFrom X.env.cells sc.names []) C cd builtinsNs X.env) fp) tg g)
    (he : ∀ (s : Shared) (H : Hp) (A : Around) (C : Addr) (cd : Value) (fp : List Addr), Room k (A.deeper (genEnv sc (cloFrom X.env.cells sc.names []) C cd builtinsNs X.env)) → A.guards = X.A.guards → PE (inGen X s H A (genEnv sc (cloFrom X.env.cells sc.names []) C cd builtinsNs X.env) fp) elt te)
    (hs : ∀ v, genFold iter X.env v = pure v := by intro _; rfl) (hst : starEach [.GeneratorExp elt [⟨tg, iter, [], 0⟩] sc gpos] X.env = (false, eval (.GeneratorExp elt [⟨tg, iter, [], 0⟩] sc gpos) X.env) :: starEach [] X.env := by rfl) :
    PE X (.Call (.Name "any" p) [.GeneratorExp elt [⟨tg, iter, [], 0⟩] sc gpos] [] pos) (tGn P (own.map (·.2)) true wi g te) := by
  refine ⟨fun pins s σ H Q I h => wpAny_Call_Name_kw (ld_blt I hgl hm boot_any (PyProof.Rows.callWith_builtin1 ?_ hst (by rfl)))⟩
  rw [hst]
  refine Calls.spliced_cons (gen_made hr hN TB hcode ok hi hs hg he I h fun a s5 ⟨Y, ao, gn, n, rfl1, rfl2, hao, rd, back⟩ => Calls.spliced_nil ?_)
  refine call_function_tree F.kind_any F.plain_any F.entry_any (F.args_any1 _) ?_
  unfold Builtin.«any»
  refine wpAny_bind (m := oneArg "any" _) (wpAny_pure ?_)
  obtain ⟨nm, qn, c1, c2, c3⟩ := id hao
  obtain ⟨⟨σ6, H6, I6⟩, _⟩ := id rd
  rw [← rfl1, ← rfl2]
  refine wpAny_bind (wpAny_pyIter_gen (g := gn) ⟨ao, nm, qn, (I6.pin (a, ao) (List.mem_append_right _ List.mem_cons_self)).1, c1, c2, c3⟩ ?_)
  refine wpAny_pure ⟨plainId_quiet F.plain_any_loop _, codeAny_mono (loop_any (A := X.A) hr.hd (by have := hr.dp; omega) List.mem_cons_self hao n s5 rd) fun r s' z => ?_⟩
  obtain ⟨b, σ7, H7, rfl, I7, q⟩ := z
  exact ⟨.bl b, H7, back _ _ _ I7, rfl, q⟩
end
end
/-- over what Walk tells of, by a word of the turn and the heap -/
theorem gn_it {J : It} {n : Nat} {G : Hp → Prop} {Yl : Nat → Hp → V → Hp → Prop} (w : Walk J n G Yl) {P : Addr} {g : TG} {te : TE} {stop : Bool} {vs : List Nat} {σ : L2.St} {H1 : Hp} {Q : VK} (Pv : Nat → Hp → Prop) (h0 : ∀ H2, Tabbed P H1 H2 → Pv 0 H2)
    (hG : ∀ i H, i ≤ n → Pv i H → G H) (hs : ∀ i x H H', i < n → Pv i H → Yl i H x H' → g x (wipe σ vs) H' fun σ2 H2 => wipe σ2 vs = wipe σ vs ∧ te σ2 H2 fun v H4 => ∃ b, v = .bl b ∧ if b = stop then Q (.bl stop) H4 else Pv (i + 1) H4)
    (hd : ∀ H, Pv n H → Q (.bl (!stop)) H) : ∃ W : Nat → Nat → Hp → Prop, (∀ H2, Tabbed P H1 H2 → ∃ m, W 0 m H2) ∧ Way J g te stop vs σ Q W := by
  refine ⟨fun i m H => m = n - i ∧ i ≤ n ∧ Pv i H, fun H2 t => ⟨n, by simp, Nat.zero_le _, h0 H2 t⟩, ⟨?_⟩⟩
  rintro i m H ⟨rfl, hi, p⟩
  have q := hG i H hi p
  by_cases hlt : i < n
  · refine .inr ⟨w.goes i H hlt q, fun x H' y => ?_⟩
    have z := hs i x H H' hlt p (w.yields i H x H' hlt q y)
    have e : (fun (b : Bool) (H4 : Hp) => if b = stop then Q (.bl stop) H4 else ∃ m', m' < n - i ∧ m' = n - (i + 1) ∧ i + 1 ≤ n ∧ Pv (i + 1) H4) = fun b H4 => if b = stop then Q (.bl stop) H4 else Pv (i + 1) H4 := by
      funext b H4
      split
      · rfl
      · refine propext ⟨fun ⟨_, _, _, _, z⟩ => z, fun z => ⟨n - (i + 1), by omega, rfl, hlt, z⟩⟩
    have e2 : (fun v H4 => ∃ b, v = V.bl b ∧ if b = stop then Q (.bl stop) H4 else ∃ m', m' < n - i ∧ m' = n - (i + 1) ∧ i + 1 ≤ n ∧ Pv (i + 1) H4) = fun v H4 => ∃ b, v = V.bl b ∧ if b = stop then Q (.bl stop) H4 else Pv (i + 1) H4 := by
      funext v H4
      exact congrArg (fun f : Bool → Hp → Prop => ∃ b, v = V.bl b ∧ f b H4) e
    rw [e2]
    exact z
  · have e : i = n := by omega
    subst e
    exact .inl ⟨w.stops H q, hd H p⟩
section
variable {A B : Prop}
theorem on_t (h : B) : if true = false then A else B := by rw [if_neg (by decide)]; exact h
theorem end_f (h : A) : if false = false then A else B := by rw [if_pos rfl]; exact h
theorem on_f (h : B) : if false = true then A else B := by rw [if_neg (by decide)]; exact h
theorem end_t (h : A) : if true = true then A else B := by rw [if_pos rfl]; exact h
end
end GN
-- GE
/-! any and all of a generator expression of two clauses -/
namespace GE
open PySem PySem.Spec PyProof.Rows L2 GenW GN
open GxR (TabB TabG Tabbed)
/-- the expression -/
abbrev duo (elt tg iter tg1 iter1 : Expr) (sc : Scope) (pos : Pos) : Expr := .GeneratorExp elt [⟨tg, iter, [], 0⟩, ⟨tg1, iter1, [], 0⟩] sc pos
section
variable {elt tg iter tg1 iter1 : Expr} {sc : Scope} {pos : Pos} {it acc : Value} {env : Env}
theorem turn0 : compTurn (duo elt tg iter tg1 iter1 sc pos) 0 it acc env = (do
      standAt iter.pos
      match ← pyNext it with
      | none => pure (.done .next)
      | some v =>
        letOwnedTupleGo tg it v
        assign tg env v
        let mut ok := true
        for c in ([] : List Expr) do
          if ok then ok ← isTrue c env (eval c env)
        if ok then do
          let x ← eval iter1 env
          standAt iter1.pos
          let x ← foldedSetIterable iter1 env x
          let _ ← runOwn (.compStart (duo elt tg iter tg1 iter1 sc pos) 1 (← holding [x] (pyIter x)) acc env) env
          again (.compLoop (duo elt tg iter tg1 iter1 sc pos) 0 it acc env)
        else again (.compLoop (duo elt tg iter tg1 iter1 sc pos) 0 it acc env)) := by rfl
theorem turn1 : compTurn (duo elt tg iter tg1 iter1 sc pos) 1 it acc env = (do
      standAt iter1.pos
      match ← pyNext it with
      | none => pure (.done .next)
      | some v =>
        letOwnedTupleGo tg1 it v
        assign tg1 env v
        let mut ok := true
        for c in ([] : List Expr) do
          if ok then ok ← isTrue c env (eval c env)
        if ok then
          (do let v ← eval elt env; standAt elt.pos; let _ ← yieldOut env v)
        again (.compLoop (duo elt tg iter tg1 iter1 sc pos) 1 it acc env)) := by rfl
end
section
variable {A : Around} {elt tg iter tg1 iter1 : Expr} {sc : Scope} {pos p : Pos} {it acc it1 acc1 : Value} {ce : Env} {g : Bool} {l : List Value} {k : Result → Sem Fin}
theorem over0 : A.over (.compLoop (duo elt tg iter tg1 iter1 sc pos) 0 it acc ce) [] = A.deeper ce := by
  first
    | rfl
    | (obtain ⟨hd, d, fr, gs, u⟩ := A; simp [Around.over, Around.deeper, marksOver, frameCount, unitsOf, envsOf, guardsOf, pushEnvs, pushGuards, Code.envs, Code.env?, Code.isFrame, Code.guards, Code.isGuard, Code.weight, Code.frames, Code.isCreation, Code.isCaller, Code.cUnits])
theorem over1 : A.over (.compLoop (duo elt tg iter tg1 iter1 sc pos) 1 it1 acc1 ce) [.ret k none g l (.compLoop (duo elt tg iter tg1 iter1 sc pos) 0 it acc ce) p []] = A.deeper ce := by
  first
    | rfl
    | (obtain ⟨hd, d, fr, gs, u⟩ := A; simp [Around.over, Around.deeper, marksOver, Frame.marks, frameCount, unitsOf, envsOf, guardsOf, pushEnvs, pushGuards, Code.envs, Code.env?, Code.isFrame, Code.guards, Code.isGuard, Code.weight, Code.frames, Code.isCreation, Code.isCaller, Code.cUnits, Frame.where_])
theorem over1s : A.over (.compStart (duo elt tg iter tg1 iter1 sc pos) 1 it1 acc1 ce) [.ret k none g l (.compLoop (duo elt tg iter tg1 iter1 sc pos) 0 it acc ce) p []] = A.deeper ce := by
  first
    | rfl
    | (obtain ⟨hd, d, fr, gs, u⟩ := A; simp [Around.over, Around.deeper, marksOver, Frame.marks, frameCount, unitsOf, envsOf, guardsOf, pushEnvs, pushGuards, Code.envs, Code.env?, Code.isFrame, Code.guards, Code.isGuard, Code.weight, Code.frames, Code.isCreation, Code.isCaller, Code.cUnits, Frame.where_])
end
/-- all goes well as long as W says so; an inner walk has fewer than B turns -/
structure Way2 (J : It) (g : TG) (wi1 : TI) (g1 : TG) (te : TE) (stop : Bool) (vs vs1 : List Nat) (σ : L2.St) (Q : VK) (B : Nat) (W : Nat → Nat → Hp → Prop) : Prop where
  turn : ∀ i m H, W i m H → (J.stop i H ∧ Q (.bl (!stop)) H) ∨ (J.go i H ∧ 0 < m ∧ ∀ x H2, J.yld i H x H2 → g x (wipe σ vs) H2 fun σ2 H3 => wipe σ2 vs = wipe σ vs ∧ wi1 σ2 H3 fun J1 H4 =>
    ∃ W1 : Nat → Nat → Hp → Prop, (∃ k, k < B ∧ W1 0 k H4) ∧ ∀ j k G, W1 j k G → (J1.stop j G ∧ ∃ m', m' < m ∧ W (i + 1) m' G) ∨ (J1.go j G ∧ ∀ y G2, J1.yld j G y G2 →
      g1 y (wipe σ2 vs1) G2 fun σ3 H5 => wipe σ3 vs1 = wipe σ2 vs1 ∧ te σ3 H5 fun v H6 => ∃ b, v = .bl b ∧ if b = stop then Q (.bl stop) H6 else ∃ k', k' < k ∧ W1 (j + 1) k' H6))
section
variable {Y : Cx} {A : Around} {ps : List (Addr × Obj)} {elt tg iter tg1 iter1 : Expr} {sc : Scope} {pos : Pos} {it it1 : Addr} {fp fp1 : List Addr} {tn tn1 : Nat → Heap → Prop} {J J1 : It} {g g1 : TG} {te : TE} {wi1 : TI} {stop : Bool} {Q : VK} {vs vs1 : List Nat} {σ₀ σ2 : L2.St}
/-- what is true of the inner iterator's objects -/
def Apt (Y : Cx) (ps : List (Addr × Obj)) (fp : List Addr) (b : Addr) : Prop := b ≠ Y.env.locals ∧ b ∉ Y.fs ∧ (b ∈ Y.ex ∨ Y.s_0.heap.objs.size ≤ b) ∧ (∀ x c, Y.env.cells.lookup x = some c → c ≠ b) ∧ (∀ p ∈ Y.pn ++ ps, p.1 ≠ b) ∧ b ∉ fp
theorem seg_in {W1 : Nat → Nat → Hp → Prop} {Dn : Hp → Prop} {base : Nat} {kont : Result → Sem PySem.Fin} {gg : Bool} {ll : List Value} {pp : Pos} (hgg : gg = false) (hA : A.deeper Y.env = Y.A) (hx : ∀ e s, ¬ Y.xe e s) (hc : Y.calm = true) (hco : Y.env.scope.isCoroutine = false)
    (T : Turn Y.prog Y.w Y.K tg J fp it tn) (T1 : Turn Y.prog Y.w Y.K tg1 J1 fp1 it1 tn1) (hg1 : PG Y tg1 g1) (he : PE Y elt te) {i0 : Nat}
    (fo : ∀ (H : Hp), (∀ b ∈ fp, H b = none) → ∀ b ∈ fp, FpOk Y ps H b) (fo1 : ∀ b ∈ fp1, Apt Y ps fp b)
    (turn : ∀ j k G, W1 j k G → (J1.stop j G ∧ Dn G) ∨ (J1.go j G ∧ ∀ y G2, J1.yld j G y G2 →
      g1 y (wipe σ2 vs1) G2 fun σ3 H5 => wipe σ3 vs1 = wipe σ2 vs1 ∧ te σ3 H5 fun v H6 => ∃ b, v = .bl b ∧ if b = stop then Q (.bl stop) H6 else ∃ k', k' < k ∧ W1 (j + 1) k' H6))
    (cont : ∀ (n : Nat) (G : Hp) (s₀ s : Shared), base < n → Dn G → Inv Y ps (wipe σ2 vs1) G s → tn i0 s.heap → (∀ b ∈ fp, G b = none) →
      Seg (model Y.prog Y.w) A (Rg Y ps stop Q) (GPro Y ps stop Q) n s₀ (.compLoop (duo elt tg iter tg1 iter1 sc pos) 0 (.ref it) .none Y.env) (kont (.ok .next)) [] s) :
    ∀ (k n j : Nat) (G : Hp) (s₀ s : Shared), base + k < n → W1 j k G → Inv Y ps (wipe σ2 vs1) G s → tn i0 s.heap → (∀ b ∈ fp, G b = none) → tn1 j s.heap → (∀ b ∈ fp1, G b = none) →
      Seg (model Y.prog Y.w) A (Rg Y ps stop Q) (GPro Y ps stop Q) n s₀ (.compLoop (duo elt tg iter tg1 iter1 sc pos) 1 (.ref it1) .none Y.env)
        ((model Y.prog Y.w).den (.compLoop (duo elt tg iter tg1 iter1 sc pos) 1 (.ref it1) .none Y.env)) [.ret kont none gg ll (.compLoop (duo elt tg iter tg1 iter1 sc pos) 0 (.ref it) .none Y.env) pp []] s := by
  intro k
  induction k using Nat.strongRecOn with
  | ind k ih =>
    intro n j G s₀ s hkn hw I st fr st1 fr1
    generalize hσ : wipe σ2 vs1 = σ at I
    have oA : A.over (.compLoop (duo elt tg iter tg1 iter1 sc pos) 1 (.ref it1) .none Y.env) [.ret kont none gg ll (.compLoop (duo elt tg iter tg1 iter1 sc pos) 0 (.ref it) .none Y.env) pp []] = Y.A := over1.trans hA
    show Seg _ A _ _ _ s₀ _ ((compTurn (duo elt tg iter tg1 iter1 sc pos) 1 (.ref it1) .none Y.env).onRaise (fun x => do noteFrame x Y.env; theTreesLotGoes x)) _ s
    rw [turn1, Sem.onRaise_eq_wrap]
    refine seg_bind_wrap (wpAny_standAt ?_)
    have I' := I.pinned (fo G fr) (T.obj _ _ st)
    have fp1ok : ∀ {H' : Hp} {h : Heap}, (∀ b ∈ fp1, H' b = none) → ∀ b ∈ fp1, FpOk Y (ps ++ pinsAt fp h) H' b := fun hn b hb => by
      obtain ⟨a1, a2, a3, a4, a5, a6⟩ := fo1 b hb
      refine ⟨hn b hb, a1, a2, a3, a4, fun p hp => ?_⟩
      rcases List.mem_append.mp hp with hp | hp
      · exact a5 p (List.mem_append_left _ hp)
      · rcases List.mem_append.mp hp with hp | hp
        · exact a5 p (List.mem_append_right _ hp)
        · intro z
          exact a6 (z ▸ (of_pinsAt hp).1)
    have held : ∀ {pl : List (Addr × Obj)} {ρ : L2.St} {H' : Hp} {s' : Shared}, Inv Y ((ps ++ pinsAt fp s.heap) ++ pl) ρ H' s' → tn i0 s'.heap ∧ ∀ b ∈ fp, H' b = none := fun J' => by
      have pin : ∀ b ∈ fp, ∀ o, s.heap.get? b = some o → _ := fun b hb o e => J'.pin (b, o) (List.mem_append_right _ (List.mem_append_left _ (List.mem_append_right _ (mem_pinsAt hb e))))
      refine ⟨T.keep _ _ _ st fun b hb o e => (pin b hb o e).1, fun b hb => ?_⟩
      obtain ⟨o, e, _⟩ := T.obj _ _ st b hb
      exact (pin b hb o e).2.1
    rcases turn j k G hw with ⟨hs, q⟩ | ⟨hgo, step⟩
    · refine seg_bind_wrap ?_
      rw [oA]
      refine thn (T1.done Y rfl rfl rfl hc j (ps ++ pinsAt fp s.heap) s σ G _ I' (fp1ok fr1) st1 hs) fun r s1 ⟨er, I1⟩ => ?_
      subst er
      have h := held (pl := []) (by rw [List.append_nil]; exact I1)
      exact seg_leaf (.ok .next) (cont n G s₀ s1 (by omega) q (by rw [hσ]; exact I1.unpinned) h.1 h.2)
    · refine seg_bind_wrap ?_
      rw [oA]
      refine thn (T1.item Y rfl rfl rfl hc j (ps ++ pinsAt fp s.heap) s σ G _ I' (fp1ok fr1) st1 hgo) fun r s1 ⟨u, er, h1⟩ => ?_
      subst er
      refine seg_bind_wrap ?_
      rw [oA]
      refine thn h1 fun _ s2 ⟨x, H2, I2, rx, hy, st2, fr2⟩ => ?_
      have I2' := I2.pinned (fp1ok fr2) (T1.obj _ _ st2)
      refine seg_bind_wrap ?_
      rw [oA]
      refine wpAny_mono (hg1.run _ s2 σ H2 x u _ I2' rx (by have q := step x H2 hy; rw [hσ] at q; exact q)) (fun _ s3 h3 => ?_) fun e s' z => absurd z (hx e s')
      obtain ⟨σ3, H3, I3, hw3, q3⟩ := h3
      refine seg_bind_wrap ?_
      rw [oA]
      refine wpAny_tests_nil ?_
      obtain ⟨n, rfl⟩ : ∃ k, n = k + 1 := ⟨n - 1, by omega⟩
      simp only [if_true]
      have hy : ∀ v, yieldOut Y.env v = yieldValue v := fun v => by simp only [yieldOut, hco, Bool.false_eq_true, if_false]
      simp only [hy]
      rw [Sem.bind_eq_wrap', Sem.bind_eq_wrap', Sem.wrap_wrap, Sem.wrap_wrap]
      refine seg_wrap ?_
      rw [oA]
      refine wpAny_mono (he.run _ s3 σ3 H3 _ I3 q3) (fun y s4 h4 => ?_) fun e s' z => absurd z (hx e s')
      obtain ⟨v, H4, I4, ry, b, ev, q4⟩ := h4
      subst ev
      cases (show y = Value.bool b from ry)
      have h := held I4
      have st4 : tn1 (j + 1) s4.heap := T1.keep _ _ _ st2 fun c hc o e => (I4.pin (c, o) (List.mem_append_right _ (List.mem_append_right _ (mem_pinsAt hc e)))).1
      have fr4 : ∀ c ∈ fp1, H4 c = none := fun c hc => by
        obtain ⟨o, e, _⟩ := T1.obj _ _ st2 c hc
        exact (I4.pin (c, o) (List.mem_append_right _ (List.mem_append_right _ (mem_pinsAt hc e)))).2.1
      have I5 : Inv Y ps σ3 H4 s4 := I4.unpinned.unpinned
      refine seg_at (seg_yield rfl rfl (by rw [hgg]; rfl) ⟨b, σ3, H4, rfl, I5, ?_⟩)
      by_cases hb : b = stop
      · rw [if_pos hb] at q4 ⊢
        exact q4
      · rw [if_neg hb] at q4 ⊢
        obtain ⟨k', hk, w4⟩ := q4
        intro s5 lk
        refine seg_again rfl (ih k' hk n (j + 1) H4 s5 s5 (by omega) w4 (inv_gens (by rw [hσ, ← hw3]; exact inv_wipe vs1 I5) lk.1 lk.2.1 lk.2.2) ?_ h.2 ?_ fr4)
        · rw [lk.2.1]; exact h.1
        · rw [lk.2.1]; exact st4
theorem wipe_more {σ τ : L2.St} {vs vs1 : List Nat} (h : wipe τ vs1 = wipe σ vs1) (hv : ∀ i ∈ vs1, i ∈ vs) : ∀ (i : Nat) (v : V), (wipe σ vs)[i]? = some (some v) → τ[i]? = some (some v) := fun i v e => by
  obtain ⟨e1, n⟩ := wipe_some e
  have n1 : i ∉ vs1 := fun z => n (hv i z)
  rw [← wipe_out (σ := τ) n1, h, wipe_out n1]
  exact e1
theorem seg_out {W : Nat → Nat → Hp → Prop} {B : Nat} (hv : ∀ i ∈ vs1, i ∈ vs) (hA : A.deeper Y.env = Y.A) (hx : ∀ e s, ¬ Y.xe e s) (hc : Y.calm = true) (hco : Y.env.scope.isCoroutine = false)
    (T : Turn Y.prog Y.w Y.K tg J fp it tn) (hg : PG Y tg g) (hi1 : PI Y tg1 iter1 wi1) (hg1 : PG Y tg1 g1) (he : PE Y elt te) (hs1 : ∀ x, foldedSetIterable iter1 Y.env x = pure x) (hW : Way2 J g wi1 g1 te stop vs vs1 σ₀ Q B W)
    (fo : ∀ (H : Hp), (∀ b ∈ fp, H b = none) → ∀ b ∈ fp, FpOk Y ps H b) :
    ∀ (m n i : Nat) (H : Hp) (s₀ s : Shared), m * B < n → W i m H → Inv Y ps (wipe σ₀ vs) H s → tn i s.heap → (∀ b ∈ fp, H b = none) →
      Seg (model Y.prog Y.w) A (Rg Y ps stop Q) (GPro Y ps stop Q) n s₀ (.compLoop (duo elt tg iter tg1 iter1 sc pos) 0 (.ref it) .none Y.env)
        ((model Y.prog Y.w).den (.compLoop (duo elt tg iter tg1 iter1 sc pos) 0 (.ref it) .none Y.env)) [] s := by
  intro m
  induction m using Nat.strongRecOn with
  | ind m ih =>
    intro n i H s₀ s hmn hw I st fr
    generalize hσ : wipe σ₀ vs = σ at I
    have oA : A.over (.compLoop (duo elt tg iter tg1 iter1 sc pos) 0 (.ref it) .none Y.env) [] = Y.A := over0.trans hA
    show Seg _ A _ _ _ s₀ _ ((compTurn (duo elt tg iter tg1 iter1 sc pos) 0 (.ref it) .none Y.env).onRaise (leaving Y.env)) [] s
    rw [turn0, Sem.onRaise_eq_wrap]
    refine seg_bind_wrap (wpAny_standAt ?_)
    rcases hW.turn i m H hw with ⟨hs, q⟩ | ⟨hgo, mpos, step⟩
    · refine seg_bind_wrap ?_
      rw [oA]
      refine thn (T.done Y rfl rfl rfl hc i ps s σ H _ I (fo H fr) st hs) fun r s1 ⟨er, I1⟩ => ?_
      subst er
      exact seg_end (.ok .next) ⟨rfl, σ, H, I1, q⟩
    · refine seg_bind_wrap ?_
      rw [oA]
      refine thn (T.item Y rfl rfl rfl hc i ps s σ H _ I (fo H fr) st hgo) fun r s1 ⟨u, er, h1⟩ => ?_
      subst er
      refine seg_bind_wrap ?_
      rw [oA]
      refine thn h1 fun _ s2 ⟨x, H2, I2, rx, hy, st2, fr2⟩ => ?_
      have I2' := I2.pinned (fo H2 fr2) (T.obj _ _ st2)
      refine seg_bind_wrap ?_
      rw [oA]
      refine wpAny_mono (hg.run _ s2 σ H2 x u _ I2' rx (by have q := step x H2 hy; rw [hσ] at q; exact q)) (fun _ s3 h3 => ?_) fun e s' z => absurd z (hx e s')
      obtain ⟨σ3, H3, I3, hw3, q3⟩ := h3
      refine seg_bind_wrap ?_
      rw [oA]
      refine wpAny_tests_nil ?_
      simp only [if_true]
      refine seg_bind_wrap ?_
      rw [oA]
      refine wpAny_mono (hi1.run _ s3 σ3 H3 _ I3 q3) (fun xv s4 h4 => ?_) fun e s' z => absurd z (hx e s')
      refine seg_bind_wrap (wpAny_standAt ?_)
      refine seg_bind_wrap (wpAny_of_eq (hs1 xv) ?_)
      refine seg_bind_wrap ?_
      rw [oA]
      refine wpAny_holding (wpAny_mono h4 (fun itv s5 h5 => ?_) fun e s' z => absurd z (hx e s'))
      obtain ⟨it1, fp1, tn1, J1, H5, rfl, I5, T1, st5, f5, W1, ⟨k, hk, w5⟩, turn⟩ := h5
      refine seg_call (c' := .compStart (duo elt tg iter tg1 iter1 sc pos) 1 (.ref it1) .none Y.env) (h := none) (g := false) (l := []) (fun pp => ?_)
      have fp1ok : ∀ b ∈ fp1, Apt Y ps fp b := fun b hb => by
        obtain ⟨a0, a1, a2, a3, a4, a5⟩ := f5 b hb
        refine ⟨a1, a2, a3, a4, fun p hp => a5 p ?_, fun hf => ?_⟩
        · rcases List.mem_append.mp hp with hp | hp
          · exact List.mem_append_left _ hp
          · exact List.mem_append_right _ (List.mem_append_left _ hp)
        · obtain ⟨o, e, _⟩ := T.obj _ _ st2 b hf
          exact a5 (b, o) (List.mem_append_right _ (List.mem_append_right _ (mem_pinsAt hf e))) rfl
      have st6 : tn (i + 1) s5.heap := T.keep _ _ _ st2 fun b hb o e => (I5.pin (b, o) (List.mem_append_right _ (List.mem_append_right _ (mem_pinsAt hb e)))).1
      have fr6 : ∀ b ∈ fp, H5 b = none := fun b hb => by
        obtain ⟨o, e, _⟩ := T.obj _ _ st2 b hb
        exact (I5.pin (b, o) (List.mem_append_right _ (List.mem_append_right _ (mem_pinsAt hb e)))).2.1
      have base : (m - 1) * B + k < n := by
        have : (m - 1) * B + B = m * B := by
          obtain ⟨q, rfl⟩ : ∃ q, m = q + 1 := ⟨m - 1, by omega⟩
          rw [Nat.add_sub_cancel, Nat.succ_mul]
        omega
      have cont : ∀ (n' : Nat) (G : Hp) (s0' s' : Shared), (m - 1) * B < n' → (∃ m', m' < m ∧ W (i + 1) m' G) → Inv Y ps (wipe σ3 vs1) G s' → tn (i + 1) s'.heap → (∀ b ∈ fp, G b = none) →
          Seg (model Y.prog Y.w) A (Rg Y ps stop Q) (GPro Y ps stop Q) n' s0' (.compLoop (duo elt tg iter tg1 iter1 sc pos) 0 (.ref it) .none Y.env) (.pure (.again (.compLoop (duo elt tg iter tg1 iter1 sc pos) 0 (.ref it) .none Y.env))) [] s' := fun n' G s0' s' hb hD I' st' fr' => by
        obtain ⟨m', hm, w'⟩ := hD
        refine seg_again rfl (ih m' hm n' (i + 1) G s0' s' ?_ w' ?_ st' fr')
        · have : m' * B ≤ (m - 1) * B := Nat.mul_le_mul_right B (by omega)
          omega
        · rw [hσ, ← hw3]
          refine I'.weak (by rw [wipe_length, wipe_length]) fun j v e => ?_
          obtain ⟨e1, n⟩ := wipe_some e
          rw [wipe_out fun z => n (hv j z)]
          exact e1
      show Seg _ A _ _ _ s₀ _ ((compStart (duo elt tg iter tg1 iter1 sc pos) 1 (.ref it1) .none Y.env).onRaise (fun x => do noteFrame x Y.env; standAt theWindowsPlace)) _ s5
      unfold compStart
      rw [Sem.onRaise_eq_wrap]
      show Seg _ A _ _ _ s₀ _ ((ask >>= _).wrap _ _ _ _) _ s5
      have I6 : Inv Y ps (wipe σ3 vs1) H5 s5 := inv_wipe vs1 I5.unpinned
      refine seg_bind_wrap (wpAny_askSetting ?_)
      split
      · exact seg_again rfl (seg_in (σ2 := σ3) (vs1 := vs1) (Dn := fun G => ∃ m', m' < m ∧ W (i + 1) m' G) (base := (m - 1) * B) rfl hA hx hc hco T T1 hg1 he (i0 := i + 1) fo fp1ok turn cont k n 0 H5 s₀ s5 base w5 I6 st6 fr6 st5 (fun b hb => (f5 b hb).1))
      · exact seg_bind_wrap (wpAny_rule (seg_bind_wrap (wpAny_standAt (seg_bind_wrap (T1.self _ 0 s5 _ _ st5 (seg_again rfl (seg_in (σ2 := σ3) (vs1 := vs1) (Dn := fun G => ∃ m', m' < m ∧ W (i + 1) m' G) (base := (m - 1) * B) rfl hA hx hc hco T T1 hg1 he (i0 := i + 1) fo fp1ok turn cont k n 0 H5 s₀ s5 base w5 I6 st6 fr6 st5 (fun b hb => (f5 b hb).1))))))))
theorem seg_first2 {W : Nat → Nat → Hp → Prop} {B : Nat} (hv : ∀ i ∈ vs1, i ∈ vs) (hA : A.deeper Y.env = Y.A) (hx : ∀ e s, ¬ Y.xe e s) (hc : Y.calm = true) (hco : Y.env.scope.isCoroutine = false) (T : Turn Y.prog Y.w Y.K tg J fp it tn) (hg : PG Y tg g) (hi1 : PI Y tg1 iter1 wi1) (hg1 : PG Y tg1 g1) (he : PE Y elt te) (hs1 : ∀ x, foldedSetIterable iter1 Y.env x = pure x) (hW : Way2 J g wi1 g1 te stop vs vs1 σ₀ Q B W)
    (fo : ∀ (H : Hp), (∀ b ∈ fp, H b = none) → ∀ b ∈ fp, FpOk Y ps H b) {m n : Nat} {H : Hp} {s₀ s : Shared} (hmn : m * B < n) (hw : W 0 m H) (I : Inv Y ps (wipe σ₀ vs) H s) (st : tn 0 s.heap) (fr : ∀ b ∈ fp, H b = none) :
    Seg (model Y.prog Y.w) A (Rg Y ps stop Q) (GPro Y ps stop Q) n s₀ (.compStart (duo elt tg iter tg1 iter1 sc pos) 0 (.ref it) .none Y.env)
        ((model Y.prog Y.w).den (.compStart (duo elt tg iter tg1 iter1 sc pos) 0 (.ref it) .none Y.env)) [] s := by
  have loop := seg_out (iter := iter) (sc := sc) (pos := pos) hv hA hx hc hco T hg hi1 hg1 he hs1 hW fo m n 0 H s₀ s hmn hw I st fr
  show Seg _ A _ _ _ s₀ _ ((compStart (duo elt tg iter tg1 iter1 sc pos) 0 (.ref it) .none Y.env).onRaise (leaving Y.env)) [] s
  unfold compStart
  rw [Sem.onRaise_eq_wrap]
  show Seg _ A _ _ _ s₀ _ ((ask >>= _).wrap _ _ _ _) [] s
  refine seg_bind_wrap (wpAny_askSetting ?_)
  split
  · exact seg_again rfl loop
  · first
      | exact seg_bind_wrap (wpAny_rule (seg_bind_wrap (wpAny_standAt (seg_bind_wrap (T.self _ 0 s _ _ st (seg_again rfl loop))))))
      | (refine seg_bind_wrap (wpAny_rule ?_); show Seg _ A _ _ _ s₀ _ ((standAt iter.pos >>= _).wrap _ _ _ _) [] s; exact seg_bind_wrap (wpAny_standAt (seg_bind_wrap (T.self _ 0 s _ _ st (seg_again rfl loop)))))
end
section
variable {elt tg iter tg1 iter1 : Expr} {sc : Scope} {pos : Pos} {env : Env}
theorem ev2 (h : sc.isCoroutine = false) : eval (duo elt tg iter tg1 iter1 sc pos) env = (eval iter env >>= fun a => standAt iter.pos >>= fun _ => genFold iter env a >>= fun b => holding [b] (pyIter b) >>= fun i => enterFrame >>= fun _ => closureFor sc env >>= fun cl => genexprCode env pos (env.qual ++ "<genexpr>") sc >>= fun co => builtinsFor env.globals env.builtins >>= fun bi =>
    newFunctionEnv sc env.globals cl [(".0", i)] (env.qual ++ "<genexpr>.") none co none bi >>= fun ce => newGenerator (.compStart (duo elt tg iter tg1 iter1 sc pos) 0 i .none ce) "<genexpr>" (env.qual ++ "<genexpr>")) := by
  rw [arm_eval_GeneratorExp]; simp only [h, Bool.false_eq_true, if_false]; cases iter <;> rfl
theorem make2 {M : Model} {A : Around} {E : Value → Shared → Prop} {s : Shared} {cl : List (PySem.Str × Addr)} {R : Value → Shared → Prop} (a : sc.isCoroutine = false) (b : closureFor sc env = pure cl) (c : ∀ y ∈ sc.names, y.2 ≠ .cell) (d : sc.names.lookup (".0" : PySem.Str) = some NameKind.local) (e : sc.kind = .function) (r : A.depth < recursionLimit)
    (h : wpAny M A (eval iter env) (fun v u1 => wpAny M A (pyIter v) (fun i u2 => u2.heap.NoLimit ∧ wpAny M A (genexprCode env pos (env.qual ++ "<genexpr>") sc) (fun co u3 => wpAny M A (builtinsFor env.globals env.builtins) (fun bi u4 => ∀ h', h'.Ns u4.heap.objs.size (fun y => if y = ".0" then some i else none) → Heap.SameBut u4.heap.objs.size (u4.heap.push { cls := .type "frame", data := .dict #[] }) h' →
      R (.ref h'.objs.size) { u4 with gens := u4.gens.push (.fresh (.compStart (duo elt tg iter tg1 iter1 sc pos) 0 i .none (genEnv sc cl u4.heap.objs.size co bi env))), toks := u4.toks + 1 + 1 + 1, heap := h'.push { cls := .type "generator", data := .fields #[.int u4.gens.size 0, .str "<genexpr>" (u4.toks + 1), .str (env.qual ++ "<genexpr>") (u4.toks + 1 + 1)] } }) E u3) E u2) E u1) E s)
    (f : ∀ x, genFold iter env x = pure x) : wpAny M A (eval (duo elt tg iter tg1 iter1 sc pos) env) R E s := by
  have q : (fun y : PySem.Str => ([((".0" : PySem.Str), (.none : Value))] : List (PySem.Str × Value)).reverse.lookup y) = fun y => if y = (".0" : PySem.Str) then some (.none : Value) else none := by
    funext y
    by_cases z : y = ".0"
    · subst z; simp
    · simp [List.lookup, show (y == (".0" : PySem.Str)) = false by simpa using z, z]
  rw [ev2 a, b]
  refine wpAny_bind (thn h fun v u1 h1 => wpAny_bind (wpAny_standAt (wpAny_bind (wpAny_of_eq (f v) (wpAny_bind (wpAny_holding (thn h1 fun i u2 h2 => wpAny_bind (wpAny_enterFrame h2.1 r (wpAny_bind (wpAny_pure (wpAny_bind (thn h2.2 fun co u3 h3 => wpAny_bind (thn h3 fun bi u4 h4 => ?_)))))))))))))
  refine wpAny_bind (wpAny_newFunctionEnv c (fun y hy => by rw [List.mem_singleton.mp hy]; exact d) (fun h' hn hs => ?_) e)
  simp only [newGenerator, newFields]
  refine wpAny_bind (wpAny_newGen (wpAny_bind (wpAny_mkText (wpAny_bind (wpAny_mkText (wpAny_newObj_type (h4 h' ?_ hs) (by size_fits)))))))
  have q2 : (fun y : PySem.Str => ([((".0" : PySem.Str), i)] : List (PySem.Str × Value)).reverse.lookup y) = fun y => if y = (".0" : PySem.Str) then some i else none := by
    funext y
    by_cases z : y = ".0"
    · subst z; simp
    · simp [List.lookup, show (y == (".0" : PySem.Str)) = false by simpa using z, z]
  rw [← q2]
  exact hn
end
/-- .. over iter, then over iter1, P the def's own table of code -/
def tGn2 (P : Addr) (own vs1 : List Nat) (stop : Bool) (wi : TI) (g : TG) (wi1 : TI) (g1 : TG) (te : TE) : TE := fun σ H Q => wi σ H fun J H1 => TabG H1 P ∧ ∃ (B : Nat) (W : Nat → Nat → Hp → Prop), (∀ H2, Tabbed P H1 H2 → ∃ m, W 0 m H2) ∧ Way2 J g wi1 g1 te stop own vs1 σ Q B W
section
variable {X : Cx} {pins : List (Addr × Obj)} {σ : L2.St} {H : Hp} {s : Shared} {c P : Addr} {elt tg iter tg1 iter1 : Expr} {sc : Scope} {own : List (Str × Nat)} {wi wi1 : TI} {g g1 : TG} {vs1 : List Nat} {te : TE} {k : Nat} {stop : Bool} {gpos : Pos}
theorem gen_made2 {Q : VK} {Q' : Value → Shared → Prop} (hr : Room (k + 1) X.A) (hN : X.N.Nodup) (TB : TabB X.base X.mg c P) (hcode : X.env.code = .ref c) (ok : NmOk X.N X.env.scope sc own) (hi : PI X tg iter wi) (hs : ∀ v, genFold iter X.env v = pure v) (hs1 : ∀ (env : Env) x, foldedSetIterable iter1 env x = pure x) (hv : ∀ i ∈ vs1, i ∈ own.map (·.2))
    (hg : ∀ (s : Shared) (H : Hp) (A : Around) (C : Addr) (cd : Value) (fp : List Addr), PG (inGen X s H A (genEnv sc (cloFrom X.env.cells sc.names []) C cd builtinsNs X.env) fp) tg g)
    (hi1 : ∀ (s : Shared) (H : Hp) (A : Around) (C : Addr) (cd : Value) (fp : List Addr), Room k (A.deeper (genEnv sc (cloFrom X.env.cells sc.names []) C cd builtinsNs X.env)) → A.guards = X.A.guards → PI (inGen X s H A (genEnv sc (cloFrom X.env.cells sc.names []) C cd builtinsNs X.env) fp) tg1 iter1 wi1)
    (hg1 : ∀ (s : Shared) (H : Hp) (A : Around) (C : Addr) (cd : Value) (fp : List Addr), PG (inGen X s H A (genEnv sc (cloFrom X.env.cells sc.names []) C cd builtinsNs X.env) fp) tg1 g1)
    (he : ∀ (s : Shared) (H : Hp) (A : Around) (C : Addr) (cd : Value) (fp : List Addr), Room k (A.deeper (genEnv sc (cloFrom X.env.cells sc.names []) C cd builtinsNs X.env)) → A.guards = X.A.guards → PE (inGen X s H A (genEnv sc (cloFrom X.env.cells sc.names []) C cd builtinsNs X.env) fp) elt te)
    (I : Inv X pins σ H s) (h : tGn2 P (own.map (·.2)) vs1 stop wi g wi1 g1 te σ H Q) (hQ : ∀ a s', Fresh X pins σ stop Q a s' → Q' (.ref a) s') :
    wpAny (model X.prog X.w) X.A (eval (duo elt tg iter tg1 iter1 sc gpos) X.env) Q' X.xe s := by
  have hfree : ∀ y ∈ sc.names, y.2 = .free → ∃ c, X.env.cells.lookup y.1 = some c := fun y hy e => I.ok.has _ (ok.blk.free y hy e)
  refine make2 ok.co (closure_ok hfree) ok.cell ok.dot ok.blk.kind (by have := hr.dp; omega) ?_ hs
  refine thn (hi.run pins s σ H _ I h) fun xv s1 hx => thn hx fun itv s2 h2 => ?_
  obtain ⟨it, fp, tn, J, H2, rfl, I2, T, st2, f2, ⟨qs, hP, ht⟩, B, W, w0, way⟩ := h2
  have oP : s2.heap.get? P = some { cls := .none, data := .fields qs } := I2.hok P _ hP
  have nP : ∀ b ∈ fp, b ≠ P := fun b hb z => by
    have := (f2 b hb).1
    rw [z, hP] at this
    cases this
  refine ⟨I2.nolimit, LE.code_step (ps := qs) hcode (TB.code.keeps I2.bk) oP ht fun code h3 tk more ex ge hP3 ht3 => ?_⟩
  have I4 : Inv X pins σ (upd H2 P (.tbl (qs ++ more))) { s2 with heap := h3, toks := tk } := GxR.inv_tab (g' := s2.gens) (d' := s2.drawn) (t' := tk) I2 hP (fun b o n e => ex b o n e) hP3 I2.bare
  have tab : Tabbed P H2 (upd H2 P (.tbl (qs ++ more))) := ⟨⟨_, upd_same, ht3⟩, fun b n => upd_ne n⟩
  have st4 : tn 0 h3 := T.keep _ _ _ st2 fun b hb o e => ex b o (nP b hb) e
  have f4 : ∀ b ∈ fp, FpOk X pins (upd H2 P (.tbl (qs ++ more))) b := fun b hb => ⟨by rw [upd_ne (nP b hb)]; exact (f2 b hb).1, (f2 b hb).2⟩
  have lt4 : ∀ b ∈ fp, b < h3.objs.size := fun b hb => by
    obtain ⟨o, e, _⟩ := T.obj _ _ st4 b hb
    exact Heap.lt_size e
  obtain ⟨m0, w0⟩ := w0 _ tab
  generalize hH4 : upd H2 P (.tbl (qs ++ more)) = H4 at I4 tab f4 w0
  generalize hs4 : ({ s2 with heap := h3, toks := tk } : Shared) = s4 at I4
  have e4 : s4.heap = h3 := by rw [← hs4]
  rw [← e4] at st4 lt4
  obtain ⟨bm, ob, e1, e2, e3, e4', e5, e6, e7, e8⟩ := TB.bm
  refine wpAny_builtinsFor (m := X.mg) (by rw [I4.ok.glob]; exact I4.mod.glob.keeps I4.bk) e1 e2 (I4.bk _ _ e5) e6 e7 e8 ?_
  intro h' hn' hs'
  have hsz : h'.objs.size = s4.heap.objs.size + 1 := by rw [hs'.1, Heap.size_push]
  have keep' : ∀ b o, s4.heap.get? b = some o → h'.get? b = some o := fun b o e => hs'.extBut b o (Nat.ne_of_lt (Heap.lt_size e)) (Heap.get?_push_of_some _ e)
  generalize hce : genEnv sc (cloFrom X.env.cells sc.names []) s4.heap.objs.size code builtinsNs X.env = ce
  generalize hs5 : ({ s4 with gens := s4.gens.push (.fresh (.compStart (duo elt tg iter tg1 iter1 sc gpos) 0 (.ref it) .none ce)), toks := s4.toks + 1 + 1 + 1, heap := h'.push { cls := .type "generator", data := .fields #[.int s4.gens.size 0, .str "<genexpr>" (s4.toks + 1), .str (X.env.qual ++ "<genexpr>") (s4.toks + 1 + 1)] } } : Shared) = s5
  have h5 : s5.heap = h'.push { cls := .type "generator", data := .fields #[.int s4.gens.size 0, .str "<genexpr>" (s4.toks + 1), .str (X.env.qual ++ "<genexpr>") (s4.toks + 1 + 1)] } := by rw [← hs5]
  have g5 : s5.gens = s4.gens.push (.fresh (.compStart (duo elt tg iter tg1 iter1 sc gpos) 0 (.ref it) .none ce)) := by rw [← hs5]
  have o5 : s5.os = s4.os := by rw [← hs5]
  have kp : ∀ b o, s4.heap.get? b = some o → s5.heap.get? b = some o := fun b o e => by
    rw [h5]
    exact Heap.get?_push_of_some _ (keep' b o e)
  have hA : X.A.in1.in1.handled = none := hr.hd
  have J5 := gen_start (A := X.A.in1.in1) (code := code) (s5 := s5) (m := fun y => if y = (".0" : Str) then some (.ref it) else none) I4 ok hN (fun b hb => ⟨f4 b hb, lt4 b hb⟩) (show X.A.in1.in1.frames = _ from I4.ok.frames) hA o5
    (by rw [g5]; exact I4.bare.push rfl) kp (by rw [h5]; exact hn'.push _)
  have pi1 := hi1 s4 H4 X.A.in1.in1 s4.heap.objs.size code fp ⟨hr.hd, by have := hr.dp; show X.A.depth + 1 + 3 * k + 5 < _; omega, by have := hr.un; show X.A.units + 1 + 1 + 3 + 16 * k + 200 < _; omega⟩ rfl
  have pg1 := hg1 s4 H4 X.A.in1.in1 s4.heap.objs.size code fp
  have pg := hg s4 H4 X.A.in1.in1 s4.heap.objs.size code fp
  have pe := he s4 H4 X.A.in1.in1 s4.heap.objs.size code fp ⟨hr.hd, by have := hr.dp; show X.A.depth + 1 + 3 * k + 5 < _; omega, by have := hr.un; show X.A.units + 1 + 1 + 3 + 16 * k + 200 < _; omega⟩ rfl
  rw [hce] at J5 pg pe pi1 pg1
  have hcl : ce.locals = s4.heap.objs.size := by rw [← hce]; rfl
  have hcs : ce.scope = sc := by rw [← hce]; rfl
  have hcc : ce.cells = cloFrom X.env.cells sc.names [] := by rw [← hce]; rfl
  have ae : h'.objs.size = s4.heap.objs.size + 1 := hsz
  have fsS : ∀ b ∈ frs X.stack, b < s4.heap.objs.size := fun b hb => by
    rcases List.mem_cons.mp (I4.stkSub b hb) with z | z
    · rw [z]
      exact I4.lt
    · rcases Nat.lt_or_ge b s4.heap.objs.size with y | y
      · exact y
      · exact absurd z (I4.nofs y)
  refine hQ _ _ ⟨inGen X s4 H4 X.A.in1.in1 ce fp, { cls := .type "generator", data := .fields #[.int s4.gens.size 0, .str "<genexpr>" (s4.toks + 1), .str (X.env.qual ++ "<genexpr>") (s4.toks + 1 + 1)] }, s4.gens.size, m0 * B + 1, rfl, rfl, ⟨_, _, rfl, rfl, rfl⟩, ?_, fun σ' H' s' J' => ?_⟩
  · have J6 : Inv (inGen X s4 H4 X.A.in1.in1 ce fp) [(h'.objs.size, { cls := .type "generator", data := .fields #[.int s4.gens.size 0, .str "<genexpr>" (s4.toks + 1), .str (X.env.qual ++ "<genexpr>") (s4.toks + 1 + 1)] })] (wipe σ (own.map (·.2))) H4 s5 := by
      refine J5.pins_of fun p hp => ?_
      rw [List.mem_singleton.mp hp]
      refine ⟨by rw [h5]; exact Heap.get?_push_size _ rfl, I4.hok.fresh (by rw [ae]; exact Nat.le_succ _), by show h'.objs.size ≠ ce.locals; rw [hcl, ae]; exact Nat.succ_ne_self _, fun z => ?_, fun v z => nomatch z⟩
      have lz : h'.objs.size < s4.heap.objs.size := fsS _ z
      rw [ae] at lz
      exact absurd lz (Nat.not_lt.mpr (Nat.le_succ _))
    refine ⟨⟨_, _, J6⟩, .fresh (.compStart (duo elt tg iter tg1 iter1 sc gpos) 0 (.ref it) .none ce), (by rw [g5]; exact Array.getElem?_push_size ..), fun s6 lk => ⟨rfl, ?_⟩⟩
    refine seg_first2 (Y := inGen X s4 H4 X.A.in1.in1 ce fp) (A := X.A.in1.in1) (T := T) (W := W) (J := J) hv rfl (fun _ _ z => z) rfl (by show ce.scope.isCoroutine = false; rw [hcs]; exact ok.co) pg pi1 pg1 pe (hs1 _) way (fun Hx hn b hb => ?_) (Nat.lt_succ_self (m0 * B)) w0 (inv_gens J6 lk.1 lk.2.1 lk.2.2) (by rw [lk.2.1]; exact T.keep _ _ _ st4 fun b _ o e => kp b o e) fun b hb => (f4 b hb).1
    have lb := lt4 b hb
    refine ⟨hn b hb, by show b ≠ ce.locals; rw [hcl]; exact Nat.ne_of_lt lb, fun z => ?_, .inl hb, fun y cc e z => ?_, fun p hp z => ?_⟩
    · rcases List.mem_cons.mp (I4.stkSub b z) with y | y
      · exact (f4 b hb).2.1 y
      · exact (f4 b hb).2.2.1 y
    · have e : ce.cells.lookup y = some cc := e
      rw [hcc] at e
      rcases cloFrom_mem (PySem.mem_of_lookup e) with hm | ⟨h1, h2⟩
      · cases hm
      · obtain ⟨c2, e2⟩ := hfree _ h1 rfl
        have e2' : X.env.cells.lookup y = some c2 := e2
        rw [e2'] at h2
        exact (f4 b hb).2.2.2.2.1 y c2 e2 (by rw [← z]; exact h2.symm)
    · have hp' : p ∈ [(h'.objs.size, ({ cls := .type "generator", data := .fields #[.int s4.gens.size 0, .str "<genexpr>" (s4.toks + 1), .str (X.env.qual ++ "<genexpr>") (s4.toks + 1 + 1)] } : Obj))] := hp
      rw [List.mem_singleton.mp hp'] at z
      have z' : h'.objs.size = b := z
      rw [← z', ae] at lb
      exact absurd lb (Nat.not_lt.mpr (Nat.le_succ _))
  · refine I4.call' (ch := fp) J'.os J'.base J'.hok J'.bare fun b hb => ?_
    have := f4 b hb
    exact ⟨this.2.2.2.1, this.2.1, this.2.2.2.2.1, this.2.2.2.2.2⟩
section
variable {p pos : Pos}
theorem pe_allG2 (hr : Room (k + 1) X.A) (hN : X.N.Nodup) (hgl : Gl X "all") (hm : X.mg "all" = none) (TB : TabB X.base X.mg c P) (hcode : X.env.code = .ref c) (ok : NmOk X.N X.env.scope sc own) (hi : PI X tg iter wi) (hv : ∀ i ∈ vs1, i ∈ own.map (·.2))
    (hg : ∀ (s : Shared) (H : Hp) (A : Around) (C : Addr) (cd : Value) (fp : List Addr), PG (inGen X s H A (genEnv sc (cloFrom X.env.cells sc.names []) C cd builtinsNs X.env) fp) tg g)
    (hi1 : ∀ (s : Shared) (H : Hp) (A : Around) (C : Addr) (cd : Value) (fp : List Addr), Room k (A.deeper (genEnv sc (cloFrom X.env.cells sc.names []) C cd builtinsNs X.env)) → A.guards = X.A.guards → PI (inGen X s H A (genEnv sc (cloFrom X.env.cells sc.names []) C cd builtinsNs X.env) fp) tg1 iter1 wi1)
    (hg1 : ∀ (s : Shared) (H : Hp) (A : Around) (C : Addr) (cd : Value) (fp : List Addr), PG (inGen X s H A (genEnv sc (cloFrom X.env.cells sc.names []) C cd builtinsNs X.env) fp) tg1 g1)
    (he : ∀ (s : Shared) (H : Hp) (A : Around) (C : Addr) (cd : Value) (fp : List Addr), Room k (A.deeper (genEnv sc (cloFrom X.env.cells sc.names []) C cd builtinsNs X.env)) → A.guards = X.A.guards → PE (inGen X s H A (genEnv sc (cloFrom X.env.cells sc.names []) C cd builtinsNs X.env) fp) elt te)
    (hs : ∀ v, genFold iter X.env v = pure v := by intro _; rfl) (hs1 : ∀ (env : Env) x, foldedSetIterable iter1 env x = pure x := by intro _ _; rfl) (hst : starEach [duo elt tg iter tg1 iter1 sc gpos] X.env = (false, eval (duo elt tg iter tg1 iter1 sc gpos) X.env) :: starEach [] X.env := by rfl) :
    PE X (.Call (.Name "all" p) [duo elt tg iter tg1 iter1 sc gpos] [] pos) (tGn2 P (own.map (·.2)) vs1 false wi g wi1 g1 te) := by
  refine ⟨fun pins s σ H Q I h => wpAny_Call_Name_kw (ld_blt I hgl hm (by decide +kernel : bootBuiltins "all" = some (.builtin "all")) (PyProof.Rows.callWith_builtin1 ?_ hst (by rfl)))⟩
  rw [hst]
  refine Calls.spliced_cons (gen_made2 hr hN TB hcode ok hi hs hs1 hv hg hi1 hg1 he I h fun a s5 ⟨Y, ao, gn, n, rfl1, rfl2, hao, rd, back⟩ => Calls.spliced_nil ?_)
  refine call_function_tree F.kind_all F.plain_all F.entry_all (F.args_all1 _) ?_
  unfold Builtin.«all»
  refine wpAny_bind (m := oneArg "all" _) (wpAny_pure ?_)
  obtain ⟨nm, qn, c1, c2, c3⟩ := id hao
  obtain ⟨⟨σ6, H6, I6⟩, _⟩ := id rd
  rw [← rfl1, ← rfl2]
  refine wpAny_bind (wpAny_pyIter_gen (g := gn) ⟨ao, nm, qn, (I6.pin (a, ao) (List.mem_append_right _ List.mem_cons_self)).1, c1, c2, c3⟩ ?_)
  refine wpAny_pure ⟨plainId_quiet F.plain_all_loop _, codeAny_mono (loop_all (A := X.A) hr.hd (by have := hr.dp; omega) List.mem_cons_self hao n s5 rd) fun r s' z => ?_⟩
  obtain ⟨b, σ7, H7, rfl, I7, q⟩ := z
  exact ⟨.bl b, H7, back _ _ _ I7, rfl, q⟩
theorem pe_anyG2 (hr : Room (k + 1) X.A) (hN : X.N.Nodup) (hgl : Gl X "any") (hm : X.mg "any" = none) (TB : TabB X.base X.mg c P) (hcode : X.env.code = .ref c) (ok : NmOk X.N X.env.scope sc own) (hi : PI X tg iter wi) (hv : ∀ i ∈ vs1, i ∈ own.map (·.2))
    (hg : ∀ (s : Shared) (H : Hp) (A : Around) (C : Addr) (cd : Value) (fp : List Addr), PG (inGen X s H A (genEnv sc (cloFrom X.env.cells sc.names []) C cd builtinsNs X.env) fp) tg g)
    (hi1 : ∀ (s : Shared) (H : Hp) (A : Around) (C : Addr) (cd : Value) (fp : List Addr), Room k (A.deeper (genEnv sc (cloFrom X.env.cells sc.names []) C cd builtinsNs X.env)) → A.guards = X.A.guards → PI (inGen X s H A (genEnv sc (cloFrom X.env.cells sc.names []) C cd builtinsNs X.env) fp) tg1 iter1 wi1)
    (hg1 : ∀ (s : Shared) (H : Hp) (A : Around) (C : Addr) (cd : Value) (fp : List Addr), PG (inGen X s H A (genEnv sc (cloFrom X.env.cells sc.names []) C cd builtinsNs X.env) fp) tg1 g1)
    (he : ∀ (s : Shared) (H : Hp) (A : Around) (C : Addr) (cd : Value) (fp : List Addr), Room k (A.deeper (genEnv sc (cloFrom X.env.cells sc.names []) C cd builtinsNs X.env)) → A.guards = X.A.guards → PE (inGen X s H A (genEnv sc (cloFrom X.env.cells sc.names []) C cd builtinsNs X.env) fp) elt te)
    (hs : ∀ v, genFold iter X.env v = pure v := by intro _; rfl) (hs1 : ∀ (env : Env) x, foldedSetIterable iter1 env x = pure x := by intro _ _; rfl) (hst : starEach [duo elt tg iter tg1 iter1 sc gpos] X.env = (false, eval (duo elt tg iter tg1 iter1 sc gpos) X.env) :: starEach [] X.env := by rfl) :
    PE X (.Call (.Name "any" p) [duo elt tg iter tg1 iter1 sc gpos] [] pos) (tGn2 P (own.map (·.2)) vs1 true wi g wi1 g1 te) := by
  refine ⟨fun pins s σ H Q I h => wpAny_Call_Name_kw (ld_blt I hgl hm boot_any (PyProof.Rows.callWith_builtin1 ?_ hst (by rfl)))⟩
  rw [hst]
  refine Calls.spliced_cons (gen_made2 hr hN TB hcode ok hi hs hs1 hv hg hi1 hg1 he I h fun a s5 ⟨Y, ao, gn, n, rfl1, rfl2, hao, rd, back⟩ => Calls.spliced_nil ?_)
  refine call_function_tree F.kind_any F.plain_any F.entry_any (F.args_any1 _) ?_
  unfold Builtin.«any»
  refine wpAny_bind (m := oneArg "any" _) (wpAny_pure ?_)
  obtain ⟨nm, qn, c1, c2, c3⟩ := id hao
  obtain ⟨⟨σ6, H6, I6⟩, _⟩ := id rd
  rw [← rfl1, ← rfl2]
  refine wpAny_bind (wpAny_pyIter_gen (g := gn) ⟨ao, nm, qn, (I6.pin (a, ao) (List.mem_append_right _ List.mem_cons_self)).1, c1, c2, c3⟩ ?_)
  refine wpAny_pure ⟨plainId_quiet F.plain_any_loop _, codeAny_mono (loop_any (A := X.A) hr.hd (by have := hr.dp; omega) List.mem_cons_self hao n s5 rd) fun r s' z => ?_⟩
  obtain ⟨b, σ7, H7, rfl, I7, q⟩ := z
  exact ⟨.bl b, H7, back _ _ _ I7, rfl, q⟩
end
end
/-- the inner walk -/
abbrev InG (J1 : It) (g1 : TG) (te : TE) (stop : Bool) (vs1 : List Nat) (σ2 : L2.St) (Q : VK) (B : Nat) (Dn : Hp → Prop) (H4 : Hp) : Prop :=
  ∃ W1 : Nat → Nat → Hp → Prop, (∃ k, k < B ∧ W1 0 k H4) ∧ ∀ j k G, W1 j k G → (J1.stop j G ∧ Dn G) ∨ (J1.go j G ∧ ∀ y G2, J1.yld j G y G2 →
    g1 y (wipe σ2 vs1) G2 fun σ3 H5 => wipe σ3 vs1 = wipe σ2 vs1 ∧ te σ3 H5 fun v H6 => ∃ b, v = .bl b ∧ if b = stop then Q (.bl stop) H6 else ∃ k', k' < k ∧ W1 (j + 1) k' H6)
theorem gi_it {J1 : It} {n : Nat} {G : Hp → Prop} {Yl : Nat → Hp → V → Hp → Prop} (w : Walk J1 n G Yl) {g1 : TG} {te : TE} {stop : Bool} {vs1 : List Nat} {σ2 : L2.St} {Q : VK} {B : Nat} {Dn : Hp → Prop} {H4 : Hp} (hn : n < B) (Pv : Nat → Hp → Prop) (h0 : Pv 0 H4) (hG : ∀ i H, i ≤ n → Pv i H → G H)
    (hs : ∀ j y H G2, j < n → Pv j H → Yl j H y G2 → g1 y (wipe σ2 vs1) G2 fun σ3 H5 => wipe σ3 vs1 = wipe σ2 vs1 ∧ te σ3 H5 fun v H6 => ∃ b, v = .bl b ∧ if b = stop then Q (.bl stop) H6 else Pv (j + 1) H6) (hd : ∀ H, Pv n H → Dn H) : InG J1 g1 te stop vs1 σ2 Q B Dn H4 := by
  refine ⟨fun j k H => k = n - j ∧ j ≤ n ∧ Pv j H, ⟨n, hn, rfl, Nat.zero_le _, h0⟩, ?_⟩
  rintro j k H ⟨rfl, hj, p⟩
  have q := hG j H hj p
  by_cases lt : j < n
  · refine .inr ⟨w.goes j H lt q, fun y G2 yl => ?_⟩
    have z := hs j y H G2 lt p (w.yields j H y G2 lt q yl)
    have e : (fun v H6 => ∃ b, v = V.bl b ∧ if b = stop then Q (.bl stop) H6 else ∃ k', k' < n - j ∧ k' = n - (j + 1) ∧ j + 1 ≤ n ∧ Pv (j + 1) H6) = fun v H6 => ∃ b, v = V.bl b ∧ if b = stop then Q (.bl stop) H6 else Pv (j + 1) H6 := by
      funext v H6
      refine congrArg (fun f : Bool → Prop => ∃ b, v = V.bl b ∧ f b) (funext fun b => ?_)
      split
      · rfl
      · exact propext ⟨fun ⟨_, _, _, _, z⟩ => z, fun z => ⟨n - (j + 1), by omega, rfl, lt, z⟩⟩
    rw [e]
    exact z
  · have e : j = n := by omega
    subst e
    exact .inl ⟨w.stops H q, hd H p⟩
/-- both walks; B: more than any inner walk has turns -/
theorem gn2_it {J : It} {n : Nat} {G : Hp → Prop} {Yl : Nat → Hp → V → Hp → Prop} (w : Walk J n G Yl) {P : Addr} {g g1 : TG} {wi1 : TI} {te : TE} {stop : Bool} {vs vs1 : List Nat} {σ : L2.St} {H1 : Hp} {Q : VK} (B : Nat) (Pv : Nat → Hp → Prop) (h0 : ∀ H2, Tabbed P H1 H2 → Pv 0 H2)
    (hG : ∀ i H, i ≤ n → Pv i H → G H)
    (hs : ∀ i x H H', i < n → Pv i H → Yl i H x H' → g x (wipe σ vs) H' fun σ2 H2 => wipe σ2 vs = wipe σ vs ∧ wi1 σ2 H2 fun J1 H4 => InG J1 g1 te stop vs1 σ2 Q B (Pv (i + 1)) H4)
    (hd : ∀ H, Pv n H → Q (.bl (!stop)) H) : ∃ (B : Nat) (W : Nat → Nat → Hp → Prop), (∀ H2, Tabbed P H1 H2 → ∃ m, W 0 m H2) ∧ Way2 J g wi1 g1 te stop vs vs1 σ Q B W := by
  refine ⟨B, fun i m H => m = n - i ∧ i ≤ n ∧ Pv i H, fun H2 t => ⟨n, by simp, Nat.zero_le _, h0 H2 t⟩, ⟨?_⟩⟩
  rintro i m H ⟨rfl, hi, p⟩
  have q := hG i H hi p
  by_cases hlt : i < n
  · refine .inr ⟨w.goes i H hlt q, by omega, fun x H' y => ?_⟩
    have e : (fun G => ∃ m', m' < n - i ∧ m' = n - (i + 1) ∧ i + 1 ≤ n ∧ Pv (i + 1) G) = Pv (i + 1) := funext fun G => propext ⟨fun ⟨_, _, _, _, z⟩ => z, fun z => ⟨n - (i + 1), by omega, rfl, hlt, z⟩⟩
    show g x (wipe σ vs) H' fun σ2 H3 => wipe σ2 vs = wipe σ vs ∧ wi1 σ2 H3 fun J1 H4 => InG J1 g1 te stop vs1 σ2 Q B (fun G => ∃ m', m' < n - i ∧ m' = n - (i + 1) ∧ i + 1 ≤ n ∧ Pv (i + 1) G) H4
    rw [e]
    exact hs i x H H' hlt p (w.yields i H x H' hlt q y)
  · have e : i = n := by omega
    subst e
    exact .inl ⟨w.stops H q, hd H p⟩
end GE
-- GT
/-! the law's own call under known guards, with the tables of the code objects that hold generator expressions -/
namespace LG
open PySem PySem.Spec PyProof.Rows L2
open GxR (TabB)
section
variable {P : Program} {w : World} {K : PySem.W.Frag} {mg mb : Str → Option Value} {k : Nat} {fa a : Addr} {fd : FuncData} {x : Str} {sp : Sp} {s₁ : Shared} {vs : List Value} {ns : List Int} {cs : List (Addr × Addr)}
/-- the abstract heap at the start: the script (if it is no written thing), the tables, nothing else -/
structure Begin (K : PySem.W.Frag) (cs : List (Addr × Addr)) (a : Addr) (H : Hp) : Prop where
  tab : ∀ p ∈ cs, H p.2 = some (.tbl #[])
  only : ∀ b u, H b = some u → (b ∈ cs.map (·.2) ∧ u = .tbl #[]) ∨ (b = a ∧ K.lookup a = none ∧ ∃ o xs, u = .frz o (.lst xs))
theorem enterT (KX : K.In s₁.heap) (gl : s₁.heap.Ns mainGlobals mg) (bl : s₁.heap.Ns builtinsNs mb) (bb : ∀ y : Str, y ≠ "__name__" → mb y = bootBuiltins y) (nl : s₁.heap.NoLimit) (g0 : s₁.gens = #[])
    (tb : ∀ p ∈ cs, s₁.heap.get? p.2 = some { cls := .none, data := .fields #[] }) (nk : ∀ p ∈ cs, K.lookup p.2 = none) (hd : ∀ p ∈ cs, PySem.W.CodeHd s₁.heap p.1 p.2)
    (bmn : ∃ (bm : Addr) (ob : Obj), mg "__builtins__" = some (.ref bm) ∧ bm ≠ builtinsNs ∧ s₁.heap.get? bm = some ob ∧ ob.cls = .type "module" ∧ ob.dict = some builtinsNs ∧ ob.data = .plain)
    (at_ : s₁.heap.get? a = some { cls := .type "list", data := .seq vs.toArray }) (room : Room k callerA) (bind : ∀ (s : Shared) (u : Value), BindsTo s fd ⟨[u], []⟩ [(x, u)])
    (F : ∀ base : Heap, K.In base → base.Ns mainGlobals mg → (∀ p ∈ cs, TabB base mg p.1 p.2) → FnG P w K mg base CX0 k fa fd [x] sp) {H : Hp} (bg : Begin K cs a H) (ok : HOk P w H s₁.heap)
    (want : sp [.ref a] H (fun v _ => v = .bl true) fun _ _ _ => False) :
    codeAny (model P w) callerA (.call (.ref fa) ⟨[.ref a], []⟩) (fun r s' => r = .ok (.ret (.bool true)) ∧ OldK s₁.heap s'.heap ∧ s'.os = s₁.os ∧ AllBare s'.gens) s₁ := by
  have tbm : ∀ b, b ∈ cs.map (·.2) → s₁.heap.get? b = some { cls := .none, data := .fields #[] } := fun b z => by
    obtain ⟨p, hp, rfl⟩ := List.mem_map.mp z
    exact tb p hp
  -- what is no list and no table is not told of
  have free : ∀ {b : Addr} {o : Obj}, s₁.heap.get? b = some o → (∀ it n, o.data ≠ .seq it n) → o.data ≠ .fields #[] → H b = none := fun {b o} z nd nf => by
    cases q : H b with
    | none => rfl
    | some u =>
      rcases bg.only b u q with ⟨m, _⟩ | ⟨rfl, _⟩
      · rw [tbm b m] at z
        cases z
        exact absurd rfl nf
      · rw [at_] at z
        cases z
        exact absurd rfl (nd vs.toArray _)
  have dic : ∀ {b : Addr} {o : Obj} {es : Array DictEntry} {ep : Nat}, s₁.heap.get? b = some o → o.data = .dict es ep → H b = none := fun {b o es ep} z d => free z (fun it n y => by rw [d] at y; exact nomatch y) fun y => by rw [d] at y; exact nomatch y
  have nsOf : ∀ {b : Addr} {m : Str → Option Value}, s₁.heap.Ns b m → (hidT s₁.heap H).Ns b m := fun {b m} ⟨o, es, ep, z, d, r⟩ => ⟨o, es, ep, hidT_get z (dic z d), d, r⟩
  have inB : K.In (hidT s₁.heap H) := fun b o z => by
    refine hidT_get (KX b o z) ?_
    cases q : H b with
    | none => rfl
    | some u =>
      rcases bg.only b u q with ⟨m, _⟩ | ⟨rfl, nl, _⟩
      · obtain ⟨p, hp, rfl⟩ := List.mem_map.mp m
        rw [nk p hp] at z
        cases z
      · rw [nl] at z
        cases z
  have md : Mod K mg (hidT s₁.heap H) := ⟨inB, nsOf gl, ⟨mb, nsOf bl, bb⟩, let ⟨mc, y1, y2⟩ := nl; ⟨mc, nsOf y1, y2⟩⟩
  have tabs : ∀ p ∈ cs, TabB (hidT s₁.heap H) mg p.1 p.2 := fun p hp => by
    have hP := tb p hp
    refine ⟨?_, ?_, fun z => ?_⟩
    · obtain ⟨o, us, f, tf, fl, tg, i, t, tt, z, c1, c2, c3, r⟩ := hd p hp
      refine ⟨o, us, f, tf, fl, tg, i, t, tt, hidT_get z (free z (fun it n y => by rw [c2] at y; exact nomatch y) fun y => ?_), c1, c2, c3, r⟩
      rw [c2] at y
      cases y
      simp at c3
    · obtain ⟨bm, ob, b1, b2, b3, b4, b5, b6⟩ := bmn
      refine ⟨bm, ob, b1, b2, fun z => ?_, fun z => ?_, hidT_get b3 (free b3 (fun it n y => by rw [b6] at y; exact nomatch y) fun y => by rw [b6] at y; exact nomatch y), b4, b5, b6⟩
      · obtain ⟨o, es, ep, e, d, _⟩ := gl
        rw [z, e] at b3
        cases b3
        rw [d] at b6
        exact nomatch b6
      · rw [z, hP] at b3
        cases b3
        exact nomatch b6
    · obtain ⟨o, es, ep, e, d, _⟩ := gl
      rw [z, hP] at e
      cases e
      exact nomatch d
  have en : Env0 P w K mg (hidT s₁.heap H) callerA [] s₁ H := ⟨rfl, md, fun b o z => of_hidT z, Nat.le_of_eq (hidT_size _ _), trivial, fun b z => absurd (show b ∈ ([] : List Addr) from z) (List.not_mem_nil), ok, .of_eq g0⟩
  refine codeAny_mono ((F _ inB (nsOf gl) tabs).run callerA [] s₁ H ⟨[.ref a], []⟩ [.ref a] [.ref a] _ _ room rfl en (bind s₁ (.ref a)) (.cons rfl .nil) want) fun r s' h => ?_
  cases r with
  | error e => exact False.elim h
  | ok fl =>
    cases fl with
    | next => exact False.elim h
    | brk => exact False.elim h
    | cont => exact False.elim h
    | ret u =>
      obtain ⟨v, G, e1, e2, un, okG, rel, q⟩ := h
      obtain rfl : v = V.bl true := q
      obtain rfl : u = Value.bool true := rel
      -- a table may have grown, all else stands
      have grow : ∀ p ∈ cs, ∃ more : Array Value, s'.heap.get? p.2 = some { cls := .none, data := .fields more } := fun p hp => by
        obtain ⟨more, z⟩ := un.tbls p.2 #[] (bg.tab p hp)
        exact ⟨_, okG p.2 _ z⟩
      have stay : ∀ b o, b ∉ cs.map (·.2) → s₁.heap.get? b = some o → s'.heap.get? b = some o := fun b o nb z => by
        cases q : H b with
        | none => exact un.keep b o z q (fun y => nomatch y) (fun y => nomatch y)
        | some u =>
          rcases bg.only b u q with ⟨m, _⟩ | ⟨_, _, ob, xs, rfl⟩
          · exact absurd m nb
          · have z1 := (ok b _ q).1
            have z2 := (okG b _ (un.frzs b ob _ q)).1
            rw [z] at z1
            cases z1
            exact z2
      refine ⟨rfl, ⟨fun b o z => ?_, fun b o z => ?_⟩, e1, e2⟩
      · by_cases m : b ∈ cs.map (·.2)
        · obtain ⟨p, hp, rfl⟩ := List.mem_map.mp m
          obtain ⟨more, hm⟩ := grow p hp
          rw [tb p hp] at z
          cases z
          exact .inr (.inl ⟨((hd p hp).tab (tb p hp)).isCodeTable, rfl, #[], more, rfl, by rw [Array.empty_append]; exact hm⟩)
        · exact .inl (stay b o m z)
      · by_cases m : b ∈ cs.map (·.2)
        · obtain ⟨p, hp, rfl⟩ := List.mem_map.mp m
          obtain ⟨more, hm⟩ := grow p hp
          exact ⟨_, hm⟩
        · exact ⟨o, stay b o m z⟩
theorem enterT_all (KX : K.In s₁.heap) (gl : s₁.heap.Ns mainGlobals mg) (bl : s₁.heap.Ns builtinsNs mb) (bb : ∀ y : Str, y ≠ "__name__" → mb y = bootBuiltins y) (nl : s₁.heap.NoLimit) (g0 : s₁.gens = #[])
    (tb : ∀ p ∈ cs, s₁.heap.get? p.2 = some { cls := .none, data := .fields #[] }) (nk : ∀ p ∈ cs, K.lookup p.2 = none) (hd : ∀ p ∈ cs, PySem.W.CodeHd s₁.heap p.1 p.2)
    (bmn : ∃ (bm : Addr) (ob : Obj), mg "__builtins__" = some (.ref bm) ∧ bm ≠ builtinsNs ∧ s₁.heap.get? bm = some ob ∧ ob.cls = .type "module" ∧ ob.dict = some builtinsNs ∧ ob.data = .plain)
    (at_ : s₁.heap.get? a = some { cls := .type "list", data := .seq vs.toArray }) (ia : IntsAre vs ns) (small : ns.length ≤ sizeLine) (room : Room k callerA) (bind : ∀ (s : Shared) (u : Value), BindsTo s fd ⟨[u], []⟩ [(x, u)])
    (F : ∀ base : Heap, K.In base → base.Ns mainGlobals mg → (∀ p ∈ cs, TabB base mg p.1 p.2) → FnG P w K mg base CX0 k fa fd [x] sp)
    (want : ∀ H : Hp, (∀ p ∈ cs, H p.2 = some (.tbl #[])) → SqL K H a (ns.map V.int) → sp [.ref a] H (fun v _ => v = .bl true) fun _ _ _ => False) :
    codeAny (model P w) callerA (.call (.ref fa) ⟨[.ref a], []⟩) (fun r s' => r = .ok (.ret (.bool true)) ∧ OldK s₁.heap s'.heap ∧ s'.os = s₁.os ∧ AllBare s'.gens) s₁ := by
  have rel := vals_ints ia
  have len := ia.length
  have tbm : ∀ b, b ∈ cs.map (·.2) → s₁.heap.get? b = some { cls := .none, data := .fields #[] } := fun b z => by
    obtain ⟨p, hp, rfl⟩ := List.mem_map.mp z
    exact tb p hp
  have an : a ∉ cs.map (·.2) := fun z => by
    have e := tbm a z
    rw [at_] at e
    exact nomatch congrArg Obj.data (Option.some.inj e)
  have mem : ∀ p ∈ cs, p.2 ∈ cs.map (·.2) := fun p hp => List.mem_map.mpr ⟨p, hp, rfl⟩
  cases hk : K.lookup a with
  | some o =>
    have z := KX a o hk
    rw [at_] at z
    cases z
    let H : Hp := fun b => if b ∈ cs.map (·.2) then some (.tbl #[]) else none
    have e1 : ∀ b, b ∈ cs.map (·.2) → H b = some (.tbl #[]) := fun b m => if_pos m
    have e2 : ∀ b u, H b = some u → b ∈ cs.map (·.2) ∧ u = .tbl #[] := fun b u z => by
      by_cases m : b ∈ cs.map (·.2)
      · rw [e1 b m] at z
        cases z
        exact ⟨m, rfl⟩
      · rw [show H b = none from if_neg m] at z
        cases z
    refine enterT KX gl bl bb nl g0 tb nk hd bmn at_ room bind F (H := H) ⟨fun p hp => e1 _ (mem p hp), fun b u z => .inl (e2 b u z)⟩ (fun b u z => ?_)
      (want H (fun p hp => e1 _ (mem p hp)) (.inr ⟨_, vs.toArray, _, hk, rfl, rfl, rfl, by rw [List.size_toArray, len]; exact small, by simpa using rel⟩))
    obtain ⟨m, rfl⟩ := e2 b u z
    exact tbm b m
  | none =>
    let ob : Obj := { cls := .type "list", data := .seq vs.toArray }
    let H : Hp := fun b => if b = a then some (.frz ob (.lst (ns.map V.int))) else if b ∈ cs.map (·.2) then some (.tbl #[]) else none
    have hit : H a = some (.frz ob (.lst (ns.map V.int))) := if_pos rfl
    have e1 : ∀ b, b ∈ cs.map (·.2) → H b = some (.tbl #[]) := fun b m => (if_neg (fun z => an (by rw [← z]; exact m))).trans (if_pos m)
    have e2 : ∀ b u, H b = some u → (b ∈ cs.map (·.2) ∧ u = .tbl #[]) ∨ (b = a ∧ u = .frz ob (.lst (ns.map V.int))) := fun b u z => by
      by_cases i : b = a
      · rw [i, hit] at z
        cases z
        exact .inr ⟨i, rfl⟩
      · by_cases m : b ∈ cs.map (·.2)
        · rw [e1 b m] at z
          cases z
          exact .inl ⟨m, rfl⟩
        · rw [show H b = none from (if_neg i).trans (if_neg m)] at z
          cases z
    refine enterT KX gl bl bb nl g0 tb nk hd bmn at_ room bind F (H := H) ⟨fun p hp => e1 _ (mem p hp), fun b u z => (e2 b u z).imp id fun ⟨i, e⟩ => ⟨i, hk, ob, _, e⟩⟩ (fun b u z => ?_) (want H (fun p hp => e1 _ (mem p hp)) (.inl (.inr ⟨ob, hit⟩)))
    rcases e2 b u z with ⟨m, rfl⟩ | ⟨rfl, rfl⟩
    · exact tbm b m
    · exact ⟨at_, by rw [List.length_map]; exact small, vs, _, rel, at_⟩
end
/-- a def of the text whose code object's table is empty at the law's start -/
def Bare (mg : Str → Option Value) (h : Heap) (nm : Str) : Prop := ∃ (a c P : Addr) (o : Obj) (fd : FuncData), mg nm = some (.ref a) ∧ h.get? a = some o ∧ o.data = .func fd ∧ fd.code = .ref c ∧ PySem.W.CodeHd h c P ∧ h.get? P = some { cls := .none, data := .fields #[] }
/-- what k_head leaves, from the law's promise; nms: the defs that hold generator expressions -/
theorem walkGT {l : PySem.W.OpenLaw} {n k : Nat} {q : Program} {loose : List Str} {XP : (Str → Option Value) → Heap → Prop} {YP : World → Heap → Prop} {d : DefRec} {K : Params → PySem.W.Frag} {x : Str} (nms : List Str)
    (hn : l.most = some n) (hz : n ≤ sizeLine) (hdf : d.params.defaults = []) (room : Room k callerA) (hrec : (nms.all fun nm => (recsOf q).any fun e => e.name == nm) = true) (hY : ∀ (w : World) (h : Heap), YP w h → (K w.params).In h)
    (F : ∀ (w : World) (mg : Str → Option Value) (fa : Addr) (h : Heap), (K w.params).In h → h.Ns mainGlobals mg → mg d.name = some (.ref fa) → (∀ nm ∈ nms, Bare mg h nm) →
      ∃ (fd : FuncData) (cs : List (Addr × Addr)) (sp : Sp), (∀ p ∈ cs, h.get? p.2 = some { cls := .none, data := .fields #[] }) ∧ (∀ p ∈ cs, (K w.params).lookup p.2 = none) ∧ (∀ p ∈ cs, PySem.W.CodeHd h p.1 p.2) ∧ (∀ (s : Shared) (u : Value), BindsTo s fd ⟨[u], []⟩ [(x, u)]) ∧
        (∀ (H : Hp) (a : Addr) (ns : List Int), ns.length ≤ n → (∀ p ∈ cs, H p.2 = some (.tbl #[])) → SqL (K w.params) H a (ns.map V.int) → sp [.ref a] H (fun v _ => v = .bl true) fun _ _ _ => False) ∧
        ∀ base : Heap, (K w.params).In base → base.Ns mainGlobals mg → (∀ p ∈ cs, TabB base mg p.1 p.2) → FnG l.prog w (K w.params) mg base CX0 k fa fd [x] sp) :
    PySem.W.WalkO q loose XP YP l.row.toRowW d [] (fun f vs => PySem.call f vs) := by
  refine Att.attach_call hn hdf fun w s0 s1 mg mb fa o pm cd doc a vs ns G Y ho hd hcd hmg hobj ia len g0 => ?_
  obtain ⟨fd, cs, sp, t1, t2, t3, bi, wt, FF⟩ := F w mg fa _ (hY w _ Y) G.T.g hmg fun nm hnm => by
    obtain ⟨e, he, en⟩ := List.any_eq_true.mp (List.all_eq_true.mp hrec nm hnm)
    obtain ⟨b, o2, fd2, c2, P2, h1, h2, h3, h4, h5, h6⟩ := G.T.tab e he
    rw [beq_iff_eq.mp en] at h1
    exact ⟨b, c2, P2, o2, fd2, h1, h2, h3, h4, PySem.W.CodeHd.of h5 h6, h6.2⟩
  exact enterT_all (hY w _ Y) G.T.g G.T.b G.T.builtins G.T.nolimit g0 t1 t2 t3 G.T.bmain hobj ia (Nat.le_trans len hz) room bi FF fun H ht hs => wt H a ns len ht hs
end LG
-- M5
/-! names: words between dots -/
namespace K05
open PySem PySem.Spec PyProof.Rows L2 TL
def ltr (c : Nat) : Bool := decide (97 ≤ c) && decide (c ≤ 122)
def sgn (c : Nat) : Bool := ltr c || (decide (48 ≤ c) && decide (c ≤ 57))
theorem ltr_sgn {c : Nat} (h : ltr c = true) : sgn c = true := by unfold sgn; rw [h]; rfl
theorem in_letters (c : Nat) : decide (c ∈ ("abcdefghijklmnopqrstuvwxyz" : Str).cps.toList) = ltr c := by
  rw [show ("abcdefghijklmnopqrstuvwxyz" : Str).cps.toList = (List.range 26).map (· + 97) by decide +kernel]
  unfold ltr
  rw [Bool.eq_iff_iff, decide_eq_true_eq, Bool.and_eq_true, decide_eq_true_eq, decide_eq_true_eq, List.mem_map]
  constructor
  · rintro ⟨i, h, rfl⟩
    have := List.mem_range.mp h
    omega
  · intro h
    exact ⟨c - 97, List.mem_range.mpr (by omega), by omega⟩
theorem in_signs (c : Nat) : decide (c ∈ ("abcdefghijklmnopqrstuvwxyz0123456789" : Str).cps.toList) = sgn c := by
  rw [show ("abcdefghijklmnopqrstuvwxyz0123456789" : Str).cps.toList = (List.range 26).map (· + 97) ++ (List.range 10).map (· + 48) by decide +kernel]
  unfold sgn ltr
  rw [Bool.eq_iff_iff, decide_eq_true_eq, Bool.or_eq_true, Bool.and_eq_true, Bool.and_eq_true, decide_eq_true_eq, decide_eq_true_eq, decide_eq_true_eq, decide_eq_true_eq, List.mem_append, List.mem_map, List.mem_map]
  constructor
  · rintro (⟨i, h, rfl⟩ | ⟨i, h, rfl⟩)
    · have := List.mem_range.mp h
      exact .inl (by omega)
    · have := List.mem_range.mp h
      exact .inr (by omega)
  · rintro (h | h)
    · exact .inl ⟨c - 97, List.mem_range.mpr (by omega), by omega⟩
    · exact .inr ⟨c - 48, List.mem_range.mpr (by omega), by omega⟩
theorem in_signs_dot (c : Nat) : decide (c ∈ ("abcdefghijklmnopqrstuvwxyz0123456789." : Str).cps.toList) = (sgn c || decide (c = 46)) := by
  rw [show ("abcdefghijklmnopqrstuvwxyz0123456789." : Str).cps.toList = ("abcdefghijklmnopqrstuvwxyz0123456789" : Str).cps.toList ++ [46] by decide +kernel, ← in_signs c]
  rw [Bool.eq_iff_iff, decide_eq_true_eq, Bool.or_eq_true, decide_eq_true_eq, decide_eq_true_eq, List.mem_append, List.mem_singleton]
/-- a word of a name -/
def wd : List Nat → Bool
  | [] => false
  | c :: r => ltr c && (c :: r).all sgn
/-- read from the left; d: a dot stands before -/
def aut : Bool → List Nat → Bool
  | d, [] => !d
  | d, c :: r => if ((d && !ltr c) || !(sgn c || decide (c = 46))) = true then false else aut (decide (c = 46)) r
theorem dot_no : ltr 46 = false ∧ sgn 46 = false := by decide
theorem wd_snoc {c : Nat} : ∀ {acc : List Nat}, acc ≠ [] → wd (acc ++ [c]) = (wd acc && sgn c)
  | [], h => absurd rfl h
  | a :: r, _ => by
    show (ltr a && ((a :: r) ++ [c]).all sgn) = ((ltr a && (a :: r).all sgn) && sgn c)
    rw [List.all_append, List.all_cons (l := []), List.all_nil, Bool.and_true, Bool.and_assoc]
theorem aut_step {d : Bool} {c : Nat} {r : List Nat} : aut d (c :: r) = if ((d && !ltr c) || !(sgn c || decide (c = 46))) = true then false else aut (decide (c = 46)) r := rfl
theorem spl_aut : ∀ (l acc : List Nat), (spl [46] 0 acc l).all wd = if acc = [] then aut true l else wd acc && aut false l
  | [], acc => by
    rw [spl_nil, List.all_cons, List.all_nil, Bool.and_true]
    by_cases h : acc = []
    · rw [if_pos h, h]; rfl
    · rw [if_neg h, show aut false [] = true from rfl, Bool.and_true]
  | c :: r, acc => by
    by_cases hc : c = 46
    · subst hc
      rw [spl_hit (show pre [46] (46 :: r) = true from by simp [pre]), List.all_cons]
      rw [show ([46] : List Nat).length - 1 = 0 from rfl, spl_aut r [], if_pos rfl, aut_step, aut_step, dot_no.1, dot_no.2]
      by_cases h : acc = []
      · rw [if_pos h, h]; rfl
      · rw [if_neg h]; simp
    · have e46 : decide (c = 46) = false := decide_eq_false hc
      rw [spl_miss (pre_of_head [] r hc), spl_aut r (acc ++ [c]), if_neg (by simp), aut_step, aut_step, e46]
      by_cases h : acc = []
      · rw [if_pos h, h]
        show ((ltr c && (sgn c && true)) && aut false r) = _
        cases hl : ltr c with
        | true => rw [ltr_sgn hl]; simp
        | false => simp
      · rw [if_neg h, wd_snoc h]
        cases hs : sgn c <;> simp
theorem split_aut (s : Str) : (Txt.split s ".").all (fun w => wd (tl w)) = aut true (tl s) := by
  have e := split_spl s "." (by decide +kernel) (kind_ok (by decide +kernel))
  have e2 : (Txt.split s ".").all (fun w => wd (tl w)) = ((Txt.split s ".").map tl).all wd := by rw [List.all_map]; rfl
  rw [e2, e, show tl (".": Str) = [46] by decide +kernel, spl_aut, if_pos rfl]
/-- a name -/
def NM (s : Str) : Prop := 1 ≤ s.length ∧ s.length ≤ 200 ∧ aut true (tl s) = true
theorem aut_last {d : Bool} : ∀ {l : List Nat}, l ≠ [] → aut d l = true → aut true l = true ∨ d = false
  | [], h, _ => absurd rfl h
  | c :: r, _, h => by cases d with
    | false => exact .inr rfl
    | true => exact .inl h
/-- a word, then the rest -/
theorem aut_word {r : List Nat} : ∀ {w : List Nat}, w.all sgn = true → aut false (w ++ r) = aut false r
  | [], _ => rfl
  | c :: w, h => by
    rw [List.all_cons, Bool.and_eq_true] at h
    have nc : decide (c = 46) = false := decide_eq_false fun z => by rw [z, dot_no.2] at h; exact Bool.false_ne_true h.1
    rw [List.cons_append, aut_step, h.1, nc]
    simp only [Bool.false_and, Bool.true_or, Bool.not_true, Bool.or_self, Bool.false_eq_true, if_false]
    exact aut_word h.2
theorem aut_head {c : Nat} {w r : List Nat} (hc : ltr c = true) (hw : w.all sgn = true) : aut true (c :: (w ++ r)) = aut false r := by
  have nc : decide (c = 46) = false := decide_eq_false fun z => by rw [z, dot_no.1] at hc; exact Bool.false_ne_true hc
  rw [aut_step, ltr_sgn hc, hc, nc]
  simp only [Bool.not_true, Bool.and_false, Bool.true_or, Bool.or_self, Bool.false_eq_true, if_false]
  exact aut_word hw
theorem aut_dot {r : List Nat} : aut false (46 :: r) = aut true r := by
  rw [aut_step]; simp
end K05
-- N5
/-! the drawn names -/
namespace K05
open PySem PySem.Spec PyProof.Rows L2 TL
def txt (n : Nat) : Str := (toString ((n : Nat) : Int) : Str)
def szN (n t : Nat) : Str := ("s" : Str) ++ txt n ++ ("." : Str) ++ (⟨#[97]⟩ : Str) ++ txt t
def lgN (b : Bool) (t : Nat) : Str := ("long" : Str) ++ txt t ++ Txt.mul ("z" : Str) (190 * (if b = true then (1 : Int) else 0))
def zqN (t : Nat) : Str := ("zq" : Str) ++ txt t
/-- the digits of a text, read as one number -/
def dval (l : List Nat) : Nat := l.foldl (fun a c => if 48 ≤ c ∧ c ≤ 57 then a * 10 + (c - 48) else a) 0
/-- what stands behind the first dot -/
def adot (l : List Nat) : List Nat := (l.dropWhile fun c => decide (c ≠ 46)).drop 1
def nmB (s : Str) : Bool := decide (1 ≤ s.length) && decide (s.length ≤ 200) && aut true (tl s)
theorem nmB_iff {s : Str} : nmB s = true ↔ NM s := by
  unfold nmB NM
  rw [Bool.and_eq_true, Bool.and_eq_true, decide_eq_true_eq, decide_eq_true_eq, and_assoc]
def okSz (n t : Nat) : Bool := nmB (szN n t) && decide (dval (tl (szN n t)) = 10 * n + t) && decide (adot (tl (szN n t)) = [97, 48 + t]) && decide ((tl (szN n t))[1]? ≠ some 111)
theorem sz_all : ∀ (n : Fin 41) (t : Fin 8), okSz n.val t.val = true := by decide +kernel
def okLg (b : Bool) (t : Nat) : Bool := nmB (lgN b t) && decide (dval (tl (lgN b t)) = t) && decide (adot (tl (lgN b t)) = []) && decide ((tl (lgN b t))[1]? = some 111)
theorem lg_all : ∀ (b : Bool) (t : Fin 121), okLg b t.val = true := by decide +kernel
def okZq (t : Nat) : Bool := nmB (zqN t) && decide (dval (tl (zqN t)) = t) && decide (adot (tl (zqN t)) = []) && decide ((tl (zqN t))[1]? = some 113)
theorem zq_all : ∀ t : Fin 41, okZq t.val = true := by decide +kernel
structure SzF (n t : Nat) : Prop where
  nm : NM (szN n t)
  val : dval (tl (szN n t)) = 10 * n + t
  dot : adot (tl (szN n t)) = [97, 48 + t]
  two : (tl (szN n t))[1]? ≠ some 111
theorem sz_f {n t : Nat} (hn : n < 41) (ht : t < 8) : SzF n t := by
  have h := sz_all ⟨n, hn⟩ ⟨t, ht⟩
  unfold okSz at h
  simp only [Bool.and_eq_true, decide_eq_true_eq] at h
  exact ⟨nmB_iff.mp h.1.1.1, h.1.1.2, h.1.2, h.2⟩
structure LgF (b : Bool) (t : Nat) : Prop where
  nm : NM (lgN b t)
  val : dval (tl (lgN b t)) = t
  dot : adot (tl (lgN b t)) = []
  two : (tl (lgN b t))[1]? = some 111
theorem lg_f {b : Bool} {t : Nat} (ht : t < 121) : LgF b t := by
  have h := lg_all b ⟨t, ht⟩
  unfold okLg at h
  simp only [Bool.and_eq_true, decide_eq_true_eq] at h
  exact ⟨nmB_iff.mp h.1.1.1, h.1.1.2, h.1.2, h.2⟩
structure ZqF (t : Nat) : Prop where
  nm : NM (zqN t)
  val : dval (tl (zqN t)) = t
  dot : adot (tl (zqN t)) = []
  two : (tl (zqN t))[1]? = some 113
theorem zq_f {t : Nat} (ht : t < 41) : ZqF t := by
  have h := zq_all ⟨t, ht⟩
  unfold okZq at h
  simp only [Bool.and_eq_true, decide_eq_true_eq] at h
  exact ⟨nmB_iff.mp h.1.1.1, h.1.1.2, h.1.2, h.2⟩
/-- a quantity's name, as far as it is to differ from sizes -/
structure QN (s : Str) : Prop where
  nm : NM s
  two : (tl s)[1]? ≠ some 111
  dot : ∀ t, t < 8 → adot (tl s) ≠ [97, 48 + t]
theorem zq_qn {t : Nat} (ht : t < 41) : QN (zqN t) := by
  have f := zq_f ht
  exact ⟨f.nm, by rw [f.two]; decide, fun u _ z => by rw [f.dot] at z; cases z⟩
/-! what _law_name draws: a letter, up to two equal signs, then nothing or a dot and a letter, then z up to 200 signs -/
/-- the signs: x1, k times x2, D, m times z -/
def drawn (x1 x2 k : Nat) (D : List Nat) (m : Nat) : List Nat := x1 :: (List.replicate k x2 ++ (D ++ List.replicate m 122))
def x2ok (c : Nat) : Bool := (decide (48 ≤ c) && decide (c ≤ 57)) || c == 97 || c == 98
theorem x2_sgn {c : Nat} (h : x2ok c = true) : sgn c = true ∧ c ≠ 46 ∧ c ≠ 111 ∧ c ≠ 113 := by
  unfold x2ok at h
  unfold sgn ltr
  simp only [Bool.or_eq_true, Bool.and_eq_true, decide_eq_true_eq, beq_iff_eq] at h ⊢
  omega
theorem rep_sgn {c k : Nat} (h : sgn c = true) : (List.replicate k c).all sgn = true := by
  rw [List.all_eq_true]
  intro x hx
  rw [List.eq_of_mem_replicate hx]
  exact h
theorem adot_pass {c : Nat} {r : List Nat} (h : c ≠ 46) : adot (c :: r) = adot r := by
  unfold adot
  rw [List.dropWhile_cons, if_pos (decide_eq_true h)]
theorem adot_rep {c : Nat} {r : List Nat} (h : c ≠ 46) : ∀ k : Nat, adot (List.replicate k c ++ r) = adot r
  | 0 => rfl
  | k + 1 => by
    rw [List.replicate_succ, List.cons_append, adot_pass h, adot_rep h k]
theorem ltr_ne {c : Nat} (h : ltr c = true) : c ≠ 46 := fun z => by rw [z, dot_no.1] at h; exact Bool.false_ne_true h
theorem drawn_aut {x1 x2 k m : Nat} {D : List Nat} (h1 : ltr x1 = true) (h2 : x2ok x2 = true) (hD : D = [] ∨ ∃ x3, ltr x3 = true ∧ D = [46, x3]) : aut true (drawn x1 x2 k D m) = true := by
  unfold drawn
  have z : (List.replicate m 122).all sgn = true := rep_sgn (by decide)
  rw [aut_head h1 (rep_sgn (x2_sgn h2).1)]
  rcases hD with rfl | ⟨x3, h3, rfl⟩
  · have := aut_word (r := []) z
    rw [List.append_nil] at this
    rw [List.nil_append, this]; rfl
  · rw [show ([46, x3] ++ List.replicate m 122 : List Nat) = 46 :: (x3 :: (List.replicate m 122 ++ [])) by simp, aut_dot, aut_head h3 z]
    rfl
theorem drawn_two {x1 x2 k m : Nat} {D : List Nat} (h2 : x2ok x2 = true) (hD : D = [] ∨ ∃ x3, ltr x3 = true ∧ D = [46, x3]) : (drawn x1 x2 k D m)[1]? ≠ some 111 ∧ (drawn x1 x2 k D m)[1]? ≠ some 113 := by
  unfold drawn
  rw [List.getElem?_cons_succ]
  obtain ⟨_, _, n1, n2⟩ := x2_sgn h2
  cases k with
  | succ k =>
    rw [List.replicate_succ, List.cons_append, List.getElem?_cons_zero]
    exact ⟨fun z => n1 (Option.some.inj z), fun z => n2 (Option.some.inj z)⟩
  | zero =>
    rcases hD with rfl | ⟨x3, h3, rfl⟩
    · cases m with
      | zero => exact ⟨by simp, by simp⟩
      | succ m => exact ⟨by simp [List.replicate_succ], by simp [List.replicate_succ]⟩
    · exact ⟨by simp, by simp⟩
theorem drawn_dot {x1 x2 k m : Nat} {D : List Nat} (h1 : ltr x1 = true) (h2 : x2ok x2 = true) (hD : D = [] ∨ ∃ x3, ltr x3 = true ∧ D = [46, x3]) {t : Nat} (ht : t < 8) : adot (drawn x1 x2 k D m) ≠ [97, 48 + t] := by
  unfold drawn
  rw [adot_pass (ltr_ne h1), adot_rep (x2_sgn h2).2.1]
  rcases hD with rfl | ⟨x3, h3, rfl⟩
  · have := adot_rep (r := []) (show (122 : Nat) ≠ 46 by decide) m
    rw [List.append_nil] at this
    rw [List.nil_append, this]
    intro z
    cases z
  · rw [show adot ([46, x3] ++ List.replicate m 122) = x3 :: List.replicate m 122 from rfl]
    intro z
    injection z with _ z
    cases m with
    | zero => cases z
    | succ m =>
      rw [List.replicate_succ] at z
      injection z with z _
      omega
theorem drawn_qn {s : Str} {x1 x2 k m : Nat} {D : List Nat} (e : tl s = drawn x1 x2 k D m) (h1 : ltr x1 = true) (h2 : x2ok x2 = true) (hD : D = [] ∨ ∃ x3, ltr x3 = true ∧ D = [46, x3]) (hl : s.length ≤ 200) : QN s ∧ (tl s)[1]? ≠ some 113 := by
  refine ⟨⟨⟨?_, hl, ?_⟩, ?_, fun t ht => ?_⟩, ?_⟩
  · rw [len_tl, e]
    unfold drawn
    rw [List.length_cons]
    omega
  · rw [e]
    exact drawn_aut h1 h2 hD
  · rw [e]
    exact (drawn_two h2 hD).1
  · rw [e]
    exact drawn_dot h1 h2 hD ht
  · rw [e]
    exact (drawn_two h2 hD).2
end K05
-- DD
/-! {k: v for x in xs .. for y in ys ..} -/
namespace LD
open PySem PySem.Spec PyProof.Rows L2
section
variable {prog : Program} {w : World} {A : Around} {R : Result → Shared → Prop} {s : Shared} {kx vx t0 i0 t1 i1 : Expr} {ifs0 ifs1 : List Expr} {scope : Scope} {pos : Pos} {it : Value} {D : Addr} {env : Env}
/-- the expression -/
abbrev two (kx vx t0 i0 t1 i1 : Expr) (ifs0 ifs1 : List Expr) (scope : Scope) (pos : Pos) : Expr := .DictComp kx vx [⟨t0, i0, ifs0, 0⟩, ⟨t1, i1, ifs1, 0⟩] scope pos
/-- the tests of a clause -/
abbrev tests (ifs : List Expr) (env : Env) : Sem Bool := forIn ifs true fun c r => if r = true then do
  let ok ← PySem.isTrue c env (eval c env)
  pure (ForInStep.yield ok) else pure (ForInStep.yield r)
theorem mn {α : Type} {M : Model} {m : Sem α} {Q Q' : α → Shared → Prop} {E : Value → Shared → Prop} (h : wpAny M A m Q E s) (f : ∀ a s, Q a s → Q' a s) : wpAny M A m Q' E s := wpAny_mono h f fun _ _ z => z
/-- the inner clause's turns -/
theorem inner (I : Nat → Shared → Prop) (turn : ∀ n s, I n s → wpAny (model prog w) A (pyNext it) (fun r s1 => match r with
      | none => R (.ok .next) s1
      | some v => wpAny (model prog w) A (letOwnedTupleGo t1 it v) (fun _ s1' => wpAny (model prog w) A (assign t1 env v) (fun _ s2 => wpAny (model prog w) A (tests ifs1 env) (fun ok s3 =>
          if ok = true then wpAny (model prog w) A (eval kx env) (fun kv s4 => wpAny (model prog w) A (eval vx env) (fun vv s5 => wpAny (model prog w) A (dictSet D kv vv) (fun _ s6 => ∃ m, m < n ∧ I m s6)
            (notedBy (model prog w) A env fun e s' => R (.error e) s') s5) (notedBy (model prog w) A env fun e s' => R (.error e) s') s4) (notedBy (model prog w) A env fun e s' => R (.error e) s') s3 else ∃ m, m < n ∧ I m s3)
          (notedBy (model prog w) A env fun e s' => R (.error e) s') s2) (notedBy (model prog w) A env fun e s' => R (.error e) s') s1') (notedBy (model prog w) A env fun e s' => R (.error e) s') s1)
      (notedBy (model prog w) A env fun e s' => R (.error e) s') s) (n : Nat) (h : I n s) :
    codeAny (model prog w) A (.compLoop (two kx vx t0 i0 t1 i1 ifs0 ifs1 scope pos) 1 it (.ref D) env) R s := by
  refine codeAny_loop rfl I (fun n s hI => ?_) n h
  refine wpAny_noted ?_
  show wpAny (model prog w) A (compTurn (two kx vx t0 i0 t1 i1 ifs0 ifs1 scope pos) 1 it (.ref D) env) _ _ s
  unfold compTurn
  refine wpAny_bind (wpAny_standAt (wpAny_bind (mn (turn n s hI) fun r s1 h1 => ?_)))
  cases r with
  | none => exact wpAny_pure h1
  | some v =>
    refine wpAny_bind (mn h1 fun _ s1' h1' => wpAny_bind (mn h1' fun _ s2 h2 => wpAny_bind (mn h2 fun ok s3 h3 => ?_)))
    cases ok with
    | false => exact wpAny_pure ⟨rfl, h3⟩
    | true =>
      refine wpAny_bind (wpAny_bind (mn h3 fun kv s4 h4 => wpAny_bind (wpAny_holding (mn h4 fun vv s5 h5 => ?_))))
      refine wpAny_bind (wpAny_standAt (wpAny_holding (mn h5 fun _ s6 h6 => wpAny_pure ⟨rfl, h6⟩)))
/-- the outer clause's turns -/
theorem outer (hs : ∀ x, foldedSetIterable i1 env x = pure x) (I : Nat → Shared → Prop) (turn : ∀ n s, I n s → wpAny (model prog w) A (pyNext it) (fun r s1 => match r with
      | none => R (.ok .next) s1
      | some v => wpAny (model prog w) A (letOwnedTupleGo t0 it v) (fun _ s1' => wpAny (model prog w) A (assign t0 env v) (fun _ s2 => wpAny (model prog w) A (tests ifs0 env) (fun ok s3 =>
          if ok = true then wpAny (model prog w) A (eval i1 env) (fun x s4 => wpAny (model prog w) A (pyIter x) (fun it1 s5 =>
            codeAny (model prog w) A (.compStart (two kx vx t0 i0 t1 i1 ifs0 ifs1 scope pos) 1 it1 (.ref D) env) (fun r s' => match r with
              | .ok _ => ∃ m, m < n ∧ I m s'
              | .error _ => False) s5)
            (notedBy (model prog w) A env fun e s' => R (.error e) s') s4) (notedBy (model prog w) A env fun e s' => R (.error e) s') s3 else ∃ m, m < n ∧ I m s3)
          (notedBy (model prog w) A env fun e s' => R (.error e) s') s2) (notedBy (model prog w) A env fun e s' => R (.error e) s') s1') (notedBy (model prog w) A env fun e s' => R (.error e) s') s1)
      (notedBy (model prog w) A env fun e s' => R (.error e) s') s) (n : Nat) (h : I n s) :
    codeAny (model prog w) A (.compLoop (two kx vx t0 i0 t1 i1 ifs0 ifs1 scope pos) 0 it (.ref D) env) R s := by
  refine codeAny_loop rfl I (fun n s hI => ?_) n h
  refine wpAny_noted ?_
  show wpAny (model prog w) A (compTurn (two kx vx t0 i0 t1 i1 ifs0 ifs1 scope pos) 0 it (.ref D) env) _ _ s
  unfold compTurn
  refine wpAny_bind (wpAny_standAt (wpAny_bind (mn (turn n s hI) fun r s1 h1 => ?_)))
  cases r with
  | none => exact wpAny_pure h1
  | some v =>
    refine wpAny_bind (mn h1 fun _ s1' h1' => wpAny_bind (mn h1' fun _ s2 h2 => wpAny_bind (mn h2 fun ok s3 h3 => ?_)))
    cases ok with
    | false => exact wpAny_pure ⟨rfl, h3⟩
    | true =>
      refine wpAny_bind (mn h3 fun x s4 h4 => wpAny_bind (wpAny_standAt ?_))
      refine wpAny_bind (wpAny_of_eq (hs x) (wpAny_bind (wpAny_holding (mn h4 fun it1 s5 h5 => ?_))))
      refine wpAny_bind (wpAny_runOwn (h := none) (codeAny_mono h5 fun r s' hr => ?_))
      cases r with
      | ok a => exact wpAny_pure ⟨rfl, hr⟩
      | error a => exact hr.elim
/-- the inner clause begins -/
theorem start1 {acc : Value} (h0 : codeAny (model prog w) A (.compLoop (two kx vx t0 i0 t1 i1 ifs0 ifs1 scope pos) 1 it acc env) R s)
    (h : wpAny (model prog w) A (pyIter it) (fun it' s' => codeAny (model prog w) A (.compLoop (two kx vx t0 i0 t1 i1 ifs0 ifs1 scope pos) 1 it' acc env) R s') (notedBy (model prog w) A env fun x s' => R (.error x) s') s) :
    codeAny (model prog w) A (.compStart (two kx vx t0 i0 t1 i1 ifs0 ifs1 scope pos) 1 it acc env) R s := by
  refine codeAny_of_tree ?_
  refine wpAny_notedAt ?_
  refine wpAny_bind (wpAny_askSetting (wpAny_ite ?_))
  split
  · exact wpAny_bind (wpAny_pure (wpAny_pure ⟨rfl, h0⟩))
  · exact wpAny_bind (wpAny_rule (wpAny_bind (wpAny_standAt (wpAny_bind (mn h fun it' s' h' => wpAny_pure ⟨rfl, h'⟩)))))
end
/-- an inner turn's wish -/
abbrev StepI (g1 : TG) (tt1 : TT) (tk tv : TE) (vs1 : List Nat) (τ : L2.St) (D : Addr) (Nx1 : Hp → Prop) (x : V) (Hx : Hp) : Prop :=
  g1 x (wipe τ vs1) Hx fun ρ Ha => wipe ρ vs1 = wipe τ vs1 ∧ tt1 ρ Ha fun b Hb =>
    if b = true then tk ρ Hb fun y Hc => tv ρ Hc fun z Hd => ∃ (kvs : List (Key × V)) (k : Key), y = kV k ∧ Hd D = some (.dK kvs) ∧ kvs.length < sizeLine ∧ Nx1 (upd Hd D (.dK (putK kvs k z))) else Nx1 Hb
/-- the inner turns -/
abbrev TurnsI (J1 : It) (g1 : TG) (tt1 : TT) (tk tv : TE) (vs1 : List Nat) (τ : L2.St) (D : Addr) (Nx : Hp → Prop) (H4 : Hp) : Prop :=
  ∃ W1 : Nat → Nat → Hp → Prop, (∃ m, W1 0 m H4) ∧ ∀ j k G, W1 j k G → (J1.stop j G ∧ Nx G) ∨
    (J1.go j G ∧ ∃ Nx1 : Hp → Prop, (∀ G', Nx1 G' → ∃ k', k' < k ∧ W1 (j + 1) k' G') ∧ ∀ x Hx, J1.yld j G x Hx → StepI g1 tt1 tk tv vs1 τ D Nx1 x Hx)
/-- an outer turn's wish -/
abbrev StepO (g : TG) (tt : TT) (wi1 : TI) (g1 : TG) (tt1 : TT) (tk tv : TE) (vs vs1 : List Nat) (σ : L2.St) (D : Addr) (Nx : Hp → Prop) (x : V) (Hx : Hp) : Prop :=
  g x (wipe σ vs) Hx fun τ Ha => wipe τ vs = wipe σ vs ∧ tt τ Ha fun b Hb => if b = true then wi1 τ Hb fun J1 Hc => TurnsI J1 g1 tt1 tk tv vs1 τ D Nx Hc else Nx Hb
abbrev TurnsO (J : It) (g : TG) (tt : TT) (wi1 : TI) (g1 : TG) (tt1 : TT) (tk tv : TE) (vs vs1 : List Nat) (σ : L2.St) (D : Addr) (H1 : Hp) (Qd : Hp → Prop) : Prop :=
  ∃ W : Nat → Nat → Hp → Prop, (∃ m, W 0 m (upd H1 D (.dK []))) ∧ ∀ i m G, W i m G → (J.stop i G ∧ Qd G) ∨
    (J.go i G ∧ ∃ Nx : Hp → Prop, (∀ G', Nx G' → ∃ m', m' < m ∧ W (i + 1) m' G') ∧ ∀ x Hx, J.yld i G x Hx → StepO g tt wi1 g1 tt1 tk tv vs vs1 σ D Nx x Hx)
def tDcO (wi : TI) (g : TG) (tt : TT) (wi1 : TI) (g1 : TG) (tt1 : TT) (tk tv : TE) (vs vs1 : List Nat) : TE := fun σ H Q => wi σ H fun J H1 => ∀ D, H1 D = none → TurnsO J g tt wi1 g1 tt1 tk tv vs vs1 σ D H1 (Q (.ref D))
section
variable {X : Cx}
theorem dcO_core {pins : List (Addr × Obj)} {σ : L2.St} {H : Hp} {Q : VK} {u0 : Shared} {use : Option (Value → Sem Unit)} {Qf : Value → Shared → Prop} {pos' : Pos} {kx vx tg iter tg1 iter1 : Expr} {ifs ifs1 : List Expr} {scope : Scope} {own : List (PySem.Str × Nat)} {vs1 : List Nat} {pos : Pos} {wi wi1 : TI} {g g1 : TG} {tt tt1 : TT} {tk tv : TE} (calm : X.calm = true) (nd : X.N.Nodup) (hi : PI X tg iter wi) (bk : BlkOk X.N X.env.scope scope own)
    (hv : ∀ i ∈ vs1, i ∈ own.map (·.2))
    (hg : ∀ (u : Shared) (G : Hp) (C : Addr) (cl : List (PySem.Str × Addr)) (fp : List Addr), PG (X.blk u G scope (compEnvC scope cl C X.env) fp) tg g)
    (ht : ∀ (u : Shared) (G : Hp) (C : Addr) (cl : List (PySem.Str × Addr)) (fp : List Addr), PTs (X.blk u G scope (compEnvC scope cl C X.env) fp) ifs tt)
    (hi1 : ∀ (u : Shared) (G : Hp) (C : Addr) (cl : List (PySem.Str × Addr)) (fp : List Addr), PI (X.blk u G scope (compEnvC scope cl C X.env) fp) tg1 iter1 wi1)
    (hg1 : ∀ (u : Shared) (G : Hp) (C : Addr) (cl : List (PySem.Str × Addr)) (fp : List Addr), PG (X.blk u G scope (compEnvC scope cl C X.env) fp) tg1 g1)
    (ht1 : ∀ (u : Shared) (G : Hp) (C : Addr) (cl : List (PySem.Str × Addr)) (fp : List Addr), PTs (X.blk u G scope (compEnvC scope cl C X.env) fp) ifs1 tt1)
    (hk : ∀ (u : Shared) (G : Hp) (C : Addr) (cl : List (PySem.Str × Addr)) (fp : List Addr), PE (X.blk u G scope (compEnvC scope cl C X.env) fp) kx tk)
    (he : ∀ (u : Shared) (G : Hp) (C : Addr) (cl : List (PySem.Str × Addr)) (fp : List Addr), PE (X.blk u G scope (compEnvC scope cl C X.env) fp) vx tv)
    (hs : ∀ x, foldedSetIterable iter X.env x = pure x) (hs1 : ∀ (env : Env) x, foldedSetIterable iter1 env x = pure x) (I : Inv X pins σ H u0) (want : tDcO wi g tt wi1 g1 tt1 tk tv (own.map (·.2)) vs1 σ H Q)
    (fin : ∀ (D C : Addr) (s' : Shared) (m : PySem.Str → Option Value) (H' : Hp), Inv X pins σ H' s' → Q (.ref D) H' → s'.heap.Ns C m → FpOk X pins H' C → compPost (model X.prog X.w) X.A X.xe use Qf (.ref D) C (.ok .next) s') :
    wpAny (model X.prog X.w) X.A (comprehension (two kx vx tg iter tg1 iter1 ifs ifs1 scope pos) scope X.env pos' newDict false (eval iter X.env) use) Qf X.xe u0 
:= by
  have cellOf : ∀ y ∈ scope.names, y.2 = .free → ∃ c, X.env.cells.lookup y.1 = some c := fun y hy e => (bk.free y hy e).elim (fun z => I.ok.has _ (.inl z)) (fun z => I.ok.has _ (.inr z))
  refine wpAny_comprehension_free (use := use) rfl hs (closure_ok cellOf) bk.kind (fun y hy e => by rw [bk.uniq y hy, e]) (thn (hi.run pins u0 σ H _ I want) fun xv u1 got => thn got fun itv u2 got2 => ?_)
  obtain ⟨it, fp, tn, J, H2, rfl, I2, T, st2, young, q⟩ := got2
  refine wpAny_newObj_type (newEnv_comp ?_)
  obtain ⟨D, eD⟩ : ∃ D, D = u2.heap.objs.size := ⟨_, rfl⟩
  rw [← eD]
  have noD : H2 D = none := I2.hok.fresh (Nat.le_of_eq eD.symm)
  obtain ⟨W, ⟨m0, w0⟩, turn⟩ := q D noD
  obtain ⟨u3, e3⟩ : ∃ u3 : Shared, u3 = { u2 with heap := u2.heap.push { cls := .type "dict", data := .dict #[] } } := ⟨_, rfl⟩
  rw [← e3]
  obtain ⟨H3, eH⟩ : ∃ H3 : Hp, H3 = upd H2 D (.dK []) := ⟨_, rfl⟩
  rw [← eH] at w0
  have heap3 : u3.heap = u2.heap.push { cls := .type "dict", data := .dict #[] } := by rw [e3]
  have I3 : Inv X pins σ H3 u3 := by
    rw [e3, eH]
    refine I2.laid (t' := u2.toks) (fun b o e => Heap.get?_push_of_some _ e) (Nat.le_of_eq eD.symm) ?_
    rw [eD]
    exact dk_empty _ I2.big
  have young3 : ∀ b ∈ fp, FpOk X pins H3 b ∧ b < u3.heap.objs.size := fun b hb => by
    obtain ⟨o, e, _⟩ := T.obj _ _ st2 b hb
    have lt := Heap.lt_size e
    refine ⟨⟨?_, (young b hb).2⟩, by rw [heap3, Heap.size_push]; exact Nat.lt_succ_of_lt lt⟩
    rw [eH, upd_ne (by rw [eD]; exact Nat.ne_of_lt lt)]
    exact (young b hb).1
  have st3 : tn 0 u3.heap := T.keep _ _ _ st2 fun b _ o e => by rw [heap3]; exact Heap.get?_push_of_some _ e
  have I4 := block_start I3 bk nd young3
  obtain ⟨cl, ecl⟩ : ∃ cl, cl = cellsFrom (u3.heap.objs.size + 1) scope.names (cloFrom X.env.cells scope.names []) := ⟨_, rfl⟩
  rw [← ecl] at I4
  have pg := hg u3 H3 u3.heap.objs.size cl fp
  have pt := ht u3 H3 u3.heap.objs.size cl fp
  have pe := he u3 H3 u3.heap.objs.size cl fp
  have pk := hk u3 H3 u3.heap.objs.size cl fp
  have pg1 := hg1 u3 H3 u3.heap.objs.size cl fp
  have pt1 := ht1 u3 H3 u3.heap.objs.size cl fp
  have pi1 := hi1 u3 H3 u3.heap.objs.size cl fp
  show codeAny _ _ (.compStart (two kx vx tg iter tg1 iter1 ifs ifs1 scope pos) 0 (.ref it) (.ref D) (compEnvC scope (cellsFrom (u3.heap.objs.size + 1) scope.names (cloFrom X.env.cells scope.names [])) u3.heap.objs.size X.env)) (compPost (model X.prog X.w) X.A X.xe use Qf (.ref D) u3.heap.objs.size) { u3 with heap := pushCells (u3.heap.push { cls := .type "dict", data := .dict #[] }) scope.names }
  rw [← ecl]
  obtain ⟨ce, ece⟩ : ∃ ce, ce = compEnvC scope cl u3.heap.objs.size X.env := ⟨_, rfl⟩
  rw [← ece] at I4 pg pt pe pk pg1 pt1 pi1 ⊢
  have cL : ce.locals = u3.heap.objs.size := by subst ece; rfl
  obtain ⟨u4, e4⟩ : ∃ u4 : Shared, u4 = { u3 with heap := pushCells (u3.heap.push { cls := .type "dict", data := .dict #[] }) scope.names } := ⟨_, rfl⟩
  rw [← e4] at I4 ⊢
  have st4 : tn 0 u4.heap := T.keep _ _ _ st3 fun b _ o e => by rw [e4]; exact pushCells_keeps _ _ _ _ (Heap.get?_push_of_some _ e)
  have still : ∀ {τ : L2.St} {G : Hp} {s' : Shared}, Inv (X.blk u3 H3 scope ce fp) [] τ G s' → (∀ b ∈ fp, G b = none) → ∀ b ∈ fp, FpOk (X.blk u3 H3 scope ce fp) [] G b := fun {τ G s'} J' n b hb =>
    ⟨n b hb, (J'.ok.exf b hb).1, J'.ok.exfs b hb, .inl hb, fun x c e => (J'.ok.exf b hb).2 x c e, fun p hp => absurd (show p ∈ ([] : List (Addr × Obj)) ++ [] from hp) (by simp)⟩
  have all : codeAny (model X.prog X.w) X.A (.compLoop (two kx vx tg iter tg1 iter1 ifs ifs1 scope pos) 0 (.ref it) (.ref D) ce)
      (compPost (model X.prog X.w) X.A X.xe use Qf (.ref D) u3.heap.objs.size) u4 := by
    refine outer (hs1 _) (fun n s' => ∃ i G, Inv (X.blk u3 H3 scope ce fp) [] (wipe σ (own.map (·.2))) G s' ∧ tn i s'.heap ∧ (∀ b ∈ fp, G b = none) ∧ W i n G) ?_ m0 ⟨0, H3, I4, st4, fun b hb => (young3 b hb).1.1, w0⟩
    rintro n u5 ⟨i, H5, I5, st5, n5, w5⟩
    rcases turn i n H5 w5 with ⟨stop, fine⟩ | ⟨go, Nx, hNx, step⟩
    · refine thnF (T.done (X.blk u3 H3 scope ce fp) rfl rfl rfl calm i [] u5 _ H5 (fun _ _ => False) I5 (still I5 n5) st5 stop) fun r u6 ⟨hr, I6⟩ => ?_
      subst hr
      have I7 : Inv X pins σ H5 u6 := I3.call' (ch := fp) I6.os I6.base I6.hok I6.bare fun b hb =>
        let z := (young3 b hb).1.2
        ⟨z.2.2.1, z.1, z.2.2.2.1, z.2.2.2.2⟩
      have nC : H5 ce.locals = none := I6.free
      rw [cL] at nC
      obtain ⟨m, hn, _⟩ := I6.loc
      have hn : u6.heap.Ns ce.locals m := hn
      rw [cL] at hn
      exact fin D _ u6 m H5 I7 fine hn (I3.fpOk (Nat.le_refl _) nC)
    · refine thnF (T.item (X.blk u3 H3 scope ce fp) rfl rfl rfl calm i [] u5 _ H5 (fun _ _ => False) I5 (still I5 n5) st5 go) fun r u6 ⟨v, hr, h6⟩ => ?_
      subst hr
      refine thnF h6 fun _ u7 ⟨x, H7, I7, r7, y7, st7, n7⟩ => ?_
      refine thnF (pg.run _ u7 _ H7 x v _ (I7.pinned (still I7 n7) (T.obj _ _ st7)) r7 (step x H7 y7)) fun _ u8 ⟨τ, H8, I8, hw8, q8⟩ => ?_
      refine thnF (pt.run _ u8 τ H8 _ I8 q8) fun b u9 ⟨H9, I9, q9⟩ => ?_
      have next : ∀ {s' : Shared} {G : Hp} {ρ : L2.St}, Inv (X.blk u3 H3 scope ce fp) ([] ++ pinsAt fp u7.heap) ρ G s' → ρ.length = τ.length → (∀ (j : Nat) v, ¬ j ∈ own.map (·.2) → τ[j]? = some (some v) → ρ[j]? = some (some v)) → Nx G → ∃ m, m < n ∧ ∃ i G, Inv (X.blk u3 H3 scope ce fp) [] (wipe σ (own.map (·.2))) G s' ∧ tn i s'.heap ∧ (∀ b ∈ fp, G b = none) ∧ W i m G := fun {s' G ρ} J' lρ hρ nx => by
        obtain ⟨m', lt, w'⟩ := hNx G nx
        have held : ∀ b ∈ fp, ∀ o, u7.heap.get? b = some o → s'.heap.get? b = some o ∧ G b = none := fun b hb o e =>
          let z := J'.pin (b, o) (List.mem_append_right _ (List.mem_append_right _ (mem_pinsAt hb e)))
          ⟨z.1, z.2.1⟩
        refine ⟨m', lt, i + 1, G, (J'.unpinned (pins := [])).weak (by rw [lρ, ← hw8, wipe_length]) (fun j v e => ?_), T.keep _ _ _ st7 fun b hb o e => (held b hb o e).1, fun b hb => ?_, w'⟩
        · rw [← hw8] at e
          exact hρ j v (wipe_some e).2 (wipe_some e).1
        · obtain ⟨o, e, _⟩ := T.obj _ _ st7 b hb
          exact (held b hb o e).2
      cases b with
      | false =>
        simp only [Bool.false_eq_true, if_false] at q9 ⊢
        exact next I9 rfl (fun _ _ _ e => e) q9
      | true =>
        simp only [if_true] at q9 ⊢
        refine thnF (pi1.run _ u9 τ H9 _ I9 q9) fun x1 u10 got => thnF got fun it1v u11 got2 => ?_
        obtain ⟨it1, fp1, tn1, J1, H11, rfl, I11, T1, st11, young1, W1, ⟨k0, w10⟩, turn1⟩ := got2
        have still1 : ∀ {ρ : L2.St} {G : Hp} {s' : Shared}, Inv (X.blk u3 H3 scope ce fp) ([] ++ pinsAt fp u7.heap) ρ G s' → (∀ b ∈ fp1, G b = none) → ∀ b ∈ fp1, FpOk (X.blk u3 H3 scope ce fp) ([] ++ pinsAt fp u7.heap) G b := fun _ n b hb => ⟨n b hb, (young1 b hb).2⟩
        have all1 : codeAny (model X.prog X.w) X.A (.compLoop (two kx vx tg iter tg1 iter1 ifs ifs1 scope pos) 1 (.ref it1) (.ref D) ce)
            (fun r s' => match r with
              | .ok _ => ∃ m, m < n ∧ ∃ i G, Inv (X.blk u3 H3 scope ce fp) [] (wipe σ (own.map (·.2))) G s' ∧ tn i s'.heap ∧ (∀ b ∈ fp, G b = none) ∧ W i m G
              | .error _ => False) u11 := by
          refine inner (fun k s' => ∃ j G, Inv (X.blk u3 H3 scope ce fp) ([] ++ pinsAt fp u7.heap) (wipe τ vs1) G s' ∧ tn1 j s'.heap ∧ (∀ b ∈ fp1, G b = none) ∧ W1 j k G) ?_ k0
            ⟨0, H11, I11.weak (wipe_length _ _) (fun j v e => (wipe_some e).1), st11, fun b hb => (young1 b hb).1, w10⟩
          rintro k u12 ⟨j, G12, I12, st12, n12, w12⟩
          rcases turn1 j k G12 w12 with ⟨stop1, fine1⟩ | ⟨go1, Nx1, hNx1, step1⟩
          · refine thnF (T1.done (X.blk u3 H3 scope ce fp) rfl rfl rfl calm j _ u12 _ G12 (fun _ _ => False) I12 (still1 I12 n12) st12 stop1) fun r u13 ⟨hr, I13⟩ => ?_
            subst hr
            exact next I13 (wipe_length _ _) (fun i v ni e => by rw [wipe_out fun z => ni (hv i z)]; exact e) fine1
          · refine thnF (T1.item (X.blk u3 H3 scope ce fp) rfl rfl rfl calm j _ u12 _ G12 (fun _ _ => False) I12 (still1 I12 n12) st12 go1) fun r u13 ⟨v1, hr, h13⟩ => ?_
            subst hr
            refine thnF h13 fun _ u14 ⟨y, G14, I14, r14, y14, st14, n14⟩ => ?_
            refine thnF (pg1.run _ u14 _ G14 y v1 _ (I14.pinned (still1 I14 n14) (T1.obj _ _ st14)) r14 (step1 y G14 y14)) fun _ u15 ⟨ρ, G15, I15, hw15, q15⟩ => ?_
            refine thnF (pt1.run _ u15 ρ G15 _ I15 q15) fun b u16 ⟨G16, I16, q16⟩ => ?_
            have next1 : ∀ {s' : Shared} {G : Hp}, Inv (X.blk u3 H3 scope ce fp) (([] ++ pinsAt fp u7.heap) ++ pinsAt fp1 u14.heap) ρ G s' → Nx1 G → ∃ m, m < k ∧ ∃ j G, Inv (X.blk u3 H3 scope ce fp) ([] ++ pinsAt fp u7.heap) (wipe τ vs1) G s' ∧ tn1 j s'.heap ∧ (∀ b ∈ fp1, G b = none) ∧ W1 j m G := fun {s' G} J' nx => by
              obtain ⟨m', lt, w'⟩ := hNx1 G nx
              have held : ∀ b ∈ fp1, ∀ o, u14.heap.get? b = some o → s'.heap.get? b = some o ∧ G b = none := fun b hb o e =>
                let z := J'.pin (b, o) (List.mem_append_right _ (List.mem_append_right _ (mem_pinsAt hb e)))
                ⟨z.1, z.2.1⟩
              refine ⟨m', lt, j + 1, G, J'.unpinned.weak (by rw [← hw15, wipe_length]) (fun i v e => ?_), T1.keep _ _ _ st14 fun b hb o e => (held b hb o e).1, fun b hb => ?_, w'⟩
              · rw [← hw15] at e
                exact (wipe_some e).1
              · obtain ⟨o, e, _⟩ := T1.obj _ _ st14 b hb
                exact (held b hb o e).2
            cases b with
            | false =>
              simp only [Bool.false_eq_true, if_false] at q16 ⊢
              exact next1 I16 q16
            | true =>
              simp only [if_true] at q16 ⊢
              refine thnF (pk.run _ u16 ρ G16 _ I16 q16) fun kv u17 ⟨yk, G17, I17, r17, q17⟩ => ?_
              refine thnF (pe.run _ u17 ρ G17 _ I17 q17) fun vv u18 ⟨yv, G18, I18, r18, kvs, key, ey, hD, room, nx⟩ => ?_
              subst ey
              exact d_dictSet (X := X.blk u3 H3 scope ce fp) I18 hD room r17 r18 fun s' I19 => next1 I19 nx
        exact start1 all1 (T1.self X.A 0 _ _ _ st11 all1)
  exact codeAny_compStart_dict all (T.self X.A 0 _ _ _ st4 all)

theorem pe_dcO {kx vx tg iter tg1 iter1 : Expr} {ifs ifs1 : List Expr} {scope : Scope} {own : List (PySem.Str × Nat)} {vs1 : List Nat} {pos : Pos} {wi wi1 : TI} {g g1 : TG} {tt tt1 : TT} {tk tv : TE} (calm : X.calm = true) (nd : X.N.Nodup) (hi : PI X tg iter wi) (bk : BlkOk X.N X.env.scope scope own)
    (hv : ∀ i ∈ vs1, i ∈ own.map (·.2))
    (hg : ∀ (u : Shared) (G : Hp) (C : Addr) (cl : List (PySem.Str × Addr)) (fp : List Addr), PG (X.blk u G scope (compEnvC scope cl C X.env) fp) tg g)
    (ht : ∀ (u : Shared) (G : Hp) (C : Addr) (cl : List (PySem.Str × Addr)) (fp : List Addr), PTs (X.blk u G scope (compEnvC scope cl C X.env) fp) ifs tt)
    (hi1 : ∀ (u : Shared) (G : Hp) (C : Addr) (cl : List (PySem.Str × Addr)) (fp : List Addr), PI (X.blk u G scope (compEnvC scope cl C X.env) fp) tg1 iter1 wi1)
    (hg1 : ∀ (u : Shared) (G : Hp) (C : Addr) (cl : List (PySem.Str × Addr)) (fp : List Addr), PG (X.blk u G scope (compEnvC scope cl C X.env) fp) tg1 g1)
    (ht1 : ∀ (u : Shared) (G : Hp) (C : Addr) (cl : List (PySem.Str × Addr)) (fp : List Addr), PTs (X.blk u G scope (compEnvC scope cl C X.env) fp) ifs1 tt1)
    (hk : ∀ (u : Shared) (G : Hp) (C : Addr) (cl : List (PySem.Str × Addr)) (fp : List Addr), PE (X.blk u G scope (compEnvC scope cl C X.env) fp) kx tk)
    (he : ∀ (u : Shared) (G : Hp) (C : Addr) (cl : List (PySem.Str × Addr)) (fp : List Addr), PE (X.blk u G scope (compEnvC scope cl C X.env) fp) vx tv)
    (hs : ∀ x, foldedSetIterable iter X.env x = pure x := by intro _; rfl) (hs1 : ∀ (env : Env) x, foldedSetIterable iter1 env x = pure x := by intro _ _; rfl) :
    PE X (two kx vx tg iter tg1 iter1 ifs ifs1 scope pos) (tDcO wi g tt wi1 g1 tt1 tk tv (own.map (·.2)) vs1) := by
  refine ⟨fun pins u0 σ H Q I want => ?_⟩
  rw [arm_eval_DictComp]
  exact dcO_core calm nd hi bk hv hg ht hi1 hg1 ht1 hk he hs hs1 I want fun D C s' m H' I' q hn ⟨f0, f1, f2, f3, f4, f5⟩ => ⟨m, hn, fun h'' sb => ⟨.ref D, H', I'.turned (t' := s'.toks) (fun b o hb e => (sb.2 b hb).trans e) f0 f1 f3 f4 f5, rfl, q⟩⟩
theorem sw_dict {kx vx : Expr} {gs : List Comprehension} {scope : Scope} {pos py : Pos} {y : PySem.Str} {l : Nat} {env : Env} (h1 : env.scope.kind = .function) (h2 : env.scope.names.lookup y = some .local) (h3 : (py.line == pos.line) = true)
    (h4 : (scope.names.any fun x => match x with | (n, k) => n == y && (k == NameKind.local || k == NameKind.cell)) = false) : swapsWith (.DictComp kx vx gs scope pos) (some (.Name y py)) l env = pure true := by
  have e := sw_true (elt := kx) (gs := gs) (scope := scope) (pos := pos) (l := l) h1 h2 h3 h4
  exact e
theorem ps_setDc {i : Nat} {y : PySem.Str} {py : Pos} {kx vx tg iter : Expr} {ifs : List Expr} {scope : Scope} {own : List (PySem.Str × Nat)} {pos spos : Pos} {wi : TI} {g : TG} {tt : TT} {tk tv : TE} (hc : X.calm = true) (hN : X.N.Nodup) (hy : X.N[i]? = some y) (hyl : X.env.scope.names.lookup y = some .local)
    (hsw : swapsWith (.DictComp kx vx [⟨tg, iter, ifs, 0⟩] scope pos) (some (.Name y py)) spos.line X.env = pure true) (hi : PI X tg iter wi) (ok : BlkOk X.N X.env.scope scope own)
    (hg : ∀ (u : Shared) (G : Hp) (C : Addr) (cl : List (PySem.Str × Addr)) (fp : List Addr), PG (X.blk u G scope (compEnvC scope cl C X.env) fp) tg g)
    (ht : ∀ (u : Shared) (G : Hp) (C : Addr) (cl : List (PySem.Str × Addr)) (fp : List Addr), PTs (X.blk u G scope (compEnvC scope cl C X.env) fp) ifs tt)
    (hk : ∀ (u : Shared) (G : Hp) (C : Addr) (cl : List (PySem.Str × Addr)) (fp : List Addr), PE (X.blk u G scope (compEnvC scope cl C X.env) fp) kx tk)
    (he : ∀ (u : Shared) (G : Hp) (C : Addr) (cl : List (PySem.Str × Addr)) (fp : List Addr), PE (X.blk u G scope (compEnvC scope cl C X.env) fp) vx tv)
    (hs : ∀ x, foldedSetIterable iter X.env x = pure x := by intro _; rfl) :
    PS X (.Assign [.Name y py] (.DictComp kx vx [⟨tg, iter, ifs, 0⟩] scope pos) spos) (tAsg (tDc wi g tt tk tv (own.map (·.2))) (gName i)) := by
  refine ⟨fun pins s σ H D I h => ?_⟩
  rw [exec_Assign_Name_used y py _ spos hsw]
  refine wpAny_bind (wpAny_standAt (wpAny_bind ?_))
  refine wpAny_bind (thn (dc_core hc hN I hi ok hg ht hk he hs h fun L C s' m H' I' q hn f => ?_) fun x s' hq => wpAny_pure (wpAny_pure hq))
  have rl : RelV (V.ref L) (Value.ref L) := rfl
  show wpAny (model X.prog X.w) X.A (assign (.Name y py) X.env (.ref L)) _ X.xe s'
  refine wpAny_assign_Name (store_ok2 I' hN hy (.inl hyl) rl (fun s2 I2 ⟨a, sb, ha⟩ => ?_) (.inr hyl))
  obtain ⟨f0, f1, f2, f3, f4, f5⟩ := f
  have haC : C ≠ a := by
    rcases ha with z | z
    · rw [z]; exact f1
    · exact fun e => f4 y a z e.symm
  exact ⟨m, hn.sameBut sb haC, fun h3 sb3 => ⟨σ.set i (some (.ref L)), H', I2.turned (fun b o hb e => (sb3.2 b hb).trans e) f0 f1 f3 f4 f5, q⟩⟩
theorem ps_setDcO {i : Nat} {y : PySem.Str} {py spos : Pos} {kx vx tg iter tg1 iter1 : Expr} {ifs ifs1 : List Expr} {scope : Scope} {own : List (PySem.Str × Nat)} {vs1 : List Nat} {pos : Pos} {wi wi1 : TI} {g g1 : TG} {tt tt1 : TT} {tk tv : TE} (calm : X.calm = true) (nd : X.N.Nodup) (hy : X.N[i]? = some y) (hyl : X.env.scope.names.lookup y = some .local) (hsw : swapsWith (two kx vx tg iter tg1 iter1 ifs ifs1 scope pos) (some (.Name y py)) spos.line X.env = pure true) (hi : PI X tg iter wi) (bk : BlkOk X.N X.env.scope scope own)
    (hv : ∀ i ∈ vs1, i ∈ own.map (·.2))
    (hg : ∀ (u : Shared) (G : Hp) (C : Addr) (cl : List (PySem.Str × Addr)) (fp : List Addr), PG (X.blk u G scope (compEnvC scope cl C X.env) fp) tg g)
    (ht : ∀ (u : Shared) (G : Hp) (C : Addr) (cl : List (PySem.Str × Addr)) (fp : List Addr), PTs (X.blk u G scope (compEnvC scope cl C X.env) fp) ifs tt)
    (hi1 : ∀ (u : Shared) (G : Hp) (C : Addr) (cl : List (PySem.Str × Addr)) (fp : List Addr), PI (X.blk u G scope (compEnvC scope cl C X.env) fp) tg1 iter1 wi1)
    (hg1 : ∀ (u : Shared) (G : Hp) (C : Addr) (cl : List (PySem.Str × Addr)) (fp : List Addr), PG (X.blk u G scope (compEnvC scope cl C X.env) fp) tg1 g1)
    (ht1 : ∀ (u : Shared) (G : Hp) (C : Addr) (cl : List (PySem.Str × Addr)) (fp : List Addr), PTs (X.blk u G scope (compEnvC scope cl C X.env) fp) ifs1 tt1)
    (hk : ∀ (u : Shared) (G : Hp) (C : Addr) (cl : List (PySem.Str × Addr)) (fp : List Addr), PE (X.blk u G scope (compEnvC scope cl C X.env) fp) kx tk)
    (he : ∀ (u : Shared) (G : Hp) (C : Addr) (cl : List (PySem.Str × Addr)) (fp : List Addr), PE (X.blk u G scope (compEnvC scope cl C X.env) fp) vx tv)
    (hs : ∀ x, foldedSetIterable iter X.env x = pure x := by intro _; rfl) (hs1 : ∀ (env : Env) x, foldedSetIterable iter1 env x = pure x := by intro _ _; rfl) :
    PS X (.Assign [.Name y py] (two kx vx tg iter tg1 iter1 ifs ifs1 scope pos) spos) (tAsg (tDcO wi g tt wi1 g1 tt1 tk tv (own.map (·.2)) vs1) (gName i)) := by
  refine ⟨fun pins s σ H D I h => ?_⟩
  rw [exec_Assign_Name_used y py _ spos hsw]
  refine wpAny_bind (wpAny_standAt (wpAny_bind ?_))
  refine wpAny_bind (thn (dcO_core calm nd hi bk hv hg ht hi1 hg1 ht1 hk he hs hs1 I h fun L C s' m H' I' q hn f => ?_) fun x s' hq => wpAny_pure (wpAny_pure hq))
  have rl : RelV (V.ref L) (Value.ref L) := rfl
  show wpAny (model X.prog X.w) X.A (assign (.Name y py) X.env (.ref L)) _ X.xe s'
  refine wpAny_assign_Name (store_ok2 I' nd hy (.inl hyl) rl (fun s2 I2 ⟨a, sb, ha⟩ => ?_) (.inr hyl))
  obtain ⟨f0, f1, f2, f3, f4, f5⟩ := f
  have haC : C ≠ a := by
    rcases ha with z | z
    · rw [z]; exact f1
    · exact fun e => f4 y a z e.symm
  exact ⟨m, hn.sameBut sb haC, fun h3 sb3 => ⟨σ.set i (some (.ref L)), H', I2.turned (fun b o hb e => (sb3.2 b hb).trans e) f0 f1 f3 f4 f5, q⟩⟩
end
end LD
-- DV
/-! d.values() of a dict, and the list of it -/
namespace LD
open PySem PySem.Spec PyProof.Rows L2
def rVals : V → List V → Hp → VK → Prop := fun x xs H Q => ∃ (a : Addr) (kvs : List (Key × V)), x = .ref a ∧ xs = [] ∧ H a = some (.dK kvs) ∧ ∀ p, H p = none → Q (.ref p) (upd H p (viewO "dict_values" p a))
def rListV : List V → Hp → VK → Prop := fun xs H Q => ∃ (p a : Addr) (kvs : List (Key × V)), xs = [.ref p] ∧ H p = some (viewO "dict_values" p a) ∧ H a = some (.dK kvs) ∧ ∀ l, H l = none → Q (.ref l) (upd H l (.lst (kvs.map (·.2))))
theorem paired_of {α β : Type} {R : α → β → Prop} : ∀ {as : List α} {bs : List β}, as.length = bs.length → (∀ (i : Nat) a b, as[i]? = some a → bs[i]? = some b → R a b) → Paired R as bs
  | [], [], _, _ => .nil
  | a :: as, b :: bs, l, h => .cons (h 0 a b rfl rfl) (paired_of (Nat.succ.inj l) fun i x y hx hy => h (i + 1) x y hx hy)
theorem paired_get {α β : Type} {R : α → β → Prop} : ∀ {as : List α} {bs : List β}, Paired R as bs → ∀ {i : Nat} {a : α}, as[i]? = some a → ∃ b, bs[i]? = some b ∧ R a b
  | _, _, .nil, i, a, h => by simp at h
  | _, _, .cons h t, 0, a, e => by simp at e; subst e; exact ⟨_, rfl, h⟩
  | _, _, .cons h t, i + 1, a, e => paired_get t (i := i) (by simpa using e)
theorem mt_dvals {X : Cx} : MtR X "dict.values" rVals := by
  intro pins s σ H x xs v us Q I rx rxs h
  obtain ⟨a, kvs, rfl, rfl, ha, q⟩ := h
  obtain rfl : v = .ref a := rx
  cases rxs
  obtain ⟨le, nm, vs, hkv, hd⟩ := dk_of I.hok ha
  refine call_meetsIn F.slot_dict_values hd.typeIs F.entry_dict_values (F.args_dict_values_1 _) (meets_dict_values (mixKind X.prog X.w) a nm) ⟨⟨vs, hd⟩, ?_⟩
  refine ⟨.ref s.heap.objs.size, _, I.laid (t' := s.toks) (fun b o e => Heap.get?_push_of_some _ e) (Nat.le_refl _) (viewO_ok (T := "dict_values") (d := a) (Heap.get?_push_size _ (o := DSub.viewOb "dict_values" a) rfl)), rfl, q _ (I.hok.fresh (Nat.le_refl _))⟩
theorem call_listV {X : Cx} (calm : X.calm = true) : CallR X (.type "list") rListV := by
  intro pins s σ H xs us Q I rxs h
  obtain ⟨p, a, kvs, rfl, hp, ha, q⟩ := h
  obtain rfl := Vals.ref1 rxs
  have op := I.hok _ _ hp
  simp only [viewO, ObjOk] at op
  obtain ⟨le, nm, vs, hkv, hd⟩ := dk_of I.hok ha
  obtain ⟨es, ep, hr, hs, he⟩ := hd.raw
  refine W.kdl_call KdlSrc.rawValues (I.ok.hd calm) ⟨⟨_, op.1, rfl, rfl⟩, hr⟩ (by rw [hs, ← hkv.length]; exact le) fun h' tk acc' c' keep hl items => ?_
  refine ⟨.ref s.heap.objs.size, _, I.laid (t' := tk) keep (Nat.le_refl _) ?_, rfl, q _ (I.hok.fresh (Nat.le_refl _))⟩
  simp only [ObjOk]
  refine ⟨by rw [List.length_map]; exact le, acc'.toList, c', paired_of ?_ fun j x u hx hu => ?_, by rw [Array.toArray_toList]; exact hl⟩
  · have e1 := items.1
    rw [List.length_map, hkv.length, ← hs, ← e1]
    exact Array.length_toList.symm
  · rw [List.getElem?_map] at hx
    cases ek : kvs[j]? with
    | none => rw [ek] at hx; cases hx
    | some kv =>
      rw [ek] at hx
      obtain rfl := Option.some.inj hx
      obtain ⟨kw, ew, e1, e2⟩ := paired_get hkv ek
      rw [Array.getElem?_toList] at hu
      obtain ⟨hi, rfl⟩ := items.2 j u hu
      rw [(he j hi kw.1 kw.2 ew).2]
      exact e2
end LD
-- ET
/-! enumerate of a tuple -/
namespace ET
open PySem PySem.Spec PyProof.Rows L2
set_option maxHeartbeats 1000000 in
theorem meets1 {v : Value} {o : Obj} {S : Heap → Prop} (B : Begins v o S) : Meets (Builtin.«enumerate.__new__» ⟨[.type "enumerate", v], []⟩) (fun _ R u => S u.heap ∧ R (.ok (.ret (.ref (u.heap.push o).objs.size))) { u with heap := (u.heap.push o).push { cls := .type "enumerate", data := .fields #[.none, .bool false, .ref u.heap.objs.size, rawInt 0, .none, .none] } }) :=
  .of_wp fun prog w A R u z => by
    obtain ⟨hp, gs, dr, tk, os⟩ := u
    obtain ⟨h1, z⟩ := z
    have sub := sub_enumerate
    have begin1 : ∀ {A' : Around} {E : Value → Shared → Prop} {Q : Value → Shared → Prop}, Q (.ref hp.objs.size) ⟨hp.push o, gs, dr, tk, os⟩ → wpAny (model prog w) A' (pyIter v) Q E ⟨hp, gs, dr, tk, os⟩ := fun q => B.iter prog w _ _ ⟨hp, gs, dr, tk, os⟩ _ h1 q
    wp_walk using begin1
    refine wpAny_stack_any fun _ => wpAny_pure ?_
    split
    · rename_i c _ _ _ _ _
      by_cases hc : (c == Value.type "enumerate") = true
      · rw [hc]
        wp_walk using begin1
        exact ⟨_, rfl, z⟩
      · rw [Bool.eq_false_iff.mpr hc]
        wp_walk using begin1
        exact ⟨_, rfl, z⟩
    · wp_walk using begin1
      exact ⟨_, rfl, z⟩
theorem begun {prog : Program} {w : World} {A : Around} {E : Value → Shared → Prop} {s : Shared} {v : Value} {o : Obj} {S : Heap → Prop} {Q : Value → Shared → Prop} (B : Begins v o S) (h1 : S s.heap)
    (h : ∀ g, IsEnum g (s.heap.objs.size + 1) s.heap.objs.size 0 .none → g.get? s.heap.objs.size = some o → (∀ b o, s.heap.get? b = some o → g.get? b = some o) → Q (.ref (s.heap.objs.size + 1)) { s with heap := g }) :
    wpAny (model prog w) A (call (.type "enumerate") [v]) Q E s := by
  refine callType_new F.called_enumerate (by decide) (F.typeCall_enumerate_1 _) (F.newCall_enumerate_1 _) (fun _ => F.args_object_init_2 _ _) F.entry_enumerate_new (meets1 B) ⟨h1, ?_⟩
  have sz : (s.heap.push o).objs.size = s.heap.objs.size + 1 := Heap.size_push ..
  obtain ⟨g, eg⟩ : ∃ g, g = (s.heap.push o).push { cls := .type "enumerate", data := .fields #[.none, .bool false, .ref s.heap.objs.size, rawInt 0, .none, .none] } := ⟨_, rfl⟩
  have en : IsEnum g (s.heap.objs.size + 1) s.heap.objs.size 0 .none := by
    rw [eg]
    have q := Heap.get?_push_size (s.heap.push o) (o := { cls := .type "enumerate", data := .fields #[.none, .bool false, .ref s.heap.objs.size, rawInt 0, .none, .none] }) rfl
    rw [sz] at q; exact q
  show _ ∧ _
  rw [sz, ← eg]
  refine ⟨⟨_, en, rfl⟩, h g en ?_ fun b o q => ?_⟩
  · rw [eg]; exact Heap.get?_push_of_some _ (Heap.get?_push_size _ B.free)
  · rw [eg]; exact Heap.get?_push_of_some _ (Heap.get?_push_of_some _ q)
/-- the tuple at a as it stands at each turn, each item in a new pair -/
def IteT (K : PySem.W.Frag) (a : Addr) : It :=
  ⟨fun i H => ∃ (xs : List V) (x : V), SqT K H a xs ∧ xs[i]? = some x, fun i H v G => ∃ T x, v = .ref T ∧ H T = none ∧ G = upd H T (.tup [.int (i : Nat), x]) ∧ ∀ xs, SqT K H a xs → xs[i]? = some x, fun i H => ∃ xs : List V, SqT K H a xs ∧ xs.length ≤ i⟩
theorem turn {P : Program} {w : World} {K : PySem.W.Frag} {elts : List Expr} {kk : Nat} {tpos : Pos} (a e it : Addr) :
    Turn P w K (.Tuple elts kk tpos) (IteT K a) [e, it] e (fun i h => (∃ old, IsEnum h e it ((i : Nat) : Int) old) ∧ h.IsTupleIter it a i ∧ e ≠ it ∧ a ≠ it ∧ e ≠ a) where
  mem := List.mem_cons_self
  obj := fun i h z b hb => by
    obtain ⟨⟨old, en⟩, ⟨o, ho, _, hd⟩, _⟩ := z
    rcases List.mem_cons.mp hb with rfl | hb
    · exact ⟨_, en, fun v q => nomatch q⟩
    · rw [List.mem_singleton.mp hb]; exact ⟨o, ho, fun v q => by rw [hd] at q; cases q⟩
  keep := fun i h g z k => by
    obtain ⟨⟨old, en⟩, hi, ne⟩ := z
    exact ⟨⟨old, k e List.mem_cons_self _ en⟩, hi.at fun o q => k it (by simp) o q, ne⟩
  item := by
    intro X hP hw hK hc i pins s σ H E I hf z hg
    subst hP; subst hw; subst hK
    obtain ⟨⟨old, en⟩, hit, n1, n2, n3⟩ := z
    obtain ⟨xs, x, hq, hx⟩ := hg
    obtain ⟨its, rv, p, _⟩ := I.tuple hq
    obtain ⟨u, hu, ru⟩ := rv.get hx
    have hel : e < s.heap.objs.size := Heap.lt_size en
    have hil : it < s.heap.objs.size := by obtain ⟨_, q, _⟩ := hit; exact Heap.lt_size q
    have pt : s.heap.IsTuple a its.toArray := p
    have lt : i < its.toArray.size := by
      have := (List.getElem?_eq_some_iff.mp hu).1
      simpa using this
    refine wpAny_pyNext_enum_itemD (Draws.tuple (show X.A.in1.handled = none from I.ok.hd hc) it a n2 its.toArray) en ⟨hit, pt⟩ lt n1 (by simp [n1, n3]) fun y g tk ey ho hst hT _ hk => ?_
    have eu : y = u := by
      have : its.toArray[i]? = some u := by simpa using hu
      rw [this] at ey
      exact (Option.some.inj ey).symm
    subst eu
    refine ⟨_, rfl, wpAny_letOwnedTupleGo_enum (s := { s with heap := g, toks := tk + 1 }) ho fun g2 en2 sb => ?_⟩
    have hT2 : g2.get? s.heap.objs.size = some { cls := .type "tuple", data := .seq #[.int i tk, y] } := (sb.2 _ (Nat.ne_of_gt hel)).trans hT
    have new : ObjOk X.prog X.w (upd H s.heap.objs.size (.tup [.int (i : Nat), x])) g2 s.heap.objs.size (.tup [.int (i : Nat), x]) := ⟨by show 2 ≤ sizeLine; decide, [.int i tk, y], .cons ⟨_, rfl⟩ (.cons ru .nil), ⟨_, hT2, rfl, _, rfl⟩⟩
    have I1 : Inv X pins σ (upd H s.heap.objs.size (.tup [.int (i : Nat), x])) { s with heap := g2, toks := tk + 1 } :=
      I.turnedNew (ch := [e, it]) (fun b ob hb q => (sb.2 b (fun z => hb (by rw [z]; exact List.mem_cons_self))).trans (hk b ob (fun z => hb (by rw [z]; exact List.mem_cons_self)) (fun z => hb (by simp [z])) q)) hf (Nat.le_refl _) new
    refine ⟨.ref s.heap.objs.size, _, I1, rfl, ⟨_, x, rfl, I.hok.fresh (Nat.le_refl _), rfl, fun ys hy => ?_⟩, ⟨⟨y, ?_⟩, hst.1.at fun o q => (sb.2 it n1.symm).trans q, n1, n2, n3⟩, fun b hb => ?_⟩
    · rw [I.tuple_inj hy hq]; exact hx
    · have e1 : ((i + 1 : Nat) : Int) = (i : Int) + 1 := by omega
      rw [e1]; exact en2
    · have hb' : b < s.heap.objs.size := by
        rcases List.mem_cons.mp hb with rfl | hb
        · exact hel
        · rw [List.mem_singleton.mp hb]; exact hil
      rw [upd_ne (Nat.ne_of_lt hb')]
      exact (hf b hb).1
  done := by
    intro X hP hw hK hc i pins s σ H E I hf z hg
    subst hP; subst hw; subst hK
    obtain ⟨⟨old, en⟩, hit, n1, n2, n3⟩ := z
    obtain ⟨xs, hq, hx⟩ := hg
    obtain ⟨its, rv, p, _⟩ := I.tuple hq
    obtain ⟨f0, f1, f2, f3, f4, f5⟩ := hf it (by simp)
    have pt : s.heap.IsTuple a its.toArray := p
    have hl := rv.length
    have D : Draws X.prog X.w X.A.in1 it [it, a] i (fun _ _ => True) (fun j h => j = i ∧ h.IsTupleIter it a i ∧ h.IsTuple a its.toArray) := {
      live := fun _ _ st => let ⟨o, ho, _⟩ := st.2.1; ⟨o, ho⟩
      frame := fun _ _ _ st hk => ⟨st.1, st.2.1.at fun o e => hk it (by simp) o e, st.2.2.at fun o e => hk a (by simp) o e⟩
      item := fun j _ _ _ hj st _ => absurd st.1 (Nat.ne_of_lt hj)
      done := fun s Q E st hE => wpAny_nextOf_tuple_end (I.ok.hd hc) st.2.1 st.2.2 (by simp; omega) hE }
    exact wpAny_pyNext_enum_endD D en ⟨rfl, hit, pt⟩ fun g eb => ⟨rfl, I.turned (t' := s.toks) (fun b o hb q => eb b o hb q) f0 f1 f3 f4 f5⟩
  self := fun A i s Q E z h => by
    obtain ⟨⟨_, en⟩, _⟩ := z
    exact wpAny_pyIter_enum en h
def iEnumT (K : PySem.W.Frag) (ta : TA) : TI := fun σ H R => ta σ H fun vs H1 => ∃ a xs, vs = [.ref a] ∧ SqT K H1 a xs ∧ R (IteT K a) H1
theorem pi_enumT {X : Cx} {e : Expr} {ta : TA} {p pos tpos : Pos} {elts : List Expr} {kk : Nat} (hg : Gl X "enumerate") (hm : X.mg "enumerate" = none) (ha : PA X [e] ta) (hs : starEach [e] X.env = [(false, eval e X.env)] := by rfl) :
    PI X (.Tuple elts kk tpos) (.Call (.Name "enumerate" p) [e] [] pos) (iEnumT X.K ta) := by
  refine ⟨fun pins s σ H R I h => Call_ (ld_blt I hg hm boot_enumerate (PyProof.Rows.callWith_type1 (thn (ha.run pos pins s σ H _ I h) fun us s1 ⟨vs, H1, I1, r1, q1⟩ => ?_) hs rfl))⟩
  obtain ⟨a, xs, rfl, hq, q⟩ := q1
  obtain ⟨u, rfl, ru⟩ : ∃ u, us = [u] ∧ RelV (.ref a) u := by
    cases r1 with
    | cons r rr => cases rr; exact ⟨_, rfl, r⟩
  cases ru
  obtain ⟨its, rv, tp, _⟩ := I1.tuple hq
  have tp : s1.heap.IsTuple a its.toArray := tp
  have al : a < s1.heap.objs.size := by obtain ⟨_, q, _⟩ := tp; exact Heap.lt_size q
  refine begun (begins_tuple a its.toArray) tp fun g en gi gk => wpAny_pyIter_enum en ?_
  refine ⟨s1.heap.objs.size + 1, [s1.heap.objs.size + 1, s1.heap.objs.size], _, _, H1, rfl, I1.kept (t' := s1.toks) gk, turn a (s1.heap.objs.size + 1) s1.heap.objs.size, ⟨⟨.none, en⟩, ⟨_, gi, rfl, rfl⟩, Nat.succ_ne_self _, Nat.ne_of_lt al, Nat.ne_of_gt (Nat.lt_succ_of_lt al)⟩, fun b hb => ?_, q⟩
  have le : s1.heap.objs.size ≤ b := by
    rcases List.mem_cons.mp hb with rfl | hb
    · exact Nat.le_add_right _ _
    · rw [List.mem_singleton.mp hb]; exact Nat.le_refl _
  exact I1.fpOk le (I1.hok.fresh le)
theorem walk {K : PySem.W.Frag} {a : Addr} {xs : List V} : Walk (IteT K a) xs.length (fun H => SqT K H a xs) (YPair (fun i => some (.int (i : Nat))) (fun i => xs[i]?)) := by
  refine ⟨fun i H hi q => ⟨xs, xs[i], q, by simp [hi]⟩, fun H q => ⟨xs, q, Nat.le_refl _⟩, fun i H x H' hi q y => ?_⟩
  obtain ⟨T, x, rfl, nT, rfl, h⟩ := y
  exact ⟨T, _, x, rfl, nT, rfl, rfl, h xs q⟩
end ET
-- EX
/-! errors of own classes whose __init__ tells the class's name: C.__name__, e.__class__, isinstance, the whole of a raise -/
namespace LX
open PySem PySem.W PySem.Calls PyProof.Rows Builtin Builtin.ObjectAttr Builtin.Getset_descriptor
section
variable {prog : Program} {w : World} {A : Around} {E : Value → Shared → Prop} {s : Shared} {K : Frag} {R : Result → Shared → Prop} {C : Addr}
/-- the name that a class keeps in its slots -/
theorem kept_name {tp v : Value} {o : Obj} (X : K.In s.heap) (tC : typeIn K (.ref C) = some (.type "type")) (ho : K.lookup C = some o) (hs : o.slots[2]? = some (some v)) (h : R (.ok (.ret v)) s) :
    codeAny (model prog w) A (.call (.builtin "getset_descriptor.__get__") ⟨[.builtin "type.__name__", .ref C, tp], []⟩) R s := by
  obtain ⟨hp, g, dr, tk, os⟩ := s
  have isTy : Looks (model prog w) hp (typeOf (.ref C)) (.type "type") := looks_typeIn X tC
  have same : Looks (model prog w) hp (isSubtype (.type "type") (.type "type")) true := .of_pure (by rw [isSubtype_type]; kernel_rfl)
  refine codeAny_call_builtin KF.slot_gs.plain KF.entry_gs (KF.slot_gs.check _ _ _ _ _ _ _ _ ktyn_type (KF.args_gs _ _ _) ?_)
  unfold Builtin.«getset_descriptor.__get__» descrGet
  rw [show descrGetArgs ⟨[.builtin "type.__name__", .ref C, tp], []⟩ = pure (.builtin "type.__name__", some (.ref C), given tp) by kernel_rfl]
  refine wpAny_bind (wpAny_pure ?_); unfold descrGetter descrCheckInstance descrNameAndClass isInstance
  simp only [ktyn_owner]; repeat lk
  refine ⟨Code.quiet_builtin _ (by decide +kernel), codeAny_builtin ktyn_entry ?_⟩
  unfold Builtin.«type.__name__» keptObject slotAt; dsimp only
  refine wpAny_bind (wpAny_bind (wpAny_loadPart_at (X _ _ ho) (wpAny_pure ?_))); rw [hs]
  exact wpAny_pure h
theorem name_of_class {v : Value} {o : Obj} {ex : Bool} {Q : Value → Shared → Prop} (X : K.In s.heap) (hr : readsIn K C (.type "type") = true)
    (e : findCls K (.ref C) (.type "type") "__name__" = some (.get (.builtin "getset_descriptor.__get__") (.builtin "type.__name__") (.ref C) (.type "type")))
    (tC : typeIn K (.ref C) = some (.type "type")) (ho : K.lookup C = some o) (hs : o.slots[2]? = some (some v)) (hv : handedIn v = true) (h : Q v { s with toks := s.toks + 1 }) :
    wpAny (model prog w) A (getAttr (.ref C) "__name__" ex) Q E s := cls_bind X hr e (wpAny_call (kept_name (s := { s with toks := s.toks + 1 }) X tC ho hs (handed_on hv h)))
/-- what the written part says of an own error class -/
structure Own (K : Frag) (D : Addr) : Prop where
  cl : (clsIn K D).isSome = true
  ga : findIn K (.ref D) "__getattribute__" = some (some (.builtin "BaseException.__getattribute__"))
  gt : findIn K (.ref D) "__getattr__" = some none
  sub : subIn K (.ref D) (.type "BaseException") = some true
  at_ : findIn K (.ref D) "__class__" = some (some (.builtin "object.__class__"))
  sp : specialIn K (.builtin "object.__class__") "__get__" = some (some (.builtin "getset_descriptor.__get__"))
  tk : takesIn K (.builtin "object.__class__") = some true
  mro : mroIn K D (.type "object") = some true
theorem class_of_error {x D : Addr} {ox : Obj} {od : Option Obj} {ex : Bool} {Q : Value → Shared → Prop} (T : Own K D) (X : K.In s.heap) (I : InstAt s.heap x ox D od) (h : Q (.ref D) { s with toks := s.toks + 1 }) :
    wpAny (model prog w) A (getAttr (.ref x) "__class__" ex) Q E s := by
  have hf : findObj K D od "__class__" = some (.bind (.builtin "getset_descriptor.__get__") (.builtin "object.__class__")) := findObj_dataE T.cl T.at_ T.sp T.tk
  obtain ⟨hp, g, d, t, os⟩ := s
  have l0 := I.type (M := model prog w); have l1 := looks_findIn (M := model prog w) X T.ga
  have l2 := looks_findIn (M := model prog w) X T.gt; have l3 := looks_find (M := model prog w) X I hf
  have isE : Looks (model prog w) hp (isInstance (.ref x) (.type "BaseException")) true := l0.andThen (looks_subIn X T.sub)
  have n2 : (Value.builtin "BaseException.__getattribute__" == Value.builtin "object.__getattribute__") = false := by decide +kernel
  unfold getAttr getAttrBy
  refine wpAny_bind (wpAny_mkText (wpAny_holding (wpAny_bind (l0.at (wpAny_bind (l1.at ?_))))))
  show wpAny _ _ (if (onTheHeap (Value.ref D) && Value.builtin "BaseException.__getattribute__" == Value.builtin "object.__getattribute__") = true then _ else _) _ _ _; rw [n2, Bool.and_false, if_neg Bool.false_ne_true]
  unfold getAttrByItsOwn hookBefore; refine wpAny_bind ?_; rw [if_pos (show onTheHeap (Value.ref D) = true from rfl)]
  refine l2.at (wpAny_bind (wpAny_attempt (wpAny_holding ?_)))
  unfold callGetattribute boundAndCalled; rw [show (ex && onTheHeap (Value.builtin "BaseException.__getattribute__")) = false by cases ex <;> rfl, if_neg Bool.false_ne_true, PySem.F.excAttr_ValueError.ga.bind (.ref x)]
  refine wpAny_bind (wpAny_pure ?_); show wpAny _ _ (call (.builtin "BaseException.__getattribute__") [.ref x, .str "__class__" t]) _ _ _
  refine wpAny_call (codeAny_call_builtin PySem.F.excAttr_ValueError.ga.plain PySem.F.entry_bexc_ga (@PySem.W.check_slot (model prog w) _ _ ⟨hp, g, d, t + 1, os⟩ "BaseException.__getattribute__" "BaseException" "__getattribute__" (.ref x) [.str "__class__" t] [] _ (by decide +kernel) (by decide +kernel) isE (PySem.F.args_bexc_ga (.ref x) (.str "__class__" t)) ?_))
  unfold Builtin.«object.__getattribute__»; refine wpAny_bind (wpAny_of_eq (a := ((Value.ref x : Value), [Value.str "__class__" t])) (by first | rfl | (simp only [slotArgs]; rfl)) ?_)
  refine wpAny_bind (wpAny_pure (wpAny_bind (l0.at (wpAny_bind (l3.at (wpAny_bind (wpAny_holding (wpAny_call (class_get (s := ⟨hp, g, d, t + 1, os⟩) (ox := ox) (od := od) X I T.mro ?_)))))))))
  refine wpAny_pure ?_; show wpAny _ _ (handedOut (.ref D)) _ _ _; rw [handedOut_of (v := .ref D) rfl]
  first | exact wpAny_pure h | exact wpAny_pure (wpAny_pure h)
end
end LX
namespace LX
open PySem PySem.Spec PyProof.Rows L2
/-- .. and of its kept name -/
structure Named (K : PySem.W.Frag) (D : Addr) (nm : Str) : Prop where
  own : Own K D
  rd : PySem.W.readsIn K D (.type "type") = true
  fc : PySem.W.findCls K (.ref D) (.type "type") "__name__" = some (.get (.builtin "getset_descriptor.__get__") (.builtin "type.__name__") (.ref D) (.type "type"))
  ty : PySem.W.typeIn K (.ref D) = some (.type "type")
  lk : ∃ (o : Obj) (t : Tok), K.lookup D = some o ∧ o.slots[2]? = some (some (.str nm t))
  sz : nm.length ≤ 1000
def tCn (K : PySem.W.Frag) (te : TE) : TE := fun σ H Q => te σ H fun x H1 => ∃ (a D : Addr) (nm : Str), x = .ref a ∧ H1 a = some (exo a D none) ∧ Named K D nm ∧ Q (.str nm) H1
/-- self.__class__.__name__ -/
theorem pe_cn {X : Cx} {e : Expr} {te : TE} {p1 p2 : Pos} (he : PE X e te) (hb : attributeBase e "__class__" X.env (eval e X.env) = eval e X.env := by rfl)
    (hb2 : attributeBase (.Attribute e "__class__" p1) "__name__" X.env (eval (.Attribute e "__class__" p1) X.env) = eval (.Attribute e "__class__" p1) X.env := by rfl) : PE X (.Attribute (.Attribute e "__class__" p1) "__name__" p2) (tCn X.K te) := by
  refine ⟨fun pins s σ H Q I h => attr_of hb2 (attr_of hb (thn (he.run pins s σ H _ I h) fun u s1 hh => ?_))⟩
  obtain ⟨x, H1, J, rx, a, D, nm, rfl, ea, T, q⟩ := hh
  obtain rfl : u = Value.ref a := rx
  obtain ⟨t1, hg⟩ := exo_at J.hok ea
  obtain ⟨o, tk, hlk, hsl⟩ := T.lk
  refine class_of_error (od := none) T.own J.kIn ⟨hg, rfl, rfl, True.intro⟩ ?_
  exact name_of_class (s := { s1 with toks := s1.toks + 1 }) J.kIn T.rd T.fc T.ty hlk hsl rfl ⟨.str nm, H1, (J.tok _).tok _, ⟨tk, rfl⟩, q⟩
/-- isinstance(e, c) of a caught error that has fields -/
def rIsD (K : PySem.W.Frag) (D a dd : Addr) : List V → Hp → VK → Prop := fun xs H Q => ∃ (c : V) (cv : Value) (b : Bool) (fs : List (Str × V)), xs = [.ref a, c] ∧ ClsV c cv ∧ H dd = some (.xd fs) ∧ PySem.W.kitOne K (.ref D) cv = some b ∧ Q (.bl b) H
theorem call_isD {X : Cx} {a D dd : Addr} {oe : Obj} {pn : List (Addr × Obj)} (T : Own X.K D) (hz : Zc (.ref D) (some dd) oe) (hf : ∃ vs, oe.data = .fields vs) : CallR (X.suite a ((a, oe) :: pn)) (.builtin "isinstance") (rIsD X.K D a dd) := by
  intro pins s σ H xs us Q I r h
  obtain ⟨c, cv, b, fs, rfl, hcv, hdd, e, q⟩ := h
  obtain ⟨u1, u2, rfl, r1, r2⟩ := vals2 r
  obtain rfl : u1 = Value.ref a := r1
  have ec := hcv.eq r2
  subst ec
  obtain ⟨hget, _⟩ := I.pin (a, oe) (List.mem_append_left _ List.mem_cons_self)
  obtain ⟨vs, hv⟩ := hf
  have hx : ObjOk X.prog X.w H s.heap dd (.xd fs) := I.hok dd _ hdd
  obtain ⟨mA, hns, _⟩ := hx
  obtain ⟨od, ho, _⟩ := lookIn_ns hns
  have J : PySem.W.InstAt s.heap a oe D (some od) := ⟨hget, hz.1, by unfold PySem.W.notCls; rw [hv] <;> rfl, by rw [hz.2]; exact ho⟩
  exact PySem.W.kia_one (PySem.W.kitx_exc T.cl T.ga T.gt T.sub T.at_ T.sp T.tk T.mro) I.kIn J e (fun z => nomatch z) fun tk => ⟨.bl b, H, I.tok tk, rfl, q⟩
end LX
-- EY
/-! further generic texts: // by a divisor of any sign, isinstance of a caught error whose class is told by the reading, the facts of an own error class that keeps a number -/
namespace LX
open PySem PySem.Spec PyProof.Rows L2
def CDivWN (_ j : Int) : Prop := j ≠ 0 ∧ j.natAbs.log2 < 9000
section
variable {X : Cx}
theorem op_fdivWN : OpR X (binaryOp .FloorDiv) (rI CDivWN fun i j => .int (i.fdiv j)) := opI fun _ _ _ _ _ _ _ hc q => floordiv_int hc.1 q (.inl (PyProof.noPylong_of_log2 hc.2))
end
def rIsX (K : PySem.W.Frag) (a : Addr) (cls : Value) (d : Option Addr) : List V → Hp → VK → Prop := fun xs H Q => ∃ (D dd : Addr) (c : V) (cv : Value) (b : Bool) (fs : List (Str × V)), cls = .ref D ∧ d = some dd ∧ Own K D ∧ xs = [.ref a, c] ∧ ClsV c cv ∧
  H dd = some (.xd fs) ∧ PySem.W.kitOne K (.ref D) cv = some b ∧ Q (.bl b) H
theorem call_isX {X : Cx} {a : Addr} {cls : Value} {d : Option Addr} {oe : Obj} {pn : List (Addr × Obj)} (hz : Zc cls d oe) (hf : ∃ vs, oe.data = .fields vs) : CallR (X.suite a ((a, oe) :: pn)) (.builtin "isinstance") (rIsX X.K a cls d) := by
  intro pins s σ H xs us Q I r h
  obtain ⟨D, dd, c, cv, b, fs, rfl, rfl, T, ex, hcv, hdd, e, q⟩ := h
  exact call_isD T hz hf pins s σ H xs us Q I r ⟨c, cv, b, fs, ex, hcv, hdd, e, q⟩
theorem text_len {i : Int} {k : Nat} (hk : 0 < k) (h : i.natAbs < 10 ^ k) : (Str.ofString (toString i)).length ≤ k + 1 := by
  have e := PySem.int_text_length_le10 hk h
  rw [PyProof.Rows.ofString_length]
  exact e
theorem bits_le {i : Int} {k : Nat} (h : i.natAbs < 2 ^ k) : Builtin.Int.intBits i ≤ k := PyProof.Rows.intBits_le h
/-- the base of the text's errors -/
structure Err0 (K : PySem.W.Frag) (mg : Str → Option Value) (st : Stmt) where
  CM : Addr
  f : Addr
  fd : FuncData
  F : Fun K "__init__" "ModelError.__init__" st f fd
  b : Binds K fd ["self", "at"] []
  tI : PySem.W.typeIn K (.ref f) = some (.type "function")
  gM : mg "ModelError" = some (.ref CM)
  mV : mg "ValueError" = none
  vV : PySem.W.findCls K (.type "ValueError") (.type "type") "__init__" = some (.val (.builtin "ValueError.__init__"))
/-- one of them -/
structure ErrC (K : PySem.W.Frag) (mg : Str → Option Value) (x : Str) (CM f : Addr) where
  C : Addr
  nm : Str
  named : Named K C nm
  oex : OexC K C
  noAt : PySem.W.findIn K (.ref C) "at" = some none
  iC : PySem.W.findIn K (.ref C) "__init__" = some (some (.ref f))
  g : mg x = some (.ref C)
  exm : PySem.W.exmOne K (.ref C) (.ref CM) = some true
  kit : PySem.W.kitOne K (.ref C) (.ref C) = some true
  xf : XfC K C
/-- an error of the class at C is taken by a clause for the class at S above it -/
theorem exm_is {K : PySem.W.Frag} {S C : Addr} (h1 : PySem.W.subIn K (.ref S) (.type "BaseException") = some true) (h2 : PySem.W.isClsIn K S = true) (h3 : PySem.W.typeIn K (.ref S) = some (.type "type")) (h4 : PySem.W.subIn K (.ref C) (.ref S) = some true) :
    PySem.W.exmOne K (.ref C) (.ref S) = some true := by
  have a : ((PySem.W.clsIn K S).isSome && PySem.W.typeIn K (.ref S) == some (.type "type")) = true := by
    rw [show (PySem.W.clsIn K S).isSome = true from h2, h3]; rfl
  unfold PySem.W.exmOne
  rw [h1, if_pos (by rfl)]
  show (if ((PySem.W.clsIn K S).isSome && PySem.W.typeIn K (.ref S) == some (.type "type")) = true then PySem.W.subIn K (.ref C) (.ref S) else none) = some true
  rw [if_pos a, h4]
theorem refs_one (c : Addr) : PySem.HandSPX.refsVE [.ref c, .type "ValueError", .type "Exception", .type "BaseException", .type "object"] = true := by
  show PySem.HandSPX.refsVE PySem.HandSPX.veTail = true
  decide +kernel
theorem kit_self (K : PySem.W.Frag) (C : Addr) : PySem.W.kitOne K (.ref C) (.ref C) = some true := by
  unfold PySem.W.kitOne
  rw [if_pos (by simp)]
/-- a and b as a value, where b changes nothing and its answer is known -/
def tAndP (ta tb : TE) : TE := fun σ H Q => ta σ H fun x H1 => ∃ c r, x = .bl c ∧ (c = true → ∀ Q' : VK, Q' (.bl r) H1 → tb σ H1 Q') ∧ Q (.bl (c && r)) H1
theorem pe_andP {X : Cx} {a b : Expr} {rest : List Expr} {ta tb : TE} {pos : Pos} (ha : PE X a ta) (hb : PE X (.BoolOp .And (b :: rest) pos) tb) : PE X (.BoolOp .And (a :: b :: rest) pos) (tAndP ta tb) := by
  refine ⟨fun pins s σ H Q I h => ?_⟩
  refine BoolOp_and (thn (ha.run pins s σ H _ I h) fun v s1 ⟨x, H1, I1, r1, q1⟩ => ?_)
  obtain ⟨c, r, rfl, hA, q⟩ := q1
  cases r1
  refine wpAny_truthy_bool ?_
  cases c with
  | true => exact hb.run pins s1 σ H1 Q I1 (hA rfl Q q)
  | false => exact ⟨.bl false, H1, I1, rfl, q⟩
/-- an error is let go that stood above H -/
theorem upd_back {H : Hp} {a d : Addr} {o1 o2 o3 x : HO} (ha : H a = none) (hd : d ≠ a) : upd (del (upd (upd (upd H a o1) d o2) a o3) a) d x = upd H d x := by
  funext b
  by_cases h1 : b = d
  · rw [h1, upd_same, upd_same]
  · rw [upd_ne h1, upd_ne h1]
    by_cases h2 : b = a
    · rw [h2, del_same, ha]
    · rw [del_ne h2, upd_ne h2, upd_ne h1, upd_ne h2]
/-- __init__ of the text's errors, at an error of the class C -/
def sp_init (K : PySem.W.Frag) : Sp := fun vs H Q _ => ∃ (e C : Addr) (nm : Str) (i : Int), vs = [.ref e, .int i] ∧ H e = some (exo e C none) ∧ Named K C nm ∧ OexC K C ∧ PySem.W.findIn K (.ref C) "at" = some none ∧ i.natAbs < 10 ^ 12 ∧
  ∀ d, H d = none → d ≠ e → Q .non (upd (upd H d (exd d [("at", .int i)])) e (exo e C (some d)))
/-- what a raise asks when the class's __init__ is as above -/
theorem raised {K : PySem.W.Frag} {mg : Str → Option Value} {x : Str} {CM f : Addr} (T : ErrC K mg x CM f) {H : Hp} {n : Int} {E : XK} (hn : n.natAbs < 10 ^ 12) (q : ∀ d, H d = none → E (.ref T.C) (some d) (upd H d (.xd [("at", .int n)]))) (a : Addr) (ha : H a = none) :
    sp_init K (.ref a :: ([.int n] ++ [])) (upd H a (exo a T.C none)) (fun v H2 => v = .non ∧ ∃ (d : Addr) (fs : List (Str × V)), H2 a = some (exo a T.C (some d)) ∧ H2 d = some (exd d fs) ∧ H d = none ∧ E (.ref T.C) (some d) (upd (del H2 a) d (.xd fs))) (fun _ _ _ => False) := by
  refine ⟨a, T.C, T.nm, n, rfl, upd_same, T.named, T.oex, T.noAt, hn, fun d hd ne => ⟨rfl, d, [("at", .int n)], upd_same, ?_, ?_, ?_⟩⟩
  · rw [upd_ne ne]; exact upd_same
  · rw [upd_ne ne] at hd; exact hd
  · rw [upd_ne ne] at hd
    rw [upd_back ha ne]
    exact q d hd
end LX
-- EZ
/-! the number that a caught error keeps, where the reading tells which class it has -/
namespace LX
open PySem PySem.Spec PyProof.Rows L2
def tXfA (K : PySem.W.Frag) (a : Addr) (cls : Value) (d : Option Addr) (n : Str) (te : TE) : TE := fun σ H Q => ∃ C : Addr, XfC K C ∧ PySem.W.findIn K (.ref C) n = some none ∧ tXf a cls d C n te σ H Q
theorem pe_xfA {X : Cx} {a : Addr} {oe : Obj} {cls : Value} {d : Option Addr} {pn : List (Addr × Obj)} {e : Expr} {te : TE} {pos : Pos} {n : Str}
    (hz : Zc cls d oe) (hf : ∃ vs, oe.data = .fields vs) (he : PE (X.suite a ((a, oe) :: pn)) e te) (hb : attributeBase e n X.env (eval e X.env) = eval e X.env := by rfl) :
    PE (X.suite a ((a, oe) :: pn)) (.Attribute e n pos) (tXfA X.K a cls d n te) :=
  ⟨fun pins s σ H Q I ⟨_, T, hno, h⟩ => (pe_xf T hno hz hf he hb).run pins s σ H Q I h⟩
end LX
-- HX
/-! list comprehensions and tuple targets where an exception is handled -/
namespace HX
open PySem PySem.Spec PyProof.Rows L2 HotX
/-- an exception is handled, its context is nothing, in any state of X -/
def HotI (X : Cx) : Prop := ∀ (pp : List (Addr × Obj)) (τ : L2.St) (G : Hp) (u : Shared), Inv X pp τ G u → ∃ y, HotAt X.A y u.heap
section
variable {pg : Program} {wd : World} {Ar : Around} {Er : Value → Shared → Prop} {u : Shared}
theorem hot_ne {y it : Addr} {h : Heap} {o o1 : Obj} {vs vs1 : Array Value} (g1 : h.get? y = some o1) (d1 : o1.data = .fields vs1) (c1 : vs1[2]? = some .none) (g : h.get? it = some o) (d : o.data = .fields vs) (sz : vs.size ≤ 2) : it ≠ y := fun z => by
  subst z
  rw [g] at g1
  cases g1
  rw [d] at d1
  cases d1
  rw [Array.getElem?_eq_none sz] at c1
  cases c1
theorem end_list {itr lst y : Addr} {k : Nat} {ys : Array Value} {R : Option Value → Shared → Prop} (hot : HotAt Ar y u.heap) (hi : u.heap.IsListIter itr lst k) (hl : u.heap.IsList lst ys) (hk : ys[k]? = none)
    (hR : ∀ g, Heap.ExtBut itr u.heap g → R none { u with heap := g }) : wpAny (model pg wd) Ar (pyNext (.ref itr)) R Er u := by
  obtain ⟨oi, gi, ci, di⟩ := id hi
  obtain ⟨ol, gl, _, nl, dl⟩ := hl
  obtain ⟨hh, o1, vs1, g1, d1, c1⟩ := hot
  have ne := hot_ne g1 d1 c1 gi di (by simp)
  unfold pyNext
  refine wpAny_bind (wpAny_attempt (wpAny_callSpecial?_slot (name := Str.ofString "__next__") hi.typeIs slot_listiter_next (wpAny_call_entry slot_listiter_next hi.typeIs entry_listiter_next ?_ (args_listiter_next _))))
  show wpAny _ _ (field (.ref itr) 0 >>= _) _ _ u
  refine wpAny_bind (wpAny_field gi di (x := .ref lst) rfl ?_)
  show wpAny _ _ (if (Value.ref lst == Value.none) = true then _ else _) _ _ u
  rw [if_neg (show ¬ ((Value.ref lst == Value.none) = true) from Bool.false_ne_true)]
  show wpAny _ _ (field (.ref itr) 1 >>= _) _ _ u
  refine wpAny_bind (wpAny_field gi di (x := .int k 0) rfl ?_)
  show wpAny _ _ (seqItems? (.ref lst) >>= _) _ _ u
  refine wpAny_bind (wpAny_seqItems gl dl ?_)
  simp only [Int.toNat_natCast, hk]
  refine wpAny_bind (wpAny_rule (wpAny_bind (wpAny_setField gi di (by simp) ?_)))
  refine wpAny_bind ?_
  show wpAny _ _ (newExc (.type "StopIteration") [] >>= fun x => _) _ _ _
  refine wpAny_bind ?_
  simp only [newExc, newTuple]
  refine wpAny_bind (wpAny_newObj_type ?_ (by size_fits))
  refine wpAny_bind (m := firstArgMember _ _) (wpAny_of_eq (a := Value.none) (by first | rfl | (simp only [firstArgMember]; rfl)) ?_)
  refine wpAny_newObj_type ?_ (by size_fits)
  have kp : ∀ b o, b ≠ itr → u.heap.get? b = some o → ∀ (f : Obj → Obj) (p q : Obj), (((u.heap.update itr f).push p).push q).get? b = some o := fun b o hb e f p q => Heap.get?_push_of_some _ (Heap.get?_push_of_some _ ((Heap.get?_update_other _ _ (fun z => hb z.symm)).trans e))
  refine wpAny_pure ?_
  refine raiseNew_hot ⟨hh, o1, vs1, kp _ _ ne.symm g1 _ _ _, d1, c1⟩ (Nat.ne_of_lt (Heap.lt_size (Heap.get?_push_of_some _ ((Heap.get?_update_other _ _ ne).trans g1)))) (Heap.get?_push_size _ rfl) rfl (by first | (simp; done) | (simp; omega)) ?_
  refine wpAny_bind (wpAny_isInstance (T := "StopIteration") (b := true) ⟨_, Heap.get?_update_self _ (Heap.get?_push_size _ rfl) rfl, rfl⟩ isSubtype_stop ?_)
  refine wpAny_pure (hR _ fun b o hb e => ?_)
  have k2 := kp b o hb e
  rw [Heap.get?_update_other _ _ (Nat.ne_of_gt (Heap.lt_size (Heap.get?_push_of_some _ ((Heap.get?_update_other _ _ (fun z => hb z.symm)).trans e))))]
  exact k2 _ _ _
theorem end_tup {itr lst y : Addr} {k : Nat} {ys : Array Value} {R : Option Value → Shared → Prop} (hot : HotAt Ar y u.heap) (hi : IsTupIter u.heap itr lst k) (hl : IsTup u.heap lst ys) (hk : ys[k]? = none)
    (hR : ∀ g, Heap.ExtBut itr u.heap g → R none { u with heap := g }) : wpAny (model pg wd) Ar (pyNext (.ref itr)) R Er u := by
  obtain ⟨oi, gi, ci, di⟩ := id hi
  obtain ⟨ol, gl, _, nl, dl⟩ := hl
  obtain ⟨hh, o1, vs1, g1, d1, c1⟩ := hot
  have ne := hot_ne g1 d1 c1 gi di (by simp)
  unfold pyNext
  refine wpAny_bind (wpAny_attempt (wpAny_callSpecial?_slot (name := Str.ofString "__next__") hi.typeIs slot_tupleiter_next (wpAny_call_entry slot_tupleiter_next hi.typeIs entry_tupleiter_next ?_ (args_tupleiter_next _))))
  show wpAny _ _ (field (.ref itr) 0 >>= _) _ _ u
  refine wpAny_bind (wpAny_field gi di (x := .ref lst) rfl ?_)
  show wpAny _ _ (if (Value.ref lst == Value.none) = true then _ else _) _ _ u
  rw [if_neg (show ¬ ((Value.ref lst == Value.none) = true) from Bool.false_ne_true)]
  show wpAny _ _ (field (.ref itr) 1 >>= _) _ _ u
  refine wpAny_bind (wpAny_field gi di (x := .int k 0) rfl ?_)
  show wpAny _ _ (seqItems? (.ref lst) >>= _) _ _ u
  refine wpAny_bind (wpAny_seqItems gl dl ?_)
  simp only [Int.toNat_natCast, hk]
  refine wpAny_bind (wpAny_rule (wpAny_bind (wpAny_setField gi di (by simp) ?_)))
  refine wpAny_bind ?_
  show wpAny _ _ (newExc (.type "StopIteration") [] >>= fun x => _) _ _ _
  refine wpAny_bind ?_
  simp only [newExc, newTuple]
  refine wpAny_bind (wpAny_newObj_type ?_ (by size_fits))
  refine wpAny_bind (m := firstArgMember _ _) (wpAny_of_eq (a := Value.none) (by first | rfl | (simp only [firstArgMember]; rfl)) ?_)
  refine wpAny_newObj_type ?_ (by size_fits)
  have kp : ∀ b o, b ≠ itr → u.heap.get? b = some o → ∀ (f : Obj → Obj) (p q : Obj), (((u.heap.update itr f).push p).push q).get? b = some o := fun b o hb e f p q => Heap.get?_push_of_some _ (Heap.get?_push_of_some _ ((Heap.get?_update_other _ _ (fun z => hb z.symm)).trans e))
  refine wpAny_pure ?_
  refine raiseNew_hot ⟨hh, o1, vs1, kp _ _ ne.symm g1 _ _ _, d1, c1⟩ (Nat.ne_of_lt (Heap.lt_size (Heap.get?_push_of_some _ ((Heap.get?_update_other _ _ ne).trans g1)))) (Heap.get?_push_size _ rfl) rfl (by first | (simp; done) | (simp; omega)) ?_
  refine wpAny_bind (wpAny_isInstance (T := "StopIteration") (b := true) ⟨_, Heap.get?_update_self _ (Heap.get?_push_size _ rfl) rfl, rfl⟩ isSubtype_stop ?_)
  refine wpAny_pure (hR _ fun b o hb e => ?_)
  have k2 := kp b o hb e
  rw [Heap.get?_update_other _ _ (Nat.ne_of_gt (Heap.lt_size (Heap.get?_push_of_some _ ((Heap.get?_update_other _ _ (fun z => hb z.symm)).trans e))))]
  exact k2 _ _ _
theorem items_tup {y tt : Addr} {ys : Array Value} {R : List Value → Shared → Prop} (hot : HotAt Ar y u.heap) (ht : IsTup u.heap tt ys)
    (hR : ∀ g, Heap.ExtBut u.heap.objs.size u.heap g → R ys.toList { u with heap := g }) : wpAny (model pg wd) Ar (unpackItems (.ref tt) ys.size none) R Er u := by
  have lt : tt ≠ u.heap.objs.size := by
    obtain ⟨o, ho, _⟩ := ht
    exact Nat.ne_of_lt (Heap.lt_size ho)
  unfold unpackItems
  refine wpAny_bind ?_
  unfold notIterableAtAll
  refine wpAny_bind (wpAny_specialOf ht.typeIs slot_tuple_iter.lookup ?_)
  refine wpAny_pure ?_
  simp only [Bool.false_eq_true, if_false]
  refine wpAny_bind (wpAny_holding (iter_tuple ht ?_))
  refine wpAny_bind (wpAny_holding (draw_tuple lt ys.size 0 _ _ ⟨_, Heap.get?_push_size _ rfl, rfl, rfl⟩ (ht.push _) (by omega) fun g1 i1 s1 => ?_))
  have all : List.take ys.size (List.drop 0 ys.toList) = ys.toList := by rw [List.drop_zero]; exact List.take_of_length_le (by simp)
  rw [all, if_neg (by simp)]
  have t1 : IsTup g1 tt ys := (ht.push _).extBut s1.extBut lt
  have h1 : HotAt Ar y g1 := by
    obtain ⟨hh, o1, vs1, a1, d1, c1⟩ := hot
    exact ⟨hh, o1, vs1, s1.extBut y o1 (Nat.ne_of_lt (Heap.lt_size a1)) (Heap.get?_push_of_some _ a1), d1, c1⟩
  refine wpAny_bind (wpAny_holding (end_tup h1 i1 t1 (by simp) fun g2 e2 => ?_))
  simp only [Option.isSome_none, Bool.false_eq_true, if_false]
  exact wpAny_pure (hR g2 fun b o hb e => e2 b o hb (s1.extBut b o hb (Heap.get?_push_of_some _ e)))
theorem assign_tup {env : Env} {es : List Expr} {x1} {pos : Pos} {y tt : Addr} {ys : Array Value} {R : Unit → Shared → Prop} (hot : HotAt Ar y u.heap) (ht : IsTup u.heap tt ys) (hn : (assignEach es env).length = ys.size) (hst : (assignEach es env).findIdx? (·.1) = none)
    (h : ∀ g, Heap.ExtBut u.heap.objs.size u.heap g → wpAny (model pg wd) Ar (assignInOrder ((assignEach es env).map (·.2)) ys.toList) R Er { u with heap := g }) : wpAny (model pg wd) Ar (assign (.Tuple es x1 pos) env (.ref tt)) R Er u := by
  rw [assign_Tuple]
  refine wpAny_bind (wpAny_standAt ?_)
  unfold unpack
  rw [hn, hst]
  exact wpAny_bind (wpAny_holding (items_tup hot ht h))
end
section
variable {X : Cx} {pos : Pos}
theorem pg_tupI {es : List Expr} {k : Nat} {t : TGs} {n : Nat} (hc : HotI X) (h : PGs X es t) (hn : (assignEach es X.env).length = n := by rfl) (hst : (assignEach es X.env).findIdx? (·.1) = none := by rfl) : PG X (.Tuple es k pos) (gTup X.K n t) := by
  refine ⟨fun pp s τ G v w Q I r hw => ?_⟩
  obtain ⟨a, xs, rfl, hq, hl, hw⟩ := hw
  cases r
  obtain ⟨its, rv, ht, hz⟩ := I.tuple hq
  obtain ⟨y, hot⟩ := hc _ _ _ _ I
  refine assign_tup hot ht (by simp [hn, ← hl, rv.length]) hst fun g hx => ?_
  exact h.run pp _ τ G xs _ Q (I.kept (t' := s.toks) fun b o e => hx b o (Nat.ne_of_lt (Heap.lt_size e)) e) (by simpa using rv) hw
end
/-- a walk where an exception is handled -/
structure TurnI (P : Program) (w : World) (K : PySem.W.Frag) (tg : Expr) (J : It) (fp : List Addr) (it : Addr) (tn : Nat → Heap → Prop) : Prop where
  mem : it ∈ fp
  obj : ∀ i h, tn i h → ∀ b ∈ fp, ∃ o, h.get? b = some o ∧ ∀ v, o.data ≠ .cell v
  keep : ∀ i h h', tn i h → (∀ b ∈ fp, ∀ o, h.get? b = some o → h'.get? b = some o) → tn i h'
  item : ∀ (X : Cx), X.prog = P → X.w = w → X.K = K → HotI X → ∀ (i : Nat) (pp : List (Addr × Obj)) (s : Shared) (τ : L2.St) (G : Hp) (E : Value → Shared → Prop), Inv X pp τ G s → (∀ b ∈ fp, FpOk X pp G b) → tn i s.heap → J.go i G →
    wpAny (model P w) X.A (pyNext (.ref it)) (fun r s1 => ∃ u, r = some u ∧ wpAny (model P w) X.A (letOwnedTupleGo tg (.ref it) u) (fun _ s2 => ∃ x G', Inv X pp τ G' s2 ∧ RelV x u ∧ J.yld i G x G' ∧ tn (i + 1) s2.heap ∧ ∀ b ∈ fp, G' b = none) E s1) E s
  done : ∀ (X : Cx), X.prog = P → X.w = w → X.K = K → HotI X → ∀ (i : Nat) (pp : List (Addr × Obj)) (s : Shared) (τ : L2.St) (G : Hp) (E : Value → Shared → Prop), Inv X pp τ G s → (∀ b ∈ fp, FpOk X pp G b) → tn i s.heap → J.stop i G →
    wpAny (model P w) X.A (pyNext (.ref it)) (fun r s1 => r = none ∧ Inv X pp τ G s1) E s
  self : ∀ (A : Around) (i : Nat) (s : Shared) (Q : Value → Shared → Prop) (E : Value → Shared → Prop), tn i s.heap → Q (.ref it) s → wpAny (model P w) A (pyIter (.ref it)) Q E s
theorem turn_listI {P : Program} {w : World} {K : PySem.W.Frag} {tg : Expr} (a it : Addr) : TurnI P w K tg (Itl K a) [it] it (fun i h => h.IsListIter it a i) where
  mem := List.mem_cons_self
  obj := fun i h st b hb => by
    rw [List.mem_singleton.mp hb]
    obtain ⟨o, e, c, d⟩ := st
    exact ⟨o, e, fun v z => by rw [d] at z; cases z⟩
  keep := fun i h h' st k => st.at fun o e => k it List.mem_cons_self o e
  item := by
    intro X hP hw hK hc i pp s τ G E I hf st hg
    subst hP hw hK
    obtain ⟨xs, x, hq, hx⟩ := hg
    obtain ⟨its, rv, p, hz⟩ := I.list hq
    obtain ⟨v, hv, rvx⟩ := rv.get hx
    obtain ⟨f0, f1, f2, f3, f4, f5⟩ := hf it List.mem_cons_self
    refine wpAny_pyNext_list_item st p.isList (x := v) (by simpa using hv) fun g st' sb => ?_
    have I1 : Inv X pp τ G { s with heap := g } := I.turned (t' := s.toks) (fun b o hb e => (sb.2 b hb).trans e) f0 f1 f3 f4 f5
    obtain ⟨o, e, c, d⟩ := id st'
    exact ⟨v, rfl, go_of (s := { s with heap := g }) e c d (by decide) ⟨x, G, I1, rvx, ⟨rfl, fun ys hy => by rw [I.list_inj hy hq]; exact hx⟩, st', fun b hb => (hf b hb).1⟩⟩
  done := by
    intro X hP hw hK hc i pp s τ G E I hf st hg
    subst hP hw hK
    obtain ⟨xs, hq, hx⟩ := hg
    obtain ⟨its, rv, p, hz⟩ := I.list hq
    obtain ⟨f0, f1, f2, f3, f4, f5⟩ := hf it List.mem_cons_self
    have hl := rv.length
    obtain ⟨y, hot⟩ := hc _ _ _ _ I
    exact end_list hot st p.isList (by simp; omega) fun g eb => ⟨rfl, I.turned (t' := s.toks) (fun b o hb e => eb b o hb e) f0 f1 f3 f4 f5⟩
  self := fun _ _ _ _ _ st h => wpAny_pyIter_listiter st h
def PIEI (X : Cx) (pp : List (Addr × Obj)) (τ : L2.St) (tg : Expr) (R : It → Hp → Prop) (itv : Value) (s2 : Shared) : Prop :=
  ∃ (it : Addr) (fp : List Addr) (tn : Nat → Heap → Prop) (J : It) (G' : Hp), itv = .ref it ∧ Inv X pp τ G' s2 ∧ TurnI X.prog X.w X.K tg J fp it tn ∧ tn 0 s2.heap ∧ (∀ b ∈ fp, FpOk X pp G' b) ∧ R J G'
structure PII (X : Cx) (tg iter : Expr) (wi : TI) : Prop where
  run : ∀ (pp : List (Addr × Obj)) (s : Shared) (τ : L2.St) (G : Hp) (R : It → Hp → Prop), Inv X pp τ G s → wi τ G R → wpAny (model X.prog X.w) X.A (eval iter X.env) (fun v s1 => wpAny (model X.prog X.w) X.A (pyIter v) (PIEI X pp τ tg R) X.xe s1) X.xe s
section
variable {X : Cx} {tg : Expr}
theorem pi_listI {l : Expr} {tl : TE} (hl : PE X l tl) : PII X tg l (iList X.K tl) := by
  refine ⟨fun pp s τ G R I h => thn (hl.run pp s τ G _ I h) fun v s1 ⟨x, G1, I1, r1, q1⟩ => ?_⟩
  obtain ⟨a, rfl, ⟨xs, hq⟩, q⟩ := q1
  cases r1
  obtain ⟨its, rv, p, hz⟩ := I1.list hq
  refine wpAny_pyIter_list p.isList ⟨s1.heap.objs.size, [s1.heap.objs.size], _, _, G1, rfl, I1.kept (t' := s1.toks) fun b o e => Heap.get?_push_of_some _ e, turn_listI a _, ⟨_, Heap.get?_push_size _ rfl, rfl, rfl⟩, fun b hb => ?_, q⟩
  rw [List.mem_singleton.mp hb]
  exact I1.fpOk (Nat.le_refl _) (I1.hok.fresh (Nat.le_refl _))
end
/-- within an except clause -/
theorem hot_suite {X : Cx} {a : Addr} {oe : Obj} {cls : Value} {d : Option Addr} {pn : List (Addr × Obj)} (hz : L2N.Zn cls d oe) (hf : ∃ vs, oe.data = .fields vs) : HotI (X.suite a ((a, oe) :: pn)) := fun pp τ G u I => by
  obtain ⟨vs, e⟩ := hf
  exact ⟨a, rfl, oe, vs, (I.pin (a, oe) (List.mem_append_left _ List.mem_cons_self)).1, e, hz.2.2 vs e⟩
/-- .. and within a block of it -/
theorem hot_blk {X : Cx} {a : Addr} {oe : Obj} {cls : Value} {d : Option Addr} {pn pp : List (Addr × Obj)} {τ : L2.St} {G : Hp} {s : Shared} {scope : Scope} {ce : Env} {fp : List Addr} (hz : L2N.Zn cls d oe) (hf : ∃ vs, oe.data = .fields vs)
    (I : Inv (X.suite a ((a, oe) :: pn)) pp τ G s) (hp : ∀ b ∈ fp, a ≠ b) : HotI ((X.suite a ((a, oe) :: pn)).blk s G scope ce fp) := fun pp2 τ2 G2 u2 I2 => by
  obtain ⟨vs, e⟩ := hf
  obtain ⟨p1, p2, p3, p4, p5⟩ := I.pin (a, oe) (List.mem_append_left _ List.mem_cons_self)
  refine ⟨a, rfl, oe, vs, I2.base.keep a oe p1 p2 (fun z => ?_) (fun z => hp a z rfl), e, hz.2.2 vs e⟩
  rcases List.mem_cons.mp (I.stkSub a z) with y | y
  · exact p3 y
  · exact p4 y
section
variable {X : Cx}
theorem lc_coreI {pp : List (Addr × Obj)} {s : Shared} {τ : L2.St} {G : Hp} {Q : VK} {elt tg iter : Expr} {ifs : List Expr} {scope : Scope} {own : List (Str × Nat)} {pos pos' : Pos} {wi : TI} {g : TG} {tt : TT} {te : TE} {use : Option (Value → Sem Unit)} {Qf : Value → Shared → Prop}
    (hI : HotI X) (hB : ∀ (pp : List (Addr × Obj)) (τ : L2.St) (G : Hp) (u : Shared) (en : Env) (fs : List Addr), Inv X pp τ G u → (∀ b ∈ fs, FpOk X pp G b) → HotI (X.blk u G scope en fs)) (nd : X.N.Nodup) (I : Inv X pp τ G s) (hi : PII X tg iter wi) (bo : BlkOk X.N X.env.scope scope own)
    (hg : ∀ (s : Shared) (G : Hp) (C : Addr) (cl : List (Str × Addr)) (fs : List Addr), HotI (X.blk s G scope (compEnvC scope cl C X.env) fs) → PG (X.blk s G scope (compEnvC scope cl C X.env) fs) tg g) (ht : ∀ (s : Shared) (G : Hp) (C : Addr) (cl : List (Str × Addr)) (fs : List Addr), PTs (X.blk s G scope (compEnvC scope cl C X.env) fs) ifs tt)
    (he : ∀ (s : Shared) (G : Hp) (C : Addr) (cl : List (Str × Addr)) (fs : List Addr), PE (X.blk s G scope (compEnvC scope cl C X.env) fs) elt te) (hs : ∀ x, foldedSetIterable iter X.env x = pure x)
    (h : tLc wi g tt te (own.map (·.2)) τ G Q)
    (hRR : ∀ D C u' m G', Inv X pp τ G' u' → Q (.ref D) G' → u'.heap.Ns C m → FpOk X pp G' C → compPost (model X.prog X.w) X.A X.xe use Qf (.ref D) C (.ok .next) u') :
    wpAny (model X.prog X.w) X.A (comprehension (.ListComp elt [⟨tg, iter, ifs, 0⟩] scope pos) scope X.env pos' (newList []) false (eval iter X.env) use) Qf X.xe s := by
  have fre : ∀ y ∈ scope.names, y.2 = .free → ∃ c, X.env.cells.lookup y.1 = some c := fun y hy e => by
    rcases bo.free y hy e with k | k
    · exact I.ok.has _ (.inl k)
    · exact I.ok.has _ (.inr k)
  refine wpAny_comprehension_free (use := use) rfl hs (closure_ok fre) bo.kind (fun y hy e => by rw [bo.uniq y hy, e])
    (thn (hi.run pp s τ G _ I h) fun xv s1 hx => thn hx fun itv u2 h2 => ?_)
  obtain ⟨it, fs, tn, J, G2, e, I2, T, sta, f2, q⟩ := h2
  subst e
  refine wpAny_newObj_type (newEnv_comp ?_) (by show 0 ≤ sizeLine; decide)
  generalize hD : u2.heap.objs.size = D
  have hDn : G2 D = none := I2.hok.fresh (Nat.le_of_eq hD)
  obtain ⟨W, ⟨m0, w0⟩, turn⟩ := q D hDn
  -- the new list
  generalize hs3 : ({ u2 with heap := u2.heap.push { cls := .type "list", data := .seq ([] : List Value).toArray } } : Shared) = u3
  have I_3 : Inv X pp τ (upd G2 D (.lst [])) u3 := by
    rw [← hs3]
    refine I2.laid (t' := u2.toks) (fun b o e => Heap.get?_push_of_some _ e) (Nat.le_of_eq hD) ⟨Nat.zero_le _, [], 0, .nil, ?_⟩
    rw [← hD]
    exact Heap.get?_push_size _ rfl
  have h3 : u3.heap = u2.heap.push { cls := .type "list", data := .seq ([] : List Value).toArray } := by rw [← hs3]
  have sz : ∀ b ∈ fs, b < u2.heap.objs.size := fun b hb => by
    obtain ⟨o, e, _⟩ := T.obj _ _ sta b hb
    exact Heap.lt_size e
  have f3 : ∀ b ∈ fs, FpOk X pp (upd G2 D (.lst [])) b ∧ b < u3.heap.objs.size := fun b hb => by
    have hlt := sz b hb
    refine ⟨⟨?_, (f2 b hb).2⟩, by rw [h3, Heap.size_push]; exact Nat.lt_succ_of_lt hlt⟩
    rw [upd_ne (by rw [← hD]; exact Nat.ne_of_lt hlt)]
    exact (f2 b hb).1
  have stb : tn 0 u3.heap := T.keep _ _ _ sta fun b _ o e => by rw [h3]; exact Heap.get?_push_of_some _ e
  have I4 := block_start I_3 bo nd f3
  have hot : HotI (X.blk u3 (upd G2 D (.lst [])) scope (compEnvC scope (cellsFrom (u3.heap.objs.size + 1) scope.names (cloFrom X.env.cells scope.names [])) u3.heap.objs.size X.env) fs) := hB pp τ _ u3 _ fs I_3 fun b hb => (f3 b hb).1
  have pg := hg u3 (upd G2 D (.lst [])) u3.heap.objs.size (cellsFrom (u3.heap.objs.size + 1) scope.names (cloFrom X.env.cells scope.names [])) fs hot
  have pt := ht u3 (upd G2 D (.lst [])) u3.heap.objs.size (cellsFrom (u3.heap.objs.size + 1) scope.names (cloFrom X.env.cells scope.names [])) fs
  have pe := he u3 (upd G2 D (.lst [])) u3.heap.objs.size (cellsFrom (u3.heap.objs.size + 1) scope.names (cloFrom X.env.cells scope.names [])) fs
  show codeAny _ _ (.compStart (.ListComp elt [⟨tg, iter, ifs, 0⟩] scope pos) 0 (.ref it) (.ref D) (compEnvC scope (cellsFrom (u3.heap.objs.size + 1) scope.names (cloFrom X.env.cells scope.names [])) u3.heap.objs.size X.env)) (compPost (model X.prog X.w) X.A X.xe use Qf (.ref D) u3.heap.objs.size) { u3 with heap := pushCells (u3.heap.push { cls := .type "dict", data := .dict #[] }) scope.names }
  have nfp : ∀ b ∈ fs, (upd G2 D (.lst [])) b = none := fun b hb => (f3 b hb).1.1
  generalize hce : compEnvC scope (cellsFrom (u3.heap.objs.size + 1) scope.names (cloFrom X.env.cells scope.names [])) u3.heap.objs.size X.env = en at I4 pg pt pe hot ⊢
  have cL : en.locals = u3.heap.objs.size := by subst hce; rfl
  generalize hH3 : upd G2 D (.lst []) = G3 at I_3 I4 pg pt pe w0 nfp f3 hot
  generalize hs4 : ({ u3 with heap := pushCells (u3.heap.push { cls := .type "dict", data := .dict #[] }) scope.names } : Shared) = u4 at I4 ⊢
  have std : tn 0 u4.heap := T.keep _ _ _ stb fun b _ o e => by rw [← hs4]; exact pushCells_keeps _ _ _ _ (Heap.get?_push_of_some _ e)
  have stat : ∀ {τ' : L2.St} {G' : Hp} {u' : Shared}, Inv (X.blk u3 G3 scope en fs) [] τ' G' u' → (∀ b ∈ fs, G' b = none) → ∀ b ∈ fs, FpOk (X.blk u3 G3 scope en fs) [] G' b := fun {τ' G' u'} I' hn b hb =>
    ⟨hn b hb, (I'.ok.exf b hb).1, I'.ok.exfs b hb, .inl hb, fun x c e => (I'.ok.exf b hb).2 x c e, fun p hp => absurd (show p ∈ ([] : List (Addr × Obj)) ++ [] from hp) (by simp)⟩
  have loop : codeAny (model X.prog X.w) X.A (.compLoop (.ListComp elt [⟨tg, iter, ifs, 0⟩] scope pos) 0 (.ref it) (.ref D) en) (compPost (model X.prog X.w) X.A X.xe use Qf (.ref D) u3.heap.objs.size) u4 := by
    refine compLoop_any (fun n u' => ∃ i G', Inv (X.blk u3 G3 scope en fs) [] (wipe τ (own.map (·.2))) G' u' ∧ tn i u'.heap ∧ (∀ b ∈ fs, G' b = none) ∧ W i n G') ?_ m0 ⟨0, G3, I4, std, nfp, w0⟩
    rintro n u5 ⟨i, G5, I5, st5, n5, w5⟩
    rcases turn i n G5 w5 with ⟨stop, qq⟩ | ⟨go, Nx, hNx, step⟩
    · have td := T.done (X.blk u3 G3 scope en fs) rfl rfl rfl hot i [] u5 _ G5 (fun _ _ => False) I5 (stat I5 n5) st5 stop
      refine thnF td fun r u6 ⟨hr, I6⟩ => ?_
      subst hr
      -- back in the def's context
      have I7 : Inv X pp τ G5 u6 := I_3.call' (ch := fs) I6.os I6.base I6.hok I6.bare fun b hb => ⟨(f3 b hb).1.2.2.2.1, (f3 b hb).1.2.1, (f3 b hb).1.2.2.2.2.1, (f3 b hb).1.2.2.2.2.2⟩
      have nC : G5 u3.heap.objs.size = none := by
        have z : G5 en.locals = none := I6.free
        rw [cL] at z
        exact z
      obtain ⟨m, hn, _⟩ := I6.loc
      have hn : u6.heap.Ns en.locals m := hn
      rw [cL] at hn
      exact hRR D u3.heap.objs.size u6 m G5 I7 qq hn (I_3.fpOk (Nat.le_refl _) nC)
    · have ti := T.item (X.blk u3 G3 scope en fs) rfl rfl rfl hot i [] u5 _ G5 (fun _ _ => False) I5 (stat I5 n5) st5 go
      refine thnF ti fun r u6 ⟨u, hr, h6⟩ => ?_
      subst hr
      refine thnF h6 fun _ u7 ⟨x, G7, I7, r7, y7, st7, n7⟩ => ?_
      have I7' := I7.pinned (stat I7 n7) (T.obj _ _ st7)
      refine thnF (pg.run _ u7 _ G7 x u _ I7' r7 (step x G7 y7)) fun _ u8 ⟨τ8, G8, I8, hw8, q8⟩ => ?_
      refine thnF (pt.run _ u8 τ8 G8 _ I8 q8) fun b u9 ⟨G9, I9, q9⟩ => ?_
      -- the turn's end
      have fin : ∀ {u' : Shared} {G' : Hp}, Inv (X.blk u3 G3 scope en fs) ([] ++ pinsAt fs u7.heap) τ8 G' u' → Nx G' → ∃ m, m < n ∧ ∃ i G', Inv (X.blk u3 G3 scope en fs) [] (wipe τ (own.map (·.2))) G' u' ∧ tn i u'.heap ∧ (∀ b ∈ fs, G' b = none) ∧ W i m G' := fun {u' G'} I' nx => by
        obtain ⟨m', hm, w'⟩ := hNx G' nx
        have pin' : ∀ b ∈ fs, ∀ o, u7.heap.get? b = some o → u'.heap.get? b = some o ∧ G' b = none := fun b hb o e =>
          let z := I'.pin (b, o) (List.mem_append_right _ (List.mem_append_right _ (mem_pinsAt hb e)))
          ⟨z.1, z.2.1⟩
        have hl : (wipe τ (own.map (·.2))).length = τ8.length := by rw [← hw8, wipe_length]
        refine ⟨m', hm, i + 1, G', (I'.unpinned (pins := [])).weak hl (fun j v e => ?_), T.keep _ _ _ st7 fun b hb o e => (pin' b hb o e).1, fun b hb => ?_, w'⟩
        · rw [← hw8] at e
          exact (wipe_some e).1
        · obtain ⟨o, e, _⟩ := T.obj _ _ st7 b hb
          exact (pin' b hb o e).2
      cases b with
      | false =>
        simp only [Bool.false_eq_true, if_false] at q9 ⊢
        exact fin I9 q9
      | true =>
        simp only [if_true] at q9 ⊢
        refine thnF (pe.run _ u9 τ8 G9 _ I9 q9) fun z u10 ⟨yv, G10, I10, r10, acc, hD10, hz10, nx⟩ => ?_
        exact app_ok (X := X.blk u3 G3 scope en fs) I10 hD10 hz10 r10 fun u11 I11 => fin I11 nx
  exact codeAny_compStart_list loop (T.self X.A 0 _ _ _ std loop)
theorem pe_lcI {elt tg iter : Expr} {ifs : List Expr} {scope : Scope} {own : List (Str × Nat)} {pos : Pos} {wi : TI} {g : TG} {tt : TT} {te : TE} (hI : HotI X) (hB : ∀ (pp : List (Addr × Obj)) (τ : L2.St) (G : Hp) (u : Shared) (en : Env) (fs : List Addr), Inv X pp τ G u → (∀ b ∈ fs, FpOk X pp G b) → HotI (X.blk u G scope en fs)) (nd : X.N.Nodup) (hi : PII X tg iter wi) (bo : BlkOk X.N X.env.scope scope own)
    (hg : ∀ (s : Shared) (G : Hp) (C : Addr) (cl : List (Str × Addr)) (fs : List Addr), HotI (X.blk s G scope (compEnvC scope cl C X.env) fs) → PG (X.blk s G scope (compEnvC scope cl C X.env) fs) tg g) (ht : ∀ (s : Shared) (G : Hp) (C : Addr) (cl : List (Str × Addr)) (fs : List Addr), PTs (X.blk s G scope (compEnvC scope cl C X.env) fs) ifs tt)
    (he : ∀ (s : Shared) (G : Hp) (C : Addr) (cl : List (Str × Addr)) (fs : List Addr), PE (X.blk s G scope (compEnvC scope cl C X.env) fs) elt te) (hs : ∀ x, foldedSetIterable iter X.env x = pure x := by intro _; rfl) :
    PE X (.ListComp elt [⟨tg, iter, ifs, 0⟩] scope pos) (tLc wi g tt te (own.map (·.2))) := by
  refine ⟨fun pp s τ G Q I h => ?_⟩
  rw [eval_ListComp]
  refine lc_coreI hI hB nd I hi bo hg ht he hs h fun D C s' m G' I' q hn f => ⟨m, hn, fun h'' sb => ?_⟩
  exact ⟨.ref D, G', I'.turned (t' := s'.toks) (fun b o hb e => (sb.2 b hb).trans e) f.1 f.2.1 f.2.2.2.1 f.2.2.2.2.1 f.2.2.2.2.2, rfl, q⟩
end
/-! ### making an own error that keeps a number, its context nothing -/
section
variable {X : Cx}
theorem mk_endN {pp : List (Addr × Obj)} {τ : L2.St} {G1 G2 : Hp} {Q : XK} {ha hb hc : Heap} {g1 g2 : Array GenState} {d1 d2 : Drawn} {t1 t2 : Nat} {os1 os2 : OsState} {a C d : Addr} {fs : List (Str × V)} (T : Raises X (.ref C)) (I1 : Inv X pp τ G1 ⟨ha, g1, d1, t1, os1⟩)
    (le : ha.objs.size ≤ a) (k : ∀ b o, ha.get? b = some o → hb.get? b = some o) (un : Un (frs X.stack) [] (upd G1 a (exo a C none)) G2 hb hc) (hok : HOk X.prog X.w G2 hc) (ho : os2 = os1) (bare : AllBare g2)
    (ea : G2 a = some (exo a C (some d))) (ed : G2 d = some (exd d fs)) (hd1 : G1 d = none) (q : Q (.ref C) (some d) (upd (del G2 a) d (.xd fs))) : L2N.MkP X pp τ Q (.ref a) ⟨hc, g2, d2, t2, os2⟩ := by
  obtain ⟨t0, Gx, J, kG, ge, hoe, na⟩ := mk_end0 (d2 := d2) (t2 := t2) I1 le k un hok ho bare ea ed hd1
  exact ⟨a, _, _, ⟨Gx, g2, d2, t2, os2⟩, _, .ref C, some d, rfl, J, kG, ge, hoe, ⟨rfl, rfl, fun vs z => by cases z; rfl⟩, rfl, rfl, na, rfl, bare, T, q⟩
theorem pmk_oexN {CX : CXT} {x : Str} {C fI : Addr} {k : Nat} {fd : FuncData} {ps : List Str} {sp : Sp} {ds : List Value} {dvs : List V} (T : OexC X.K C) (iC : PySem.W.findIn X.K (.ref C) "__init__" = some (some (.ref fI))) (tI : PySem.W.typeIn X.K (.ref fI) = some (.type "function"))
    (F1 : FnOk X.prog X.w X.K X.mg X.base CX k fI fd ps sp) (hr : Room (k + 1) X.A) (hb : Binds X.K fd ps ds) (hd : Vals dvs ds) (hx : Passes CX X (fun _ _ _ => False)) (hg : Gl X x) (hm : X.mg x = some (.ref C)) (ha : PA X (e :: es) ta)
    (hdb : (x == ("__debug__" : Str)) = false := by decide) (he : starEach (e :: es) X.env = (false, eval e X.env) :: starEach es X.env := by rfl) (hpl : (backTo pos (starEach es X.env)).any (·.1) = false := by rfl) :
    L2N.PMk X (.Call (.Name x p) (e :: es) [] pos) (tMkO C sp dvs ta) := by
  intro pp s τ G Q I h
  obtain ⟨nm, q, N, bs, bm, sn, sub, ab, col, dd, k0, k1, k2, k3, k5, hC, hbm⟩ := T.cls
  refine wpAny_Call_Name_kw (ld_glob I hg hm ?_ hdb)
  refine PySem.W.callWith_K (h₀ := X.base) I.ok.mod.kin T.kC (thn (ha.run pos pp s τ G _ I h) fun vv u1 ⟨vs, G1, I1, r1, hz, q1⟩ => ⟨I1.kIn, ?_⟩) he hpl
  show wpAny _ _ (call (.ref C) vv) _ _ _
  obtain ⟨ha, g, dr, tk, os⟩ := u1
  have le1 : ha.objs.size ≤ ha.objs.size + 1 := Nat.le_succ _
  have hn : G1 (ha.objs.size + 1) = none := I1.hok.fresh le1
  have qq := q1 (ha.objs.size + 1) hn
  have kq : ∀ b o, ha.get? b = some o → ((ha.push (PySem.W.kdv_tup vv)).push (PySem.HandSPX.excO C ha.objs.size)).get? b = some o := fun b o e => Heap.get?_push_of_some _ (Heap.get?_push_of_some _ e)
  have gq : ((ha.push (PySem.W.kdv_tup vv)).push (PySem.HandSPX.excO C ha.objs.size)).get? (ha.objs.size + 1) = some (PySem.HandSPX.excO C ha.objs.size) := by heap_get
  have I2 : Inv X pp τ (upd G1 (ha.objs.size + 1) (exo (ha.objs.size + 1) C none)) ⟨(ha.push (PySem.W.kdv_tup vv)).push (PySem.HandSPX.excO C ha.objs.size), g, dr, tk, os⟩ :=
    I1.laid (t' := tk) (a := ha.objs.size + 1) (o := exo (ha.objs.size + 1) C none) (h' := (ha.push (PySem.W.kdv_tup vv)).push (PySem.HandSPX.excO C ha.objs.size)) kq le1 (exo_ok gq)
  have r2 : Vals (V.ref (ha.objs.size + 1) :: (vs ++ dvs)) (Value.ref (ha.objs.size + 1) :: (vv ++ ds)) := .cons rfl (r1.append hd)
  have pl : (Value.ref (ha.objs.size + 1) :: vv ++ ds).length = ps.length := by
    have e := r2.length
    rw [F1.len _ _ _ _ qq] at e
    exact e.symm
  have ul : vv.length ≤ sizeLine := by
    rw [← Paired.length r1, sizeLine_eq]
    omega
  refine wpAny_call (PySem.HandSPX.call_own F.excBase_ValueError (fun Y => PySem.HandSPX.refsVE_contains Y bm hbm) (I1.kIn _ _ hC) (PySem.W.looks_findIn I1.kIn iC) (fun self => PySem.W.bind_fn I1.kIn self tI) ul
    (codeAny_mono (F1.run _ X.stack _ _ ⟨Value.ref (ha.objs.size + 1) :: vv, []⟩ (Value.ref (ha.objs.size + 1) :: (vv ++ ds)) _ _ (fun _ _ _ => False) (hr.make C vv []) (I2.env0.make C vv []) (hb _ (Value.ref (ha.objs.size + 1) :: vv) I2.kIn pl) r2 qq) fun r u' qr => ?_))
  cases r with
  | error er => exact hx pp τ _ _ er u' I2 qr
  | ok fl =>
    cases fl with
    | ret u =>
      obtain ⟨v, G2, os2, bare2, un2, hok2, rv, ev, d, fs, ea, ed, hd1, q2⟩ := qr
      subst ev
      obtain ⟨h2, g2, d2, t2, os'⟩ := u'
      exact ⟨rv, mk_endN (raises_own T.exC T.tyC) I1 le1 kq un2 hok2 os2 bare2 ea ed hd1 q2⟩
    | next => exact False.elim qr
    | brk => exact False.elim qr
    | cont => exact False.elim qr
end
theorem takes0N {X : Cx} : L2N.Takes X (fun _ _ _ _ => False) := fun u s z => by
  obtain ⟨_, _, _, _, _, _, _, _, _, _, _, _, _, _, _, _, f⟩ := z
  exact f.elim
/-- as okX, for errors whose context is nothing -/
theorem okN {P : Program} {w : World} {K : PySem.W.Frag} {mg : Str → Option Value} {base : Heap} {x qual : Str} {st : Stmt} {f : Addr} {fd : FuncData} {N ps : List Str} {k : Nat} {sp : Sp} (F : Fun K x qual st f fd) (S : FnScope N ps (defScope st)) (len : ∀ vs H Q E, sp vs H Q E → vs.length = ps.length)
    (body : ∀ (cdv : Value) (A : Around) (outer : List Env) (s : Shared) (H : Hp) (vs : List V) (Q : VK) (E : XK), Room k (A.deeper (envOfC qual (defScope st) s.heap.objs.size f cdv)) → sp vs H Q E →
      ∃ t, PSs (cxOf (L2N.CX P w) P w K mg base N qual (defScope st) f cdv A outer s H E) (defBody st) t ∧ t { nx := fun _ H' => Q .non H', rt := Q } (L2.start N vs) H) : FnOk P w K mg base (L2N.CX P w) (k + 1) f fd ps sp := by
  obtain ⟨oc, od, kV, doc, pm, an, cdv, ct, osl, rfl, lk, hcd⟩ := F.ex
  exact fn_of lk hcd S len fun A outer s H vs Q E hr hsp => body cdv A outer s H vs Q E hr hsp
theorem hotB {X : Cx} {a : Addr} {oe : Obj} {cls : Value} {d : Option Addr} {pn : List (Addr × Obj)} {scope : Scope} (hz : L2N.Zn cls d oe) (hf : ∃ vs, oe.data = .fields vs) (pp : List (Addr × Obj)) (τ : L2.St) (G : Hp) (u : Shared) (en : Env) (fs : List Addr)
    (I : Inv (X.suite a ((a, oe) :: pn)) pp τ G u) (h : ∀ b ∈ fs, FpOk (X.suite a ((a, oe) :: pn)) pp G b) : HotI ((X.suite a ((a, oe) :: pn)).blk u G scope en fs) :=
  hot_blk hz hf I fun b hb => (h b hb).2.2.2.2.2 (a, oe) (List.mem_append_left _ List.mem_cons_self)
end HX
-- B07
namespace K07
open PySem PySem.Spec PyProof.Rows L2
def topS (i : Nat) : Stmt := PySem.Challenge.pw_unsaidsizes_k07_books_and_their_faults.main.body.getD i (.Pass ⟨0, 0, 0, 0⟩)
abbrev s_wording : Stmt := topS 1
theorem sc_wording : FnScope ["name", "at"] ["name", "at"] (defScope s_wording) := ⟨rfl, rfl, rfl, by decide +kernel, rfl, by decide +kernel, by decide +kernel⟩
abbrev s_is_exact : Stmt := topS 13
theorem sc_is_exact : FnScope ["told"] ["told"] (defScope s_is_exact) := ⟨rfl, rfl, rfl, by decide +kernel, rfl, by decide +kernel, by decide +kernel⟩
abbrev s_terms_of : Stmt := topS 14
theorem sc_terms_of : FnScope ["told"] ["told"] (defScope s_terms_of) := ⟨rfl, rfl, rfl, by decide +kernel, rfl, by decide +kernel, by decide +kernel⟩
abbrev s_source_of : Stmt := topS 15
theorem sc_source_of : FnScope ["told"] ["told"] (defScope s_source_of) := ⟨rfl, rfl, rfl, by decide +kernel, rfl, by decide +kernel, by decide +kernel⟩
abbrev s_sizes_in : Stmt := topS 16
theorem sc_sizes_in : FnScope ["told", "size", "_"] ["told"] (defScope s_sizes_in) := ⟨rfl, rfl, rfl, by decide +kernel, rfl, by decide +kernel, by decide +kernel⟩
abbrev s_places_of : Stmt := topS 17
theorem sc_places_of : FnScope ["told", "places", "_", "k", "j"] ["told"] (defScope s_places_of) := ⟨rfl, rfl, rfl, by decide +kernel, rfl, by decide +kernel, by decide +kernel⟩
abbrev s_has_twice : Stmt := topS 18
theorem sc_has_twice : FnScope ["words", "seen", "word"] ["words"] (defScope s_has_twice) := ⟨rfl, rfl, rfl, by decide +kernel, rfl, by decide +kernel, by decide +kernel⟩
abbrev s_is_in_range : Stmt := topS 19
theorem sc_is_in_range : FnScope ["told", "k", "_", "number"] ["told"] (defScope s_is_in_range) := ⟨rfl, rfl, rfl, by decide +kernel, rfl, by decide +kernel, by decide +kernel⟩
abbrev s_is_word : Stmt := topS 23
theorem sc_is_word : FnScope ["text", "sign"] ["text"] (defScope s_is_word) := ⟨rfl, rfl, rfl, by decide +kernel, rfl, by decide +kernel, by decide +kernel⟩
abbrev s_is_part_name : Stmt := topS 24
theorem sc_is_part_name : FnScope ["text"] ["text"] (defScope s_is_part_name) := ⟨rfl, rfl, rfl, by decide +kernel, rfl, by decide +kernel, by decide +kernel⟩
abbrev s_own_names : Stmt := topS 28
theorem sc_own_names : FnScope ["part", "_", "ports", "inner", "places", "name"] ["part"] (defScope s_own_names) := ⟨rfl, rfl, rfl, by decide +kernel, rfl, by decide +kernel, by decide +kernel⟩
abbrev s_part_sizes : Stmt := topS 29
theorem sc_part_sizes : FnScope ["part", "told", "size"] ["part"] (defScope s_part_sizes) := ⟨rfl, rfl, rfl, by decide +kernel, rfl, by decide +kernel, by decide +kernel⟩
abbrev s_own_quantities : Stmt := topS 30
theorem sc_own_quantities : FnScope ["part", "_", "ports", "inner", "port", "end"] ["part"] (defScope s_own_quantities) := ⟨rfl, rfl, rfl, by decide +kernel, rfl, by decide +kernel, by decide +kernel⟩
abbrev s_port_texts : Stmt := topS 31
theorem sc_port_texts : FnScope ["part", "before", "_", "ports", "places", "name", "there", "port"] ["part", "before"] (defScope s_port_texts) := ⟨rfl, rfl, rfl, by decide +kernel, rfl, by decide +kernel, by decide +kernel⟩
abbrev s_is_named : Stmt := topS 32
theorem sc_is_named : FnScope ["part", "name", "_", "places", "laws", "sources", "names", "told", "word", "there"] ["part"] (defScope s_is_named) := ⟨rfl, rfl, rfl, by decide +kernel, rfl, by decide +kernel, by decide +kernel⟩
abbrev s_is_too_long : Stmt := topS 33
theorem sc_is_too_long : FnScope ["part", "k", "most"] ["part"] (defScope s_is_too_long) := ⟨rfl, rfl, rfl, by decide +kernel, rfl, by decide +kernel, by decide +kernel⟩
abbrev s_has_taken_name : Stmt := topS 34
theorem sc_has_taken_name : FnScope ["part", "before"] ["part", "before"] (defScope s_has_taken_name) := ⟨rfl, rfl, rfl, by decide +kernel, rfl, by decide +kernel, by decide +kernel⟩
abbrev s_has_unknown_name : Stmt := topS 35
theorem sc_has_unknown_name : FnScope ["part", "before", "known", "texts", "text", "told", "_", "j", "joint"] ["part", "before"] (defScope s_has_unknown_name) := ⟨rfl, rfl, rfl, by decide +kernel, rfl, by decide +kernel, by decide +kernel⟩
abbrev s_check_part : Stmt := topS 36
theorem sc_check_part : FnScope ["part", "before", "at", "_", "places", "laws", "joints", "there", "joint", "told"] ["part", "before", "at"] (defScope s_check_part) := ⟨rfl, rfl, rfl, by decide +kernel, rfl, by decide +kernel, by decide +kernel⟩
abbrev s_check_book : Stmt := topS 37
theorem sc_check_book : FnScope ["book", "before", "at", "part"] ["book"] (defScope s_check_book) := ⟨rfl, rfl, rfl, by decide +kernel, rfl, by decide +kernel, by decide +kernel⟩
abbrev s_law_draws : Stmt := topS 39
theorem sc_law_draws : FnScope ["script", "draws", "k", "rest", "turn", "mixed"] ["script"] (defScope s_law_draws) := ⟨rfl, rfl, rfl, by decide +kernel, rfl, by decide +kernel, by decide +kernel⟩
abbrev s_law_at : Stmt := topS 40
theorem sc_law_at : FnScope ["draws", "k", "many"] ["draws", "k", "many"] (defScope s_law_at) := ⟨rfl, rfl, rfl, by decide +kernel, rfl, by decide +kernel, by decide +kernel⟩
abbrev s_law_pool : Stmt := topS 41
theorem sc_law_pool : FnScope ["draws", "k", "letters", "start", "long", "ends", "i"] ["draws", "k"] (defScope s_law_pool) := ⟨rfl, rfl, rfl, by decide +kernel, rfl, by decide +kernel, by decide +kernel⟩
abbrev s_law_own : Stmt := topS 42
theorem sc_law_own : FnScope ["part", "found", "port"] ["part"] (defScope s_law_own) := ⟨rfl, rfl, rfl, by decide +kernel, rfl, by decide +kernel, by decide +kernel⟩
abbrev s_law_part_laws : Stmt := topS 43
theorem sc_law_part_laws : FnScope ["draws", "k", "part", "pool", "many", "known", "laws", "used", "turn", "cell", "source", "places", "step", "place", "numbers", "terms"] ["draws", "k", "part", "pool", "many"] (defScope s_law_part_laws) := ⟨rfl, rfl, rfl, by decide +kernel, rfl, by decide +kernel, by decide +kernel⟩
abbrev s_law_part : Stmt := topS 44
theorem sc_law_part : FnScope ["draws", "k", "name", "book", "pool", "ports", "inner", "places", "texts", "turn", "kind", "part", "joints", "cell", "joint", "step", "text", "port"] ["draws", "k", "name", "book"] (defScope s_law_part) := ⟨rfl, rfl, rfl, by decide +kernel, rfl, by decide +kernel, by decide +kernel⟩
abbrev s_law_book : Stmt := topS 45
theorem sc_law_book : FnScope ["draws", "first", "most", "book", "turn", "name"] ["draws", "first", "most"] (defScope s_law_book) := ⟨rfl, rfl, rfl, by decide +kernel, rfl, by decide +kernel, by decide +kernel⟩
abbrev s_law_is_simple : Stmt := topS 46
theorem sc_law_is_simple : FnScope ["text", "char"] ["text"] (defScope s_law_is_simple) := ⟨rfl, rfl, rfl, by decide +kernel, rfl, by decide +kernel, by decide +kernel⟩
abbrev s_law_sizes : Stmt := topS 47
theorem sc_law_sizes : FnScope ["part", "found", "law", "term"] ["part"] (defScope s_law_sizes) := ⟨rfl, rfl, rfl, by decide +kernel, rfl, by decide +kernel, by decide +kernel⟩
abbrev s_law_places_of : Stmt := topS 48
theorem sc_law_places_of : FnScope ["law", "number", "k", "j", "size"] ["law"] (defScope s_law_places_of) := ⟨rfl, rfl, rfl, by decide +kernel, rfl, by decide +kernel, by decide +kernel⟩
abbrev s_law_range : Stmt := topS 49
theorem sc_law_range : FnScope ["part", "law", "joint", "k", "j", "number"] ["part"] (defScope s_law_range) := ⟨rfl, rfl, rfl, by decide +kernel, rfl, by decide +kernel, by decide +kernel⟩
abbrev s_law_doubles : Stmt := topS 50
theorem sc_law_doubles : FnScope ["names", "k"] ["names"] (defScope s_law_doubles) := ⟨rfl, rfl, rfl, by decide +kernel, rfl, by decide +kernel, by decide +kernel⟩
abbrev s_law_part_fault : Stmt := topS 51
theorem sc_law_part_fault : FnScope ["book", "at", "part", "before", "other", "place", "names", "known", "texts", "law", "name", "port", "joint", "k", "j", "text"] ["book", "at"] (defScope s_law_part_fault) := ⟨rfl, rfl, rfl, by decide +kernel, rfl, by decide +kernel, by decide +kernel⟩
abbrev s_law_due : Stmt := topS 52
theorem sc_law_due : FnScope ["book", "at", "word"] ["book"] (defScope s_law_due) := ⟨rfl, rfl, rfl, by decide +kernel, rfl, by decide +kernel, by decide +kernel⟩
abbrev s_law_told : Stmt := topS 53
theorem sc_law_told : FnScope ["book", "e", "words", "word", "is_it"] ["book"] (defScope s_law_told) := ⟨rfl, rfl, rfl, by decide +kernel, rfl, by decide +kernel, by decide +kernel⟩
abbrev s_law_bad_law : Stmt := topS 54
theorem sc_law_bad_law : FnScope ["cell", "known", "name", "rows"] ["cell", "known"] (defScope s_law_bad_law) := ⟨rfl, rfl, rfl, by decide +kernel, rfl, by decide +kernel, by decide +kernel⟩
abbrev s_law_spoilt : Stmt := topS 55
theorem sc_law_spoilt : FnScope ["draws", "k", "book", "at", "name", "ports", "inner", "places", "laws", "joints", "word", "cell", "bad", "taken", "texts", "kind", "joint", "more", "place", "turn"] ["draws", "k", "book"] (defScope s_law_spoilt) := ⟨rfl, rfl, rfl, by decide +kernel, rfl, by decide +kernel, by decide +kernel⟩
abbrev s_law : Stmt := topS 56
theorem sc_law : FnScope ["script", "draws", "book", "turn", "kept", "other"] ["script"] (defScope s_law) := ⟨rfl, rfl, rfl, by decide +kernel, rfl, by decide +kernel, by decide +kernel⟩
/-- a def as it stands behind the top -/
structure Def (K : PySem.W.Frag) (mg : Str → Option Value) (x : Str) (st : Stmt) (ps : List Str) where
  a : Addr
  fd : FuncData
  F : Fun K x x st a fd
  b : Binds K fd ps []
  g : mg x = some (.ref a)
/-- a def that holds generator expressions: its code object is known -/
structure DefT (K : PySem.W.Frag) (mg : Str → Option Value) (x : Str) (st : Stmt) (ps : List Str) where
  a : Addr
  c : Addr
  fd : FuncData
  ex : ∃ (oc : Value) (od : Option Addr) (dV kV doc pm : Value) (an : Option Addr) (ct : Value) (osl : Array (Option Value)), fd = PySem.W.fnOf x x (defArgs st) (defBody st) (defScope st) dV kV doc pm an (.ref c) ct ∧ K.lookup a = some ⟨oc, od, .func fd, osl⟩ ∧ PySem.W.codeIn K (.ref c) x = true
  kp : PySem.W.keepIn K (.ref a) = true
  b : Binds K fd ps []
  g : mg x = some (.ref a)
theorem DefT.ok {P : Program} {w : World} {K : PySem.W.Frag} {mg : Str → Option Value} {base : Heap} {x : Str} {st : Stmt} {N ps : List Str} {k : Nat} {sp : Sp} (T : DefT K mg x st ps) (S : FnScope N ps (defScope st)) (len : ∀ vs H Q E, sp vs H Q E → vs.length = ps.length)
    (hbody : ∀ (A : Around) (outer : List Env) (s : Shared) (H : Hp) (vs : List V) (Q : VK) (E : XK), Room k (A.deeper (envOfC x (defScope st) s.heap.objs.size T.a (.ref T.c))) → sp vs H Q E →
      ∃ t, PSs (cxOf CX0 P w K mg base N x (defScope st) T.a (.ref T.c) A outer s H E).nox (defBody st) t ∧ t { nx := fun _ H' => Q .non H', rt := Q } (L2.start N vs) H) : FnOk P w K mg base CX0 (k + 1) T.a T.fd ps sp := by
  obtain ⟨a, c, fd, ⟨oc, od, dV, kV, doc, pm, an, ct, osl, rfl, lk, hcd⟩, kp, b, g⟩ := T
  refine fn_of lk hcd S len fun A outer s H vs Q E hr hsp => ?_
  obtain ⟨t, h, q⟩ := hbody A outer s H vs Q E hr hsp
  exact ⟨t, h.nox, q⟩
structure Txt (K : PySem.W.Frag) (mg : Str → Option Value) where
  wording : Def K mg "_wording" s_wording ["name", "at"]
  is_exact : Def K mg "is_exact" s_is_exact ["told"]
  terms_of : Def K mg "terms_of" s_terms_of ["told"]
  source_of : Def K mg "source_of" s_source_of ["told"]
  sizes_in : Def K mg "sizes_in" s_sizes_in ["told"]
  places_of : Def K mg "places_of" s_places_of ["told"]
  has_twice : Def K mg "has_twice" s_has_twice ["words"]
  is_in_range : DefT K mg "is_in_range" s_is_in_range ["told"]
  is_word : DefT K mg "_is_word" s_is_word ["text"]
  is_part_name : Def K mg "is_part_name" s_is_part_name ["text"]
  own_names : Def K mg "own_names" s_own_names ["part"]
  part_sizes : Def K mg "part_sizes" s_part_sizes ["part"]
  own_quantities : Def K mg "own_quantities" s_own_quantities ["part"]
  port_texts : Def K mg "port_texts" s_port_texts ["part", "before"]
  is_named : DefT K mg "_is_named" s_is_named ["part"]
  is_too_long : DefT K mg "_is_too_long" s_is_too_long ["part"]
  has_taken_name : Def K mg "_has_taken_name" s_has_taken_name ["part", "before"]
  has_unknown_name : DefT K mg "_has_unknown_name" s_has_unknown_name ["part", "before"]
  check_part : DefT K mg "_check_part" s_check_part ["part", "before", "at"]
  check_book : Def K mg "check_book" s_check_book ["book"]
  law_draws : Def K mg "_law_draws" s_law_draws ["script"]
  law_at : Def K mg "_law_at" s_law_at ["draws", "k", "many"]
  law_pool : Def K mg "_law_pool" s_law_pool ["draws", "k"]
  law_own : Def K mg "_law_own" s_law_own ["part"]
  law_part_laws : Def K mg "_law_part_laws" s_law_part_laws ["draws", "k", "part", "pool", "many"]
  law_part : Def K mg "_law_part" s_law_part ["draws", "k", "name", "book"]
  law_book : Def K mg "_law_book" s_law_book ["draws", "first", "most"]
  law_is_simple : Def K mg "_law_is_simple" s_law_is_simple ["text"]
  law_sizes : Def K mg "_law_sizes" s_law_sizes ["part"]
  law_places_of : Def K mg "_law_places_of" s_law_places_of ["law"]
  law_range : Def K mg "_law_range" s_law_range ["part"]
  law_doubles : Def K mg "_law_doubles" s_law_doubles ["names"]
  law_part_fault : Def K mg "_law_part_fault" s_law_part_fault ["book", "at"]
  law_due : Def K mg "_law_due" s_law_due ["book"]
  law_told : Def K mg "_law_told" s_law_told ["book"]
  law_bad_law : Def K mg "_law_bad_law" s_law_bad_law ["cell", "known"]
  law_spoilt : Def K mg "_law_spoilt" s_law_spoilt ["draws", "k", "book"]
  law : Def K mg "law" s_law ["script"]
  m_abs : mg "abs" = none
  m_all : mg "all" = none
  m_any : mg "any" = none
  m_enumerate : mg "enumerate" = none
  m_int : mg "int" = none
  m_isinstance : mg "isinstance" = none
  m_len : mg "len" = none
  m_list : mg "list" = none
  m_min : mg "min" = none
  m_range : mg "range" = none
  m_repr : mg "repr" = none
  m_str : mg "str" = none
  k_LETTERS : Tok
  c_LETTERS : mg "LETTERS" = some (.str "abcdefghijklmnopqrstuvwxyz" k_LETTERS)
  k_MOST_NUMBER : Tok
  c_MOST_NUMBER : mg "MOST_NUMBER" = some (.int 1000000 k_MOST_NUMBER)
  k_MOST_ORDER : Tok
  c_MOST_ORDER : mg "MOST_ORDER" = some (.int 3 k_MOST_ORDER)
  k_MOST_PARTS : Tok
  c_MOST_PARTS : mg "MOST_PARTS" = some (.int 12 k_MOST_PARTS)
  k_SIGNS : Tok
  c_SIGNS : mg "SIGNS" = some (.str "abcdefghijklmnopqrstuvwxyz0123456789" k_SIGNS)
  aMP : Addr
  c_MOST_IN_PART : mg "MOST_IN_PART" = some (.ref aMP)
  t_MOST_IN_PART : ∀ H : Hp, SqT K H aMP [.int 8, .int 12, .int 12, .int 20, .int 20]


/-! ### words -/
theorem same_upd {H : Hp} {p : Addr} {o : HO} (h : H p = none) : Same H (upd H p o) := fun b x e => by
  rw [upd_ne (ne_of_none e h)]
  exact e
theorem same_over {H H' : Hp} {p : Addr} {o : HO} (s : Same H H') (h : H p = none) : Same H (upd H' p o) := fun b x e => by
  rw [upd_ne (ne_of_none e h)]
  exact s _ _ e
theorem Same.seqT {K : PySem.W.Frag} {H H' : Hp} {a : Addr} {xs : List V} (e : Same H H') (h : SqT K H a xs) : SqT K H' a xs := by
  rcases h with (h | ⟨o, h⟩) | h
  · exact .inl (.inl (e _ _ h))
  · exact .inl (.inr ⟨o, e _ _ h⟩)
  · exact .inr h
/-- two lists in step -/
inductive A2 {α β : Type} (R : α → β → Prop) : List α → List β → Prop
  | nil : A2 R [] []
  | cons {a b as bs} : R a b → A2 R as bs → A2 R (a :: as) (b :: bs)
namespace A2
variable {α β γ : Type} {R S : α → β → Prop} {as : List α} {bs : List β}
theorem mono (f : ∀ a b, R a b → S a b) : ∀ {as : List α} {bs : List β}, A2 R as bs → A2 S as bs
  | _, _, .nil => .nil
  | _, _, .cons h t => .cons (f _ _ h) (mono f t)
theorem len : ∀ {as : List α} {bs : List β}, A2 R as bs → as.length = bs.length
  | _, _, .nil => rfl
  | _, _, .cons _ t => by rw [List.length_cons, List.length_cons, len t]
theorem get : ∀ {as : List α} {bs : List β}, A2 R as bs → ∀ {i : Nat} {a : α}, as[i]? = some a → ∃ b, bs[i]? = some b ∧ R a b
  | _, _, .nil, i, a, h => by simp at h
  | _, _, .cons h t, 0, a, e => by simp at e; subst e; exact ⟨_, rfl, h⟩
  | _, _, .cons h t, i + 1, a, e => get t (i := i) (by simpa using e)
theorem get' : ∀ {as : List α} {bs : List β}, A2 R as bs → ∀ {i : Nat} {b : β}, bs[i]? = some b → ∃ a, as[i]? = some a ∧ R a b
  | _, _, .nil, i, a, h => by simp at h
  | _, _, .cons h t, 0, a, e => by simp at e; subst e; exact ⟨_, rfl, h⟩
  | _, _, .cons h t, i + 1, a, e => get' t (i := i) (by simpa using e)
theorem snoc {a : α} {b : β} (h : R a b) : ∀ {as : List α} {bs : List β}, A2 R as bs → A2 R (as ++ [a]) (bs ++ [b])
  | _, _, .nil => .cons h .nil
  | _, _, .cons x t => .cons x (snoc h t)
theorem mem : ∀ {as : List α} {bs : List β}, A2 R as bs → ∀ a ∈ as, ∃ b ∈ bs, R a b
  | _, _, .cons h t, a, m => by
    rcases List.mem_cons.mp m with rfl | m
    · exact ⟨_, List.mem_cons_self, h⟩
    · obtain ⟨b, hb, r⟩ := mem t a m
      exact ⟨b, List.mem_cons_of_mem _ hb, r⟩
theorem of_map {f : β → α} (h : ∀ b, b ∈ bs → R (f b) b) : A2 R (bs.map f) bs := by
  induction bs with
  | nil => exact .nil
  | cons b r ih => exact .cons (h b List.mem_cons_self) (ih fun c hc => h c (List.mem_cons_of_mem _ hc))
end A2
theorem take_snoc {α : Type} {xs : List α} {i : Nat} {x : α} (h : xs[i]? = some x) : xs.take (i + 1) = xs.take i ++ [x] := by
  rw [List.take_add_one, h]; rfl
/-- a list of ints stands at a -/
def IL (H : Hp) (a : Addr) (ns : List Int) : Prop := H a = some (.lst (ns.map V.int))
theorem IL.sq {K : PySem.W.Frag} {H : Hp} {a : Addr} {ns : List Int} (h : IL H a ns) : SqL K H a (ns.map V.int) := SqL.of h
theorem IL.same {H H' : Hp} {a : Addr} {ns : List Int} (h : IL H a ns) (s : Same H H') : IL H' a ns := s _ _ h
theorem il_upd {H : Hp} {p : Addr} {ns : List Int} : IL (upd H p (.lst (ns.map V.int))) p ns := upd_same
theorem app_ints {ds : List Int} {x : Int} : ds.map V.int ++ [V.int x] = (ds ++ [x]).map V.int := by rw [List.map_append]; rfl
theorem small {n : Nat} (h : n ≤ 60000) : n ≤ sizeLine := Nat.le_trans h (by decide)
theorem small' {n : Nat} (h : n < 60000) : n < sizeLine := Nat.lt_of_lt_of_le h (by decide)

theorem mem_at {α : Type} {xs : List α} {i : Nat} {x : α} (h : xs[i]? = some x) : x ∈ xs := List.mem_of_getElem? h
theorem at_getD {α : Type} {xs : List α} {j : Nat} {d : α} (h : j < xs.length) : xs[j]? = some (xs.getD j d) := by
  rw [List.getD_eq_getElem?_getD, List.getElem?_eq_getElem h]; rfl
theorem ix_ok {n j : Nat} {i : Int} (e : i = (j : Int)) (h : j < n) : ixN n i = some j := by
  unfold ixN
  rw [if_pos (by omega), if_pos (by omega), e]; rfl
/-! new lists -/
/-- lists of flat things, all new, in a new list -/
def Rows (H H' : Hp) (p : Addr) (rows : List (List V)) : Prop := ∃ rs : List Addr, H' p = some (.lst (rs.map V.ref)) ∧ A2 (fun r row => H' r = some (.lst row)) rs rows ∧ ∀ r ∈ rs, H r = none ∧ r ≠ p
/-- each of es once -/
def Inj (es : List Addr) : Prop := ∀ (i j : Nat) (e : Addr), es[i]? = some e → es[j]? = some e → i = j
/-- lists of such, all new -/
def Tabs (H H' : Hp) (p : Addr) (tab : List (List (List V))) : Prop := ∃ rs : List Addr, H' p = some (.lst (rs.map V.ref)) ∧ (∀ r ∈ rs, H r = none ∧ r ≠ p) ∧ Inj rs ∧
  A2 (fun r row => ∃ es : List Addr, H' r = some (.lst (es.map V.ref)) ∧ A2 (fun e x => H' e = some (.lst x)) es row ∧ ∀ e ∈ es, H e = none ∧ e ≠ p ∧ e ∉ rs) rs tab
/-- all but D stand as they stood -/
def SameX (D : Addr) (H H' : Hp) : Prop := ∀ c o, c ≠ D → H c = some o → H' c = some o
theorem sx {D : Addr} {H H' : Hp} (s : Same H H') : SameX D H H' := fun c o _ h => s c o h
theorem SameX.trans {D : Addr} {H H1 H2 : Hp} (a : SameX D H H1) (b : SameX D H1 H2) : SameX D H H2 := fun c o n h => b c o n (a c o n h)
theorem SameX.put {D : Addr} {H : Hp} {o : HO} : SameX D H (upd H D o) := fun c x n h => by
  rw [upd_ne n]; exact h
theorem SameX.seqT {K : PySem.W.Frag} {D : Addr} {H H' : Hp} {a : Addr} {xs : List V} (e : SameX D H H') (n : a ≠ D) (h : SqT K H a xs) : SqT K H' a xs := by
  rcases h with (h | ⟨o, h⟩) | h
  · exact .inl (.inl (e _ _ n h))
  · exact .inl (.inr ⟨o, e _ _ n h⟩)
  · exact .inr h
section
variable {J : It} {n : Nat} {G : Hp → Prop} {Y : Nat → Hp → V → Hp → Prop} {g : TG} {tt : TT} {te : TE} {vs : List Nat} {σ : L2.St} {H1 : Hp} {D : Addr} {Qd : Hp → Prop}
/-- what a comprehension wants of its turns -/
abbrev LcW (J : It) (g : TG) (tt : TT) (te : TE) (vs : List Nat) (σ : L2.St) (H1 : Hp) (D : Addr) (Qd : Hp → Prop) : Prop :=
  ∃ W : Nat → Nat → Hp → Prop, (∃ m, W 0 m (upd H1 D (.lst []))) ∧ ∀ i m H, W i m H →
      (J.stop i H ∧ Qd H) ∨ (J.go i H ∧ ∃ Nx : Hp → Prop, (∀ H', Nx H' → ∃ m', m' < m ∧ W (i + 1) m' H') ∧ ∀ x H', J.yld i H x H' → g x (wipe σ vs) H' fun σ2 H2 => wipe σ2 vs = wipe σ vs ∧ tt σ2 H2 fun b H3 =>
        if b = true then te σ2 H3 fun y H4 => ∃ acc, H4 D = some (.lst acc) ∧ acc.length < sizeLine ∧ Nx (upd H4 D (.lst (acc ++ [y]))) else Nx H3)
theorem lc_inv (w : Walk J n G Y) (R : Nat → Hp → List V → Prop) (nD : H1 D = none) (hG : ∀ H', Same H1 H' → G H') (hl : n < sizeLine) (h0 : R 0 (upd H1 D (.lst [])) [])
    (hs : ∀ i x H Hx ys, i < n → Same H1 H → H D = some (.lst ys) → R i H ys → Y i H x Hx → ∀ (Qt : VK) (Qf : Hp → Prop), (∀ y H4, Same H H4 → R (i + 1) (upd H4 D (.lst (ys ++ [y]))) (ys ++ [y]) → Qt y H4) →
      (∀ H3, Same H H3 → R (i + 1) H3 ys → Qf H3) → g x (wipe σ vs) Hx fun σ2 H2 => wipe σ2 vs = wipe σ vs ∧ tt σ2 H2 fun b H3 => if b = true then te σ2 H3 Qt else Qf H3)
    (hd : ∀ H ys, Same H1 H → H D = some (.lst ys) → R n H ys → Qd H) : LcW J g tt te vs σ H1 D Qd := by
  refine lc_it w (fun i H => Same H1 H ∧ ∃ ys, ys.length ≤ i ∧ H D = some (.lst ys) ∧ R i H ys) ⟨same_upd nD, [], Nat.le_refl _, upd_same, h0⟩ (fun i H _ p => hG H p.1) (fun i x H Hx hi p y => ?_) (fun H p => ?_)
  · obtain ⟨sm, ys, hn, hD, hR⟩ := p
    refine hs i x H Hx ys hi sm hD hR y (fun y H4 => ∃ acc, H4 D = some (.lst acc) ∧ acc.length < sizeLine ∧ Same H1 (upd H4 D (.lst (acc ++ [y]))) ∧ ∃ zs, zs.length ≤ i + 1 ∧ upd H4 D (.lst (acc ++ [y])) D = some (.lst zs) ∧ R (i + 1) (upd H4 D (.lst (acc ++ [y]))) zs) _ (fun y H4 s4 r => ?_) (fun H3 s3 r => ?_)
    · exact ⟨ys, s4 _ _ hD, by omega, same_over (sm.trans s4) nD, ys ++ [y], by rw [List.length_append]; exact Nat.succ_le_succ hn, upd_same, r⟩
    · exact ⟨sm.trans s3, ys, by omega, s3 _ _ hD, r⟩
  · obtain ⟨sm, ys, _, hD, hR⟩ := p
    exact hd H ys sm hD hR
/-- item by item -/
theorem lc_fm {α β : Type} (w : Walk J n G Y) (ls : List α) (f : α → Option β) (rel : Hp → V → β → Prop) (mono : ∀ H H' v b, SameX D H H' → rel H v b → rel H' v b) (hn : ls.length = n) (nD : H1 D = none)
    (hG : ∀ H', Same H1 H' → G H') (hl : n < sizeLine)
    (hs : ∀ i x H Hx ys l, ls[i]? = some l → Same H1 H → H D = some (.lst ys) → Y i H x Hx → ∀ (Qt : VK) (Qf : Hp → Prop), (∀ y H4 b, f l = some b → Same H H4 → rel H4 y b → Qt y H4) →
      (f l = none → ∀ H3, Same H H3 → Qf H3) → g x (wipe σ vs) Hx fun σ2 H2 => wipe σ2 vs = wipe σ vs ∧ tt σ2 H2 fun b H3 => if b = true then te σ2 H3 Qt else Qf H3)
    (hd : ∀ H ys, Same H1 H → H D = some (.lst ys) → A2 (rel H) ys (ls.filterMap f) → Qd H) : LcW J g tt te vs σ H1 D Qd := by
  refine lc_inv w (fun i H ys => A2 (rel H) ys ((ls.take i).filterMap f)) nD hG hl .nil (fun i x H Hx ys hi sm hD hR y Qt Qf qt qf => ?_) (fun H ys sm hD hR => ?_)
  · obtain ⟨l, hl⟩ : ∃ l, ls[i]? = some l := ⟨ls[i]'(by omega), by simp [show i < ls.length by omega]⟩
    refine hs i x H Hx ys l hl sm hD y Qt Qf (fun y H4 b hb s4 r => ?_) (fun hb H3 s3 => ?_)
    · refine qt y H4 s4 ?_
      rw [take_snoc hl, List.filterMap_append]
      show A2 _ _ (_ ++ List.filterMap f [l])
      rw [show List.filterMap f [l] = [b] by simp [hb]]
      exact A2.snoc (mono _ _ _ _ SameX.put r) (hR.mono fun _ _ z => mono _ _ _ _ ((sx s4).trans SameX.put) z)
    · refine qf H3 s3 ?_
      rw [take_snoc hl, List.filterMap_append]
      show A2 _ _ (_ ++ List.filterMap f [l])
      rw [show List.filterMap f [l] = [] by simp [hb], List.append_nil]
      exact hR.mono fun _ _ z => mono _ _ _ _ (sx s3) z
  · rw [List.take_of_length_le (by omega)] at hR
    exact hd H ys sm hD hR
end
/-- a text so many times -/
theorem op_mulS {X : Cx} : OpR X (binaryOp .Mult) (fun x y H Q => ∃ (z : Str) (n : Int), x = .str z ∧ y = .int n ∧ z.length ≤ 20 ∧ -1000 ≤ n ∧ n ≤ 1000 ∧ Q (.str (Txt.mul z n)) H) := by
  intro pins s σ H x y v u Q I rx ry h
  obtain ⟨z, n, rfl, rfl, h1, h2, h3, q⟩ := h
  obtain ⟨t, rfl⟩ := rx
  obtain ⟨t', rfl⟩ := ry
  exact SB.mul (mulOk_of 20 1000 h1 h3 (by omega) (by decide) (by decide)) fun t k => ⟨.str _, H, I.tok _, ⟨_, rfl⟩, q⟩
def rLenS (K : PySem.W.Frag) : List V → Hp → VK → Prop := fun xs H Q => ∃ p ys, xs = [.ref p] ∧ (SqL K H p ys ∨ SqT K H p ys) ∧ Q (.int (ys.length : Nat)) H
theorem call_lenC {X : Cx} : CallR X (.builtin "len") (rLenS X.K) := call_len_seq
theorem r65 {k : Nat} {A : Around} (r : Room k A) : A.units + 65 < cLine := by have := r.un; omega
theorem log_small {n : Nat} (h : n < 2 ^ 30) : n.log2 < 1920 := by
  rcases Nat.eq_zero_or_pos n with rfl | p
  · decide
  · exact Nat.lt_of_lt_of_le ((Nat.log2_lt (by omega)).mpr h) (by decide)
theorem log_lt {n m : Nat} (h : n < 2 ^ m) (hm : 0 < m) : n.log2 < m := by
  rcases Nat.eq_zero_or_pos n with rfl | z
  · rw [Nat.log2_zero]; exact hm
  · exact (Nat.log2_lt (by omega)).mpr h
def rListC (K : PySem.W.Frag) : List V → Hp → VK → Prop := fun xs H Q => ∃ p ys, xs = [.ref p] ∧ (SqL K H p ys ∨ SqT K H p ys) ∧ ∀ l, H l = none → Q (.ref l) (upd H l (.lst ys))
theorem call_listC {X : Cx} : CallR X (.type "list") (rListC X.K) := call_list_of
theorem take_all {α : Type} {p : α → Prop} {xs : List α} {i : Nat} {x : α} (h : xs[i]? = some x) (a : ∀ y ∈ xs.take i, p y) (b : p x) : ∀ y ∈ xs.take (i + 1), p y := fun y hy => by
  rw [take_snoc h] at hy
  rcases List.mem_append.mp hy with hy | hy
  · exact a y hy
  · rw [List.mem_singleton.mp hy]; exact b
theorem wipe1 {σ : L2.St} {i : Nat} {x : Option V} : wipe ((wipe σ [i]).set i x) [i] = wipe σ [i] := by
  show ((σ.set i none).set i x).set i none = σ.set i none
  rw [List.set_set, List.set_set]
theorem lc_rel {K : PySem.W.Frag} {a : Addr} {xs : List V} {te : TE} {i : Nat} {σ : L2.St} {H1 : Hp} {D : Addr} {Qd : Hp → Prop} (R : Nat → V → Prop) (nD : H1 D = none) (hS : SqL K H1 a xs) (hl : xs.length < sizeLine)
    (ht : ∀ (j : Nat) (x : V) (H' : Hp) (Q : VK), xs[j]? = some x → Same H1 H' → (∀ y, R j y → Q y H') → te ((wipe σ [i]).set i (some x)) H' Q)
    (hd : ∀ H' ys, Same H1 H' → H' D = some (.lst ys) → ys.length = xs.length → (∀ j y, ys[j]? = some y → R j y) → Qd H') :
    ∃ W : Nat → Nat → Hp → Prop, (∃ m, W 0 m (upd H1 D (.lst []))) ∧ ∀ i' m H, W i' m H →
      ((Itl K a).stop i' H ∧ Qd H) ∨ ((Itl K a).go i' H ∧ ∃ Nx : Hp → Prop, (∀ H', Nx H' → ∃ m', m' < m ∧ W (i' + 1) m' H') ∧ ∀ x H', (Itl K a).yld i' H x H' → (gName i) x (wipe σ [i]) H' fun σ2 H2 => wipe σ2 [i] = wipe σ [i] ∧ tYes σ2 H2 fun b H3 =>
        if b = true then te σ2 H3 fun y H4 => ∃ acc, H4 D = some (.lst acc) ∧ acc.length < sizeLine ∧ Nx (upd H4 D (.lst (acc ++ [y]))) else Nx H3) := by
  refine lc_list (xs := xs) (fun j H => Same H1 H ∧ ∃ ys, H D = some (.lst ys) ∧ ys.length = j ∧ ∀ k y, ys[k]? = some y → R k y) ⟨same_upd nD, [], upd_same, rfl, fun k y h => by simp at h⟩ (fun j H _ p => p.1.seq hS) (fun j x H hx p => ?_) (fun H p => ?_)
  · obtain ⟨sm, ys, hy, hn, hr⟩ := p
    refine ⟨wipe1, ?_⟩
    refine ht j x H _ hx sm fun y r => ?_
    have hj := (List.getElem?_eq_some_iff.mp hx).1
    refine ⟨ys, hy, by omega, same_over sm nD, _, upd_same, by simp [hn], fun k z hz => ?_⟩
    rcases Nat.lt_or_ge k ys.length with q | q
    · rw [List.getElem?_append_left q] at hz
      exact hr k z hz
    · have e : k = ys.length := by
        have := (List.getElem?_eq_some_iff.mp hz).1
        simp at this
        omega
      subst e
      rw [List.getElem?_append_right (Nat.le_refl _)] at hz
      simp at hz
      rw [← hz, hn]
      exact r
  · obtain ⟨sm, ys, hy, hn, hr⟩ := p
    exact hd H ys sm hy hn hr
theorem lc_relR {n : Nat} {te : TE} {i : Nat} {σ : L2.St} {H1 : Hp} {D : Addr} {Qd : Hp → Prop} (R : Nat → V → Prop) (nD : H1 D = none) (hl : n < sizeLine)
    (ht : ∀ (j : Nat) (H' : Hp) (Q : VK), j < n → Same H1 H' → (∀ y, R j y → Q y H') → te ((wipe σ [i]).set i (some (.int (j : Nat)))) H' Q)
    (hd : ∀ H' ys, Same H1 H' → H' D = some (.lst ys) → ys.length = n → (∀ j y, ys[j]? = some y → R j y) → Qd H') :
    ∃ W : Nat → Nat → Hp → Prop, (∃ m, W 0 m (upd H1 D (.lst []))) ∧ ∀ i' m H, W i' m H →
      ((Itr 0 n).stop i' H ∧ Qd H) ∨ ((Itr 0 n).go i' H ∧ ∃ Nx : Hp → Prop, (∀ H', Nx H' → ∃ m', m' < m ∧ W (i' + 1) m' H') ∧ ∀ x H', (Itr 0 n).yld i' H x H' → (gName i) x (wipe σ [i]) H' fun σ2 H2 => wipe σ2 [i] = wipe σ [i] ∧ tYes σ2 H2 fun b H3 =>
        if b = true then te σ2 H3 fun y H4 => ∃ acc, H4 D = some (.lst acc) ∧ acc.length < sizeLine ∧ Nx (upd H4 D (.lst (acc ++ [y]))) else Nx H3) := by
  refine lc_range (n := n) (lo := 0) (fun j H => Same H1 H ∧ ∃ ys, H D = some (.lst ys) ∧ ys.length = j ∧ ∀ k y, ys[k]? = some y → R k y) ⟨same_upd nD, [], upd_same, rfl, fun k y h => by simp at h⟩ (fun j H hj p => ?_) (fun H p => ?_)
  · obtain ⟨sm, ys, hy, hn, hr⟩ := p
    rw [Int.zero_add]
    refine ⟨wipe1, ?_⟩
    refine ht j H _ hj sm fun y r => ?_
    refine ⟨ys, hy, by omega, same_over sm nD, _, upd_same, by simp [hn], fun k z hz => ?_⟩
    rcases Nat.lt_or_ge k ys.length with q | q
    · rw [List.getElem?_append_left q] at hz
      exact hr k z hz
    · have e : k = ys.length := by
        have := (List.getElem?_eq_some_iff.mp hz).1
        simp at this
        omega
      subst e
      rw [List.getElem?_append_right (Nat.le_refl _)] at hz
      simp at hz
      rw [← hz, hn]
      exact r
  · obtain ⟨sm, ys, hy, hn, hr⟩ := p
    exact hd H ys sm hy hn hr
/-! ### the errors of the text -/
abbrev s_init : Stmt := inClass (topS 2) 0
theorem sc_init : FnScope ["self", "at"] ["self", "at"] (defScope s_init) := ⟨rfl, rfl, rfl, by decide +kernel, rfl, by decide +kernel, by decide +kernel⟩
structure Errs (K : PySem.W.Frag) (mg : Str → Option Value) where
  e0 : LX.Err0 K mg s_init
  BadName : LX.ErrC K mg "BadName" e0.CM e0.f
  TooMany : LX.ErrC K mg "TooMany" e0.CM e0.f
  TakenName : LX.ErrC K mg "TakenName" e0.CM e0.f
  NoPart : LX.ErrC K mg "NoPart" e0.CM e0.f
  NoName : LX.ErrC K mg "NoName" e0.CM e0.f
  OutOfRange : LX.ErrC K mg "OutOfRange" e0.CM e0.f
  SamePlace : LX.ErrC K mg "SamePlace" e0.CM e0.f
  n_BadName_TooMany : PySem.W.kitOne K (.ref BadName.C) (.ref TooMany.C) = some false
  n_BadName_TakenName : PySem.W.kitOne K (.ref BadName.C) (.ref TakenName.C) = some false
  n_BadName_NoPart : PySem.W.kitOne K (.ref BadName.C) (.ref NoPart.C) = some false
  n_BadName_NoName : PySem.W.kitOne K (.ref BadName.C) (.ref NoName.C) = some false
  n_BadName_OutOfRange : PySem.W.kitOne K (.ref BadName.C) (.ref OutOfRange.C) = some false
  n_BadName_SamePlace : PySem.W.kitOne K (.ref BadName.C) (.ref SamePlace.C) = some false
  n_TooMany_BadName : PySem.W.kitOne K (.ref TooMany.C) (.ref BadName.C) = some false
  n_TooMany_TakenName : PySem.W.kitOne K (.ref TooMany.C) (.ref TakenName.C) = some false
  n_TooMany_NoPart : PySem.W.kitOne K (.ref TooMany.C) (.ref NoPart.C) = some false
  n_TooMany_NoName : PySem.W.kitOne K (.ref TooMany.C) (.ref NoName.C) = some false
  n_TooMany_OutOfRange : PySem.W.kitOne K (.ref TooMany.C) (.ref OutOfRange.C) = some false
  n_TooMany_SamePlace : PySem.W.kitOne K (.ref TooMany.C) (.ref SamePlace.C) = some false
  n_TakenName_BadName : PySem.W.kitOne K (.ref TakenName.C) (.ref BadName.C) = some false
  n_TakenName_TooMany : PySem.W.kitOne K (.ref TakenName.C) (.ref TooMany.C) = some false
  n_TakenName_NoPart : PySem.W.kitOne K (.ref TakenName.C) (.ref NoPart.C) = some false
  n_TakenName_NoName : PySem.W.kitOne K (.ref TakenName.C) (.ref NoName.C) = some false
  n_TakenName_OutOfRange : PySem.W.kitOne K (.ref TakenName.C) (.ref OutOfRange.C) = some false
  n_TakenName_SamePlace : PySem.W.kitOne K (.ref TakenName.C) (.ref SamePlace.C) = some false
  n_NoPart_BadName : PySem.W.kitOne K (.ref NoPart.C) (.ref BadName.C) = some false
  n_NoPart_TooMany : PySem.W.kitOne K (.ref NoPart.C) (.ref TooMany.C) = some false
  n_NoPart_TakenName : PySem.W.kitOne K (.ref NoPart.C) (.ref TakenName.C) = some false
  n_NoPart_NoName : PySem.W.kitOne K (.ref NoPart.C) (.ref NoName.C) = some false
  n_NoPart_OutOfRange : PySem.W.kitOne K (.ref NoPart.C) (.ref OutOfRange.C) = some false
  n_NoPart_SamePlace : PySem.W.kitOne K (.ref NoPart.C) (.ref SamePlace.C) = some false
  n_NoName_BadName : PySem.W.kitOne K (.ref NoName.C) (.ref BadName.C) = some false
  n_NoName_TooMany : PySem.W.kitOne K (.ref NoName.C) (.ref TooMany.C) = some false
  n_NoName_TakenName : PySem.W.kitOne K (.ref NoName.C) (.ref TakenName.C) = some false
  n_NoName_NoPart : PySem.W.kitOne K (.ref NoName.C) (.ref NoPart.C) = some false
  n_NoName_OutOfRange : PySem.W.kitOne K (.ref NoName.C) (.ref OutOfRange.C) = some false
  n_NoName_SamePlace : PySem.W.kitOne K (.ref NoName.C) (.ref SamePlace.C) = some false
  n_OutOfRange_BadName : PySem.W.kitOne K (.ref OutOfRange.C) (.ref BadName.C) = some false
  n_OutOfRange_TooMany : PySem.W.kitOne K (.ref OutOfRange.C) (.ref TooMany.C) = some false
  n_OutOfRange_TakenName : PySem.W.kitOne K (.ref OutOfRange.C) (.ref TakenName.C) = some false
  n_OutOfRange_NoPart : PySem.W.kitOne K (.ref OutOfRange.C) (.ref NoPart.C) = some false
  n_OutOfRange_NoName : PySem.W.kitOne K (.ref OutOfRange.C) (.ref NoName.C) = some false
  n_OutOfRange_SamePlace : PySem.W.kitOne K (.ref OutOfRange.C) (.ref SamePlace.C) = some false
  n_SamePlace_BadName : PySem.W.kitOne K (.ref SamePlace.C) (.ref BadName.C) = some false
  n_SamePlace_TooMany : PySem.W.kitOne K (.ref SamePlace.C) (.ref TooMany.C) = some false
  n_SamePlace_TakenName : PySem.W.kitOne K (.ref SamePlace.C) (.ref TakenName.C) = some false
  n_SamePlace_NoPart : PySem.W.kitOne K (.ref SamePlace.C) (.ref NoPart.C) = some false
  n_SamePlace_NoName : PySem.W.kitOne K (.ref SamePlace.C) (.ref NoName.C) = some false
  n_SamePlace_OutOfRange : PySem.W.kitOne K (.ref SamePlace.C) (.ref OutOfRange.C) = some false
structure Tbs (base : Heap) {K : PySem.W.Frag} {mg : Str → Option Value} (T : Txt K mg) (Ps : List Addr) where
  p1 : Addr
  p2 : Addr
  p3 : Addr
  p4 : Addr
  p5 : Addr
  p6 : Addr
  is_in_range : GxR.TabB base mg T.is_in_range.c p1
  is_word : GxR.TabB base mg T.is_word.c p2
  is_named : GxR.TabB base mg T.is_named.c p3
  is_too_long : GxR.TabB base mg T.is_too_long.c p4
  has_unknown_name : GxR.TabB base mg T.has_unknown_name.c p5
  check_part : GxR.TabB base mg T.check_part.c p6
  m1 : p1 ∈ Ps
  m2 : p2 ∈ Ps
  m3 : p3 ∈ Ps
  m4 : p4 ∈ Ps
  m5 : p5 ∈ Ps
  m6 : p6 ∈ Ps
/-! ### a book -/
abbrev Hd := Int ⊕ Str
def vH : Hd → V
  | .inl n => .int n
  | .inr s => .str s
def dH : Hd → PyData
  | .inl n => .int n
  | .inr s => .str s
structure Trm where
  h : Hd
  k : Nat
  q : Str
structure Lw where
  ex : Bool
  k : Nat
  q : Str
  ts : List Trm
  src : Str
structure Prt where
  nm : Str
  po : List Str
  inn : List Str
  pl : List (Str × Str)
  ls : List Lw
  jo : List (List Str)
section
def SL (H : Hp) (a : Addr) (ss : List Str) : Prop := H a = some (.lst (ss.map V.str))
def JoV (H : Hp) (v : V) (j : List Str) : Prop := ∃ a, v = .ref a ∧ SL H a j
def JoL (H : Hp) (p : Addr) (js : List (List Str)) : Prop := ∃ xs, H p = some (.lst xs) ∧ A2 (JoV H) xs js
variable (K : PySem.W.Frag)
def TmV (H : Hp) (v : V) (t : Trm) : Prop := ∃ a, v = .ref a ∧ SqT K H a [vH t.h, .int (t.k : Nat), .str t.q]
def TsL (H : Hp) (p : Addr) (ts : List Trm) : Prop := ∃ xs, H p = some (.lst xs) ∧ A2 (TmV K H) xs ts
def LW (H : Hp) (v : V) (l : Lw) : Prop := ∃ a p, v = .ref a ∧ TsL K H p l.ts ∧
  (l.ex = true ∧ SqT K H a [.str "exact", .ref p, .str l.src] ∨ l.ex = false ∧ SqT K H a [.str "sized", .int (l.k : Nat), .str l.q, .ref p, .str l.src])
def LsL (H : Hp) (p : Addr) (ls : List Lw) : Prop := ∃ xs, H p = some (.lst xs) ∧ A2 (LW K H) xs ls
def PlV (H : Hp) (v : V) (p : Str × Str) : Prop := ∃ a, v = .ref a ∧ SqT K H a [.str p.1, .str p.2]
def PlL (H : Hp) (p : Addr) (ps : List (Str × Str)) : Prop := ∃ xs, H p = some (.lst xs) ∧ A2 (PlV K H) xs ps
def PT (H : Hp) (v : V) (p : Prt) : Prop := ∃ a po inn pl la jo, v = .ref a ∧ SqT K H a [.str p.nm, .ref po, .ref inn, .ref pl, .ref la, .ref jo] ∧
  SL H po p.po ∧ SL H inn p.inn ∧ PlL K H pl p.pl ∧ LsL K H la p.ls ∧ JoL H jo p.jo
def BK (H : Hp) (b : Addr) (bk : List Prt) : Prop := ∃ xs, H b = some (.lst xs) ∧ A2 (PT K H) xs bk
/-- a place of a quantity -/
def NmV (H : Hp) (v : V) (p : Nat × Str) : Prop := ∃ a, v = .ref a ∧ SqT K H a [.int (p.1 : Nat), .str p.2]
end
section
variable {K : PySem.W.Frag} {H H' : Hp}
theorem SL.same (s : Same H H') {a : Addr} {ss : List Str} (h : SL H a ss) : SL H' a ss := s _ _ h
theorem SL.sq {a : Addr} {ss : List Str} (h : SL H a ss) : SqL K H a (ss.map V.str) := .of h
theorem TmV.same (s : Same H H') {v : V} {t : Trm} (h : TmV K H v t) : TmV K H' v t := let ⟨a, e, q⟩ := h; ⟨a, e, Same.seqT s q⟩
theorem TsL.same (s : Same H H') {p : Addr} {ts : List Trm} (h : TsL K H p ts) : TsL K H' p ts := let ⟨xs, q, r⟩ := h; ⟨xs, s _ _ q, r.mono fun _ _ z => z.same s⟩
theorem LW.same (s : Same H H') {v : V} {l : Lw} (h : LW K H v l) : LW K H' v l := by
  obtain ⟨a, p, e, q, r⟩ := h
  exact ⟨a, p, e, q.same s, r.imp (fun z => ⟨z.1, Same.seqT s z.2⟩) fun z => ⟨z.1, Same.seqT s z.2⟩⟩
theorem LsL.same (s : Same H H') {p : Addr} {ls : List Lw} (h : LsL K H p ls) : LsL K H' p ls := let ⟨xs, q, r⟩ := h; ⟨xs, s _ _ q, r.mono fun _ _ z => z.same s⟩
theorem PlV.same (s : Same H H') {v : V} {p : Str × Str} (h : PlV K H v p) : PlV K H' v p := let ⟨a, e, q⟩ := h; ⟨a, e, Same.seqT s q⟩
theorem PlL.same (s : Same H H') {p : Addr} {ps : List (Str × Str)} (h : PlL K H p ps) : PlL K H' p ps := let ⟨xs, q, r⟩ := h; ⟨xs, s _ _ q, r.mono fun _ _ z => z.same s⟩
theorem JoV.same (s : Same H H') {v : V} {j : List Str} (h : JoV H v j) : JoV H' v j := let ⟨a, e, q⟩ := h; ⟨a, e, q.same s⟩
theorem JoL.same (s : Same H H') {p : Addr} {js : List (List Str)} (h : JoL H p js) : JoL H' p js := let ⟨xs, q, r⟩ := h; ⟨xs, s _ _ q, r.mono fun _ _ z => z.same s⟩
theorem PT.same (s : Same H H') {v : V} {p : Prt} (h : PT K H v p) : PT K H' v p := by
  obtain ⟨a, po, inn, pl, la, jo, e, h0, h1, h2, h3, h4, h5⟩ := h
  exact ⟨a, po, inn, pl, la, jo, e, Same.seqT s h0, h1.same s, h2.same s, h3.same s, h4.same s, h5.same s⟩
theorem BK.same (s : Same H H') {b : Addr} {bk : List Prt} (h : BK K H b bk) : BK K H' b bk := let ⟨xs, q, r⟩ := h; ⟨xs, s _ _ q, r.mono fun _ _ z => z.same s⟩
theorem NmV.same (s : Same H H') {v : V} {p : Nat × Str} (h : NmV K H v p) : NmV K H' v p := let ⟨a, e, q⟩ := h; ⟨a, e, Same.seqT s q⟩
end
/-- the places of a law -/
def Lw.places (l : Lw) : List (Nat × Str) := if l.ex then l.ts.map fun t => (t.k, t.q) else (l.k, l.q) :: l.ts.map fun t => (t.k, t.q)
/-- the names of sizes of a law -/
def hS : Hd → Str
  | .inl _ => ""
  | .inr s => s
def Lw.sizes (l : Lw) : List Str := if l.ex then [] else l.ts.map fun t => hS t.h
/-- the texts of a part's ports -/
def own (ps inn : List Str) : List Str := (ps.flatMap fun x => [x ++ (".u" : Str), x ++ (".i" : Str)]) ++ inn
theorem flat_strs : ∀ qs : List Str, (qs.map V.str).all flatV = true
  | [] => rfl
  | q :: r => by rw [List.map_cons, List.all_cons, flat_strs r]; rfl
theorem r1 {k : Nat} {A : Around} (r : Room k A) : A.units + 1 < cLine := by have := r.un; omega
/-- all stands but the tables of code -/
def Lk (H H' : Hp) : Prop := ∀ b o, H b = some o → (∀ q, o ≠ .tbl q) → H' b = some o
def TGs (Ps : List Addr) (H : Hp) : Prop := ∀ P ∈ Ps, GxR.TabG H P
section
variable {K : PySem.W.Frag} {H H' H2 : Hp} {Ps : List Addr}
theorem lk_of (s : Same H H') : Lk H H' := fun b o e _ => s b o e
theorem Lk.refl : Lk H H := fun _ _ e _ => e
theorem Lk.trans (a : Lk H H') (b : Lk H' H2) : Lk H H2 := fun c o e n => b c o (a c o e n) n
theorem Lk.lst (s : Lk H H') {a : Addr} {xs : List V} (h : H a = some (.lst xs)) : H' a = some (.lst xs) := s _ _ h fun q z => nomatch z
theorem Lk.tup (s : Lk H H') {a : Addr} {xs : List V} (h : H a = some (.tup xs)) : H' a = some (.tup xs) := s _ _ h fun q z => nomatch z
theorem Lk.seqL (s : Lk H H') {a : Addr} {xs : List V} (h : SqL K H a xs) : SqL K H' a xs := by
  rcases h with (h | ⟨o, h⟩) | h
  · exact .inl (.inl (s _ _ h fun q z => nomatch z))
  · exact .inl (.inr ⟨o, s _ _ h fun q z => nomatch z⟩)
  · exact .inr h
theorem Lk.seqT (s : Lk H H') {a : Addr} {xs : List V} (h : SqT K H a xs) : SqT K H' a xs := by
  rcases h with (h | ⟨o, h⟩) | h
  · exact .inl (.inl (s _ _ h fun q z => nomatch z))
  · exact .inl (.inr ⟨o, s _ _ h fun q z => nomatch z⟩)
  · exact .inr h
theorem TGs.same (s : Same H H') (h : TGs Ps H) : TGs Ps H' := fun P hP => let ⟨ps, e, t⟩ := h P hP; ⟨ps, s _ _ e, t⟩
theorem lk_tab {P : Addr} (h : GxR.TabG H P) (t : GxR.Tabbed P H H') : Lk H H' := fun b o e n => by
  rw [t.2 b (fun z => by obtain ⟨ps, hp, _⟩ := h; rw [z, hp] at e; exact n ps (Option.some.inj e).symm)]
  exact e
theorem TGs.tab {P : Addr} (h : TGs Ps H) (t : GxR.Tabbed P H H') : TGs Ps H' := fun R hR => by
  by_cases e : R = P
  · rw [e]; exact t.1
  · obtain ⟨ps, hp, ht⟩ := h R hR
    exact ⟨ps, by rw [t.2 R e]; exact hp, ht⟩
end

end K07
-- D07
namespace K07
open PySem PySem.Spec PyProof.Rows L2
section
variable {P : Program} {w : World} {K : PySem.W.Frag} {mg : Str → Option Value} {base : Heap}
def cf (ns : List Int) (m : Nat) : Int := ns.getD m 0
theorem at_map' {ns : List Int} {i : Int} {m : Nat} (e : i = (m : Int)) (h : m < ns.length) : atI (ns.map V.int) i = some (V.int (cf ns m)) := by
  rw [e]
  refine atI_nat ?_
  rw [List.getElem?_map, at_getD (d := 0) h]; rfl
def sp_law_draws (K : PySem.W.Frag) : Sp := fun vs H Q _ => ∃ (a : Addr) (ns : List Int), vs = [.ref a] ∧ SqL K H a (ns.map V.int) ∧ ns.length ≤ 63 ∧ ∀ H' p ds, Same H H' → H p = none → IL H' p ds → ds.length ≤ 4000 → Q (.ref p) H'
theorem ok_law_draws (T : Txt K mg) : FnOk P w K mg base CX0 1 T.law_draws.a T.law_draws.fd ["script"] (sp_law_draws K) := by
  refine T.law_draws.F.ok sc_law_draws (fun vs H Q E h => ?_) (fun cdv A outer s H vs Q E hr h => ?_)
  · obtain ⟨a, ns, rfl, _⟩ := h
    rfl
  · obtain ⟨a, ns, rfl, ha, hl, q⟩ := h
    refine ⟨_, (pss_cons (ps_set (i := 1) sc_law_draws.nd rfl (.inl rfl) (pe_lst pa_nil))
      (pss_cons (ps_for PassesOwn.never rfl (pi_range1 (by rfl) T.m_range (pa_cons (pe_callB (call_min2 rfl) (by rfl) T.m_min (by decide +kernel) (pa_cons pe_int (pa_cons (pe_callB call_len_seq (by rfl) T.m_len (by decide +kernel) (pa_cons (pv 0) pa_nil)) pa_nil))) pa_nil)) (pg_name (i := 2) sc_law_draws.nd rfl (.inl rfl))
        (pss_cons (ps_set (i := 3) sc_law_draws.nd rfl (.inl rfl) (pe_callB call_abs (by rfl) T.m_abs (by decide +kernel) (pa_cons (pe_ix ix_list (pv 0) (pv 2) (fun _ _ => rfl)) pa_nil)))
        (pss_one (ps_if (pt_cmpR op_ge (pv 3) (pe_op op_pow pe_int pe_int) (nomark _))
          (pss_one (ps_for PassesOwn.never rfl (pi_range1 (by rfl) T.m_range (pa_cons pe_int pa_nil)) (pg_name (i := 4) sc_law_draws.nd rfl (.inl rfl))
            (pss_one (ps_if (pt_cmpR op_gt (pv 3) pe_int (nomark _))
              (pss_cons (ps_expr (pe_bm PySem.F.plainAttrs_list PySem.F.slot_list_append PySem.F.type_list_append mt_append (pv 1) (pa_cons (pe_op op_mod (pe_callTy call_int1 (by rfl) T.m_int (by decide +kernel) (pa_cons (pv 3) pa_nil)) pe_int) pa_nil)))
              (pss_one (ps_set (i := 3) sc_law_draws.nd rfl (.inl rfl) (pe_op op_fdiv (pv 3) pe_int))))
              pss_nil))))
          (pss_cons (ps_set (i := 5) sc_law_draws.nd rfl (.inl rfl) (pe_op op_mod (pe_callTy call_int1 (by rfl) T.m_int (by decide +kernel) (pa_cons (pe_op op_add (pe_op op_mul (pv 3) pe_int) (pe_op op_mul (pe_op op_add (pv 2) pe_int) pe_int)) pa_nil)) pe_int))
          (pss_cons (ps_set (i := 5) sc_law_draws.nd rfl (.inl rfl) (pe_op op_mod (pe_callTy call_int1 (by rfl) T.m_int (by decide +kernel) (pa_cons (pe_op op_add (pe_op op_add (pe_op op_mul (pv 5) pe_int) (pe_op op_mul pe_int (pv 2))) pe_int) pa_nil)) pe_int))
          (pss_cons (ps_expr (pe_bm PySem.F.plainAttrs_list PySem.F.slot_list_append PySem.F.type_list_append mt_append (pv 1) (pa_cons (pe_op op_mod (pe_callTy call_int1 (by rfl) T.m_int (by decide +kernel) (pa_cons (pv 5) pa_nil)) pe_int) pa_nil)))
          (pss_one (ps_expr (pe_bm PySem.F.plainAttrs_list PySem.F.slot_list_append PySem.F.type_list_append mt_append (pv 1) (pa_cons (pe_op op_mod (pe_callTy call_int1 (by rfl) T.m_int (by decide +kernel) (pa_cons (pe_op op_fdiv (pv 5) pe_int) pa_nil)) pe_int) pa_nil)))))))))))
      (pss_one (ps_ret (pv 1))))), ?_⟩
    refine ⟨Nat.zero_le _, fun p hp => ?_⟩
    have s0 := same_upd (o := .lst []) hp
    obtain ⟨L, hL, eL⟩ : ∃ L : Nat, L ≤ ns.length ∧ L ≤ 63 ∧ (if ((ns.map V.int).length : Int) < 63 then ((ns.map V.int).length : Int) else 63) = (L : Int) := by
      refine ⟨min ns.length 63, Nat.min_le_left _ _, Nat.min_le_right _ _, ?_⟩
      rw [List.length_map]
      split <;> omega
    refine ⟨.ref a, rfl, a, _, rfl, .inl (s0.seq ha), 63, _, rfl, (L : Int), congrArg (fun z => [V.int z]) eL.2, by omega, by omega, ?_⟩
    refine for_range (n := (L : Int).toNat) (lo := 0) (fun i σ H' => Same H H' ∧ ∃ ds v2 v3 v4 v5, σ = [some (.ref a), some (.ref p), v2, v3, v4, v5] ∧ IL H' p ds ∧ ds.length ≤ 60 * i) ⟨s0, [], none, none, none, none, rfl, upd_same, Nat.zero_le _⟩ (fun i σ H' hi hP => ?_) (fun σ H' hP => ?_)
    · obtain ⟨sm, ds, v2, v3, v4, v5, rfl, hd, hn⟩ := hP
      have hi' : i < ns.length := by omega
      refine ⟨.ref a, rfl, _, rfl, a, _, _, _, rfl, rfl, sm.seq ha, at_map' (m := i) (by omega) hi', _, rfl, ?_⟩
      obtain ⟨r, hr1, er⟩ : ∃ r : Int, 0 ≤ r ∧ (if cf ns i < 0 then -cf ns i else cf ns i) = r := ⟨_, by split <;> omega, rfl⟩
      rw [er]
      refine ⟨_, rfl, _, _, rfl, rfl, ⟨by decide, by decide, by decide⟩, _, _, rfl, rfl, _, rfl, ?_⟩
      refine ite2 (fun _ => ?_) (fun hlt => ?_)
      · refine ⟨60, rfl, by decide, by decide, ?_⟩
        refine for_range (n := 60) (lo := 0) (fun j σ H' => Same H H' ∧ ∃ ds v2 v4 v5 r, σ = [some (.ref a), some (.ref p), v2, some (.int r), v4, v5] ∧ 0 ≤ r ∧ IL H' p ds ∧ ds.length ≤ 60 * i + j) ⟨sm, ds, _, _, _, r, rfl, hr1, hd, hn⟩ (fun j σ H' hj hP => ?_) (fun σ H' hP => ?_)
        · obtain ⟨sm, ds, v2, v4, v5, r, rfl, hr1, hd, hn⟩ := hP
          refine ⟨_, rfl, _, _, rfl, rfl, _, rfl, ?_⟩
          refine ite2 (fun _ => ?_) (fun _ => ⟨sm, ds, _, _, _, r, rfl, hr1, hd, by omega⟩)
          refine ⟨.ref p, rfl, .inl ⟨rfl, _, hd.sq⟩, _, rfl, .inl ⟨_, rfl, _, _, rfl, rfl, (by show (0 : Int) < _; decide), p, _, _, rfl, rfl, hd, by rw [List.length_map]; exact small' (by omega), ?_⟩⟩
          rw [app_ints]
          refine ⟨_, rfl, _, _, rfl, rfl, ⟨by decide, by decide⟩, ?_⟩
          exact ⟨same_over sm hp, _, _, _, _, _, rfl, by omega, il_upd, by rw [List.length_append]; show _ + 1 ≤ _; omega⟩
        · obtain ⟨sm, ds, v2, v4, v5, r, rfl, hr1, hd, hn⟩ := hP
          exact ⟨sm, ds, _, _, _, _, rfl, hd, by omega⟩
      · have hr2 : r < 10 ^ 18 := by
          have e : ((10 : Int) ^ (18 : Int).toNat) = 10 ^ 18 := rfl
          rw [e] at hlt
          have := of_decide_eq_false (Bool.eq_false_iff.mpr hlt)
          omega
        refine ⟨_, rfl, _, _, rfl, rfl, .inl ⟨by omega, by omega⟩, _, rfl, _, _, rfl, rfl, _, _, rfl, rfl, .inr ⟨by decide, by decide⟩, _, _, rfl, rfl, .inl ⟨_, rfl, _, _, rfl, rfl, (by show (0 : Int) < _; decide), ?_⟩⟩
        refine ⟨_, rfl, _, _, rfl, rfl, .inr ⟨by decide, by decide⟩, _, rfl, _, _, rfl, rfl, .inl ⟨by decide, by decide⟩, _, _, rfl, rfl, _, _, rfl, rfl, .inl ⟨_, rfl, _, _, rfl, rfl, (by show (0 : Int) < _; decide), ?_⟩⟩
        refine ⟨.ref p, rfl, .inl ⟨rfl, _, hd.sq⟩, _, rfl, .inl ⟨_, rfl, _, _, rfl, rfl, (by show (0 : Int) < _; decide), p, _, _, rfl, rfl, hd, by rw [List.length_map]; exact small' (by omega), ?_⟩⟩
        rw [app_ints]
        refine ⟨.ref p, rfl, .inl ⟨rfl, _, il_upd.sq⟩, _, rfl, _, _, rfl, rfl, ⟨by decide, by decide⟩, .inl ⟨_, rfl, _, _, rfl, rfl, (by show (0 : Int) < _; decide), p, _, _, rfl, rfl, il_upd, by rw [List.length_map, List.length_append]; exact small' (by show _ + 1 < _; omega), ?_⟩⟩
        rw [app_ints]
        exact ⟨same_over (same_over sm hp) hp, _, _, _, _, _, rfl, il_upd, by rw [List.length_append, List.length_append]; show _ + 1 + 1 ≤ _; omega⟩
    · obtain ⟨sm, ds, v2, v3, v4, v5, rfl, hd, hn⟩ := hP
      exact ⟨_, rfl, q H' p ds sm hp hd (by omega)⟩
/-- what a place of the draws gives -/
def la (ds : List Int) (k many : Int) : Int := if k < ds.length then cf ds k.toNat % many else 0
theorem la0 {ds : List Int} {k many : Int} (h : 0 < many) : 0 ≤ la ds k many := by
  unfold la; split
  · exact Int.emod_nonneg _ (by omega)
  · exact Int.le_refl _
theorem la1 {ds : List Int} {k many : Int} (h : 0 < many) : la ds k many < many := by
  unfold la; split
  · exact Int.emod_lt_of_pos _ h
  · exact h
def sp_law_at : Sp := fun vs H Q _ => ∃ (a : Addr) (ds : List Int) (k many : Int), vs = [.ref a, .int k, .int many] ∧ IL H a ds ∧ 0 ≤ k ∧ 0 < many ∧ Q (.int (la ds k many)) H
theorem ok_law_at (T : Txt K mg) : FnOk P w K mg base CX0 1 T.law_at.a T.law_at.fd ["draws", "k", "many"] sp_law_at := by
  refine T.law_at.F.ok sc_law_at (fun vs H Q E h => ?_) (fun cdv A outer s H vs Q E hr h => ?_)
  · obtain ⟨a, ds, k, m, rfl, _⟩ := h
    rfl
  · obtain ⟨a, ds, k, m, rfl, ha, hk, hm, q⟩ := h
    refine ⟨_, (pss_cons (ps_if (pt_cmpR op_lt (pv 1) (pe_callB call_len_seq (by rfl) T.m_len (by decide +kernel) (pa_cons (pv 0) pa_nil)) (nomark _))
        (pss_one (ps_ret (pe_op op_mod (pe_callTy call_int1 (by rfl) T.m_int (by decide +kernel) (pa_cons (pe_ix ix_list (pv 0) (pv 1) (fun _ _ => rfl)) pa_nil)) (pv 2))))
        pss_nil)
      (pss_one (ps_ret pe_int))), ?_⟩
    refine ⟨_, rfl, .ref a, rfl, a, _, rfl, .inl ha.sq, _, _, rfl, rfl, _, rfl, ?_⟩
    rw [List.length_map]
    unfold la at q
    refine ite2 (fun h => ?_) (fun h => ?_)
    · have hlt := of_decide_eq_true h
      rw [if_pos hlt] at q
      refine ⟨.ref a, rfl, _, rfl, a, _, _, _, rfl, rfl, ha.sq, at_map' (m := k.toNat) (by omega) (by omega), .inl ⟨_, rfl, _, rfl, _, _, rfl, rfl, hm, q⟩⟩
    · rw [if_neg (fun z => by exact h (decide_eq_true z))] at q
      exact q
theorem at_ex {α : Type} {xs : List α} {i : Int} (h0 : 0 ≤ i) (h1 : i < xs.length) : ∃ c, atI xs i = some c ∧ c ∈ xs := by
  obtain ⟨n, rfl⟩ : ∃ n : Nat, i = (n : Int) := ⟨i.toNat, by omega⟩
  have h : n < xs.length := by omega
  exact ⟨xs[n], atI_nat (by simp [h]), List.getElem_mem h⟩
/-! ### the pool of names -/
theorem let26 : ∀ j : Fin 26, atI ("abcdefghijklmnopqrstuvwxyz" : Str).cps.toList ((j.val : Nat) : Int) = some (97 + j.val) := by decide +kernel
/-- the tail of a name -/
def tl (long i : Nat) : Str := Txt.mul ("4567890abcd" : Str) ((long : Nat) * (if i % 5 = 2 ∧ i < 26 then 1 else 0 : Int)) ++ Txt.mul ("x" : Str) ((i : Int) / 26)
theorem tl_pos {long i : Nat} (h : i % 5 = 2) (h2 : i < 26) : tl long i = Txt.mul ("4567890abcd" : Str) ((long : Int) * 1) ++ Txt.mul ("x" : Str) ((i : Int) / 26) := by
  unfold tl
  simp only [h, h2, and_self, if_true]
theorem tl_neg {long i : Nat} (h : ¬ (i % 5 = 2 ∧ i < 26)) : tl long i = Txt.mul ("4567890abcd" : Str) ((long : Int) * 0) ++ Txt.mul ("x" : Str) ((i : Int) / 26) := by
  unfold tl
  simp only [h, if_false]
theorem same_none {H H' : Hp} {p : Addr} (s : Same H H') (h : H' p = none) : H p = none := by
  cases e : H p with
  | none => rfl
  | some o => rw [s _ _ e] at h; cases h
/-- at most n signs, all of them plain -/
def GS (n : Nat) (s : Str) : Prop := s.length ≤ n ∧ ∀ c ∈ s.cps.toList, c < 200
instance {n : Nat} {s : Str} : Decidable (GS n s) := inferInstanceAs (Decidable (_ ∧ _))
theorem GS.mono {n m : Nat} {s : Str} (h : GS n s) (l : n ≤ m) : GS m s := ⟨Nat.le_trans h.1 l, h.2⟩
theorem GS.add {n m : Nat} {s t : Str} (a : GS n s) (b : GS m t) : GS (n + m) (s ++ t) := by
  refine ⟨by rw [Str.length_append]; exact Nat.add_le_add a.1 b.1, fun c hc => ?_⟩
  rw [Str.cps_append, Array.toList_append] at hc
  exact (List.mem_append.mp hc).elim (a.2 c) (b.2 c)
theorem GS.one {c : Nat} (h : c < 200) : GS 1 ⟨#[c]⟩ := ⟨Nat.le_refl _, fun x hx => by simp at hx; omega⟩
theorem tl_all : ∀ (l : Fin 2) (i : Fin 52), GS 11 (tl l.val i.val) := by decide +kernel
theorem tl_gs (l i : Nat) (hl : l < 2) (hi : i < 52) : GS 11 (tl l i) := tl_all ⟨l, hl⟩ ⟨i, hi⟩
theorem tl_ne : ∀ (l : Fin 2) (i : Fin 52) (j : Fin 52), i.val % 26 = j.val % 26 → tl l.val i.val = tl l.val j.val → i = j := by decide +kernel
def pn (start long i : Nat) : Str := (⟨#[97 + (start + 7 * i) % 26]⟩ : Str) ++ tl long i
theorem pn_gs {s l i : Nat} (hl : l < 2) (hi : i < 52) : GS 12 (pn s l i) := (GS.one (by omega)).add (tl_gs l i hl hi)
theorem pn_inj {s l i j : Nat} (hl : l < 2) (hi : i < 52) (hj : j < 52) (e : pn s l i = pn s l j) : i = j := by
  have ec : (pn s l i).cps.toList = (pn s l j).cps.toList := by rw [e]
  unfold pn at ec
  rw [Str.cps_append, Str.cps_append, Array.toList_append, Array.toList_append] at ec
  injection ec with e1 e2
  have et : tl l i = tl l j := by
    have e3 : (tl l i).cps = (tl l j).cps := Array.toList_inj.mp e2
    cases hA : tl l i; cases hB : tl l j
    rw [hA, hB] at e3
    exact congrArg _ e3
  have h := tl_ne ⟨l, hl⟩ ⟨i, hi⟩ ⟨j, hj⟩ (by show i % 26 = j % 26; omega) et
  exact congrArg Fin.val h
def pool (start long : Nat) : List Str := (List.range 52).map (pn start long)
theorem pool_len {s l : Nat} : (pool s l).length = 52 := by rw [pool, List.length_map, List.length_range]
theorem pool_get {s l i : Nat} (h : i < 52) : (pool s l)[i]? = some (pn s l i) := by
  rw [pool, List.getElem?_map, List.getElem?_range h]; rfl
theorem pool_at {s l i : Nat} {z : Int} (e : z = (i : Int)) (h : i < 52) : atI ((pool s l).map V.str) z = some (V.str (pn s l i)) := by
  rw [e]
  refine atI_nat ?_
  rw [List.getElem?_map, pool_get h]; rfl
def sp_law_pool : Sp := fun vs H Q _ => ∃ (a : Addr) (ds : List Int) (k : Int), vs = [.ref a, .int k] ∧ IL H a ds ∧ 0 ≤ k ∧
  ∀ (H' : Hp) (p : Addr) (start long : Nat), start < 26 → long < 2 → Same H H' → H p = none → H' p = some (.lst ((pool start long).map V.str)) → Q (.ref p) H'
theorem ok_law_pool (T : Txt K mg) : FnOk P w K mg base CX0 2 T.law_pool.a T.law_pool.fd ["draws", "k"] sp_law_pool := by
  refine T.law_pool.F.ok sc_law_pool (fun vs H Q E h => ?_) (fun cdv A outer s H vs Q E hr h => ?_)
  · obtain ⟨a, ds, k, rfl, _⟩ := h
    rfl
  · obtain ⟨a, ds, k, rfl, ha, hk, q⟩ := h
    refine ⟨_, (pss_cons (ps_set (i := 2) sc_law_pool.nd rfl (.inr rfl) pe_str)
      (pss_cons (ps_set (i := 3) sc_law_pool.nd rfl (.inr rfl) (pe_call (ok_law_at T) (hr.mono (by decide)) (by rfl) T.law_at.g T.law_at.F.kp T.law_at.b .nil pass0 (pa_cons (pv 0) (pa_cons (pv 1) (pa_cons pe_int pa_nil)))))
      (pss_cons (ps_set (i := 4) sc_law_pool.nd rfl (.inr rfl) (pe_op op_fdiv (pe_call (ok_law_at T) (hr.mono (by decide)) (by rfl) T.law_at.g T.law_at.F.kp T.law_at.b .nil pass0 (pa_cons (pv 0) (pa_cons (pv 1) (pa_cons pe_int pa_nil)))) pe_int))
      (pss_cons (ps_set (i := 5) sc_law_pool.nd rfl (.inr rfl) (pe_lc (own := [("i", 6)]) rfl sc_law_pool.nd (pi_range1 (by rfl) T.m_range (pa_cons pe_int pa_nil)) (blkOk_by (N := ["draws", "k", "letters", "start", "long", "ends", "i"]) (sc := defScope s_law_pool) (by decide +kernel)) (fun _ _ _ _ _ => (pg_name (i := 6) sc_law_pool.nd rfl (.inl rfl))) (fun _ _ _ _ _ => pts_nil) (fun _ _ _ _ _ => (pe_op op_add_str (pe_op op_mulS pe_str (pe_op op_mul (pv 4) (pe_callTy call_int1 (by rfl) T.m_int (by decide +kernel) (pa_cons (pe_and (pe_cmpR op_eq (pe_op op_mod (pe_callTy call_int1 (by rfl) T.m_int (by decide +kernel) (pa_cons (pv 6) pa_nil)) pe_int) pe_int (nomark _)) (pe_one (pe_cmpR op_lt (pv 6) pe_int (nomark _)))) pa_nil)))) (pe_op op_mulS pe_str (pe_op op_fdiv (pv 6) pe_int))))))
      (pss_one (ps_ret (pe_lc (own := [("i", 6)]) rfl sc_law_pool.nd (pi_range1 (by rfl) T.m_range (pa_cons pe_int pa_nil)) (blkOk_by (N := ["draws", "k", "letters", "start", "long", "ends", "i"]) (sc := defScope s_law_pool) (by decide +kernel)) (fun _ _ _ _ _ => (pg_name (i := 6) sc_law_pool.nd rfl (.inl rfl))) (fun _ _ _ _ _ => pts_nil) (fun _ _ _ _ _ => (pe_op op_add_str (pe_ix ix_str (pv 2) (pe_op op_mod (pe_callTy call_int1 (by rfl) T.m_int (by decide +kernel) (pa_cons (pe_op op_add (pv 3) (pe_op op_mul pe_int (pv 6))) pa_nil)) pe_int) (fun _ _ => rfl)) (pe_ix (r := rIxL K) ix_list (pv 5) (pv 6) (fun _ _ => rfl))))))))))), ?_⟩
    have s0 := la0 (ds := ds) (k := k) (many := 26) (by decide)
    have s1 := la1 (ds := ds) (k := k) (many := 26) (by decide)
    have l0 := la0 (ds := ds) (k := k) (many := 52) (by decide)
    have l1 := la1 (ds := ds) (k := k) (many := 52) (by decide)
    refine ⟨.ref a, rfl, _, rfl, a, ds, k, 26, rfl, ha, hk, by decide, ?_⟩
    refine ⟨.ref a, rfl, _, rfl, a, ds, k, 52, rfl, ha, hk, by decide, _, _, rfl, rfl, ⟨by decide, by decide⟩, ?_⟩
    generalize la ds k 26 = start at s0 s1
    generalize la ds k 52 = lng at l0 l1
    obtain ⟨start, rfl⟩ : ∃ n : Nat, start = (n : Int) := ⟨start.toNat, by omega⟩
    obtain ⟨long, el⟩ : ∃ n : Nat, lng / 26 = (n : Int) := ⟨(lng / 26).toNat, by omega⟩
    dsimp only
    rw [el]
    refine ⟨52, rfl, by decide, by decide, fun D nD => ?_⟩
    refine lc_relR (n := 52) (fun j y => y = .str (tl long j)) nD (by decide) (fun j H' Q' hj sm hq => ?_) (fun H' ys sm hy hn hr => ?_)
    · have len : ∀ z : Int, 0 ≤ z → z ≤ 2 → (Txt.mul ("4567890abcd" : Str) z).length + (Txt.mul ("x" : Str) ((j : Int) / 26)).length ≤ sizeLine := fun z z0 z1 => by
        have e1 := len_mul ("4567890abcd" : Str) z
        have e2 := len_mul ("x" : Str) ((j : Int) / 26)
        rw [if_neg (fun h => by have := of_decide_eq_true h; omega)] at e1 e2
        rw [show ("4567890abcd" : Str).length = 11 from by decide +kernel] at e1
        rw [show ("x" : Str).length = 1 from by decide +kernel] at e2
        exact small (by omega)
      have b0 : (0 : Int) ≤ (j : Int) / 26 := by omega
      have b1 : (j : Int) / 26 ≤ 1 := by omega
      refine ⟨_, rfl, _, rfl, .inl ⟨_, rfl, _, _, rfl, rfl, (by show (0 : Int) < _; decide), rfl, _, rfl, ?_⟩⟩
      refine ite2 (fun h1 => ?_) (fun h1 => ?_)
      · have e5 : (j : Int) % 5 = 2 := V.int.inj (of_decide_eq_true h1)
        by_cases h2 : j < 26
        · refine ⟨_, rfl, _, _, rfl, rfl, .inr ⟨_, rfl, ?_⟩⟩
          rw [decide_eq_true (by omega : (j : Int) < 26)]
          refine ⟨_, _, rfl, rfl, .inl ⟨by omega, by omega⟩, _, _, rfl, rfl, (by decide +kernel), by show -1000 ≤ (long : Int) * 1; omega, by show (long : Int) * 1 ≤ 1000; omega, ?_⟩
          refine ⟨_, rfl, _, _, rfl, rfl, ⟨by decide, by decide⟩, _, _, rfl, rfl, (by decide +kernel), by omega, by omega, ?_⟩
          refine ⟨_, _, rfl, rfl, len _ (by show 0 ≤ (long : Int) * 1; omega) (by show (long : Int) * 1 ≤ 2; omega), hq _ (congrArg V.str (tl_pos (by omega) h2).symm)⟩
        · refine ⟨_, rfl, _, _, rfl, rfl, .inr ⟨_, rfl, ?_⟩⟩
          rw [decide_eq_false (by omega : ¬ (j : Int) < 26)]
          refine ⟨_, _, rfl, rfl, .inl ⟨by omega, by omega⟩, _, _, rfl, rfl, (by decide +kernel), by show -1000 ≤ (long : Int) * 0; omega, by show (long : Int) * 0 ≤ 1000; omega, ?_⟩
          refine ⟨_, rfl, _, _, rfl, rfl, ⟨by decide, by decide⟩, _, _, rfl, rfl, (by decide +kernel), by omega, by omega, ?_⟩
          refine ⟨_, _, rfl, rfl, len _ (by show 0 ≤ (long : Int) * 0; omega) (by show (long : Int) * 0 ≤ 2; omega), hq _ (congrArg V.str (tl_neg fun z => h2 z.2).symm)⟩
      · have e5 : ¬ (j : Int) % 5 = 2 := fun z => h1 (decide_eq_true (congrArg V.int z))
        refine .inr ⟨_, rfl, ?_⟩
        refine ⟨_, _, rfl, rfl, .inl ⟨by omega, by omega⟩, _, _, rfl, rfl, (by decide +kernel), by show -1000 ≤ (long : Int) * 0; omega, by show (long : Int) * 0 ≤ 1000; omega, ?_⟩
        refine ⟨_, rfl, _, _, rfl, rfl, ⟨by decide, by decide⟩, _, _, rfl, rfl, (by decide +kernel), by omega, by omega, ?_⟩
        refine ⟨_, _, rfl, rfl, len _ (by show 0 ≤ (long : Int) * 0; omega) (by show (long : Int) * 0 ≤ 2; omega), hq _ (congrArg V.str (tl_neg fun z => e5 (by have := z.1; omega)).symm)⟩
    · have ey : ys = ((List.range 52).map fun i => V.str (tl long i)) := by
        refine List.ext_getElem? fun i => ?_
        rcases Nat.lt_or_ge i 52 with hi | hi
        · rw [List.getElem?_map, List.getElem?_range hi]
          obtain ⟨y, h⟩ : ∃ y, ys[i]? = some y := ⟨ys[i]'(by omega), by simp [show i < ys.length by omega]⟩
          rw [h, hr i y h]; rfl
        · rw [List.getElem?_eq_none (by omega), List.getElem?_eq_none (by simp; omega)]
      subst ey
      refine ⟨52, rfl, by decide, by decide, fun D2 nD2 => ?_⟩
      refine lc_relR (n := 52) (fun j y => y = .str (pn start long j)) nD2 (by decide) (fun j H2 Q' hj sm2 hq => ?_) (fun H2 ys sm2 hy2 hn2 hr2 => ?_)
      · refine ⟨_, rfl, _, rfl, _, rfl, _, _, rfl, rfl, .inl ⟨by omega, by omega⟩, _, _, rfl, rfl, .inl ⟨_, rfl, _, _, rfl, rfl, (by show (0 : Int) < _; decide), ?_⟩⟩
        have ec : ((start : Int) + 7 * (j : Int)) % 26 = (((start + 7 * j) % 26 : Nat) : Int) := by omega
        have at1 := let26 ⟨(start + 7 * j) % 26, Nat.mod_lt _ (by decide)⟩
        dsimp only at at1
        rw [← ec] at at1
        have at2 : atI ((List.range 52).map fun i => V.str (tl long i)) ((j : Nat) : Int) = some (.str (tl long j)) := atI_nat (by rw [List.getElem?_map, List.getElem?_range hj]; rfl)
        refine ⟨_, _, _, rfl, rfl, (by decide +kernel), at1, _, rfl, _, rfl, _, _, _, _, rfl, rfl, .of (sm2 _ _ hy), at2, _, _, rfl, rfl, ?_, hq _ rfl⟩
        exact small (by have := (tl_gs long j (by omega) (by omega)).1; show 1 + _ ≤ 60000; omega)
      · have ey : ys = (pool start long).map V.str := by
          refine List.ext_getElem? fun i => ?_
          rcases Nat.lt_or_ge i 52 with hi | hi
          · rw [List.getElem?_map, pool_get hi]
            obtain ⟨y, h⟩ : ∃ y, ys[i]? = some y := ⟨ys[i]'(by omega), by simp [show i < ys.length by omega]⟩
            rw [h, hr2 i y h]; rfl
          · rw [List.getElem?_eq_none (by omega), List.getElem?_eq_none (by rw [List.length_map, pool_len]; omega)]
        subst ey
        exact q H2 D2 start long (by omega) (by omega) (sm.trans sm2) (same_none sm nD2) hy2
end
end K07
-- O07
namespace K07
open PySem PySem.Spec PyProof.Rows L2
section
variable {P : Program} {w : World} {K : PySem.W.Frag} {mg : Str → Option Value} {base : Heap}
def sp_law_own (K : PySem.W.Frag) : Sp := fun vs H Q _ => ∃ (v : V) (p : Prt), vs = [v] ∧ PT K H v p ∧ p.po.length ≤ 100 ∧ p.inn.length ≤ 1000 ∧ (∀ x ∈ p.po, x.length ≤ 1000) ∧
  ∀ (H' : Hp) (q : Addr), Same H H' → H q = none → SL H' q (own p.po p.inn) → Q (.ref q) H'
theorem ok_law_own (T : Txt K mg) : FnOk P w K mg base CX0 1 T.law_own.a T.law_own.fd ["part"] (sp_law_own K) := by
  refine T.law_own.F.ok sc_law_own (fun vs H Q E h => ?_) (fun cdv A outer s H vs Q E hr h => ?_)
  · obtain ⟨v, p, rfl, _⟩ := h
    rfl
  · obtain ⟨v, p, rfl, ⟨a, po, inn, pl, la, jo, rfl, h0, h1, h2, _⟩, l1, l2, l3, q⟩ := h
    refine ⟨_, (pss_cons (ps_set (i := 1) sc_law_own.nd rfl (.inl rfl) (pe_lst pa_nil))
      (pss_cons (ps_for PassesOwn.never rfl (pi_list (pe_ix ix_tup (pv 0) pe_int (fun _ _ => rfl))) (pg_name (i := 2) sc_law_own.nd rfl (.inl rfl))
        (pss_one (ps_set (i := 1) sc_law_own.nd rfl (.inl rfl) (pe_op op_cat (pv 1) (pe_lst (pa_cons (pe_op op_add_str (pv 2) pe_str) (pa_cons (pe_op op_add_str (pv 2) pe_str) pa_nil)))))))
      (pss_one (ps_ret (pe_op op_cat (pv 1) (pe_ix ix_tup (pv 0) pe_int (fun _ _ => rfl))))))), ?_⟩
    refine ⟨by show 0 ≤ sizeLine; decide, fun f nf => ⟨.ref a, rfl, _, _, _, _, rfl, rfl, Same.seqT (same_upd nf) h0, rfl, po, rfl, ⟨_, .of ((same_upd nf) _ _ h1)⟩, ?_⟩⟩
    have len : ∀ i : Nat, ((p.po.take i).flatMap fun x => [x ++ (".u" : Str), x ++ (".i" : Str)]).length = 2 * (p.po.take i).length := fun i => by
      generalize p.po.take i = xs
      induction xs with
      | nil => rfl
      | cons x r ih => rw [List.flatMap_cons, List.length_append, ih]; show 2 + _ = 2 * (_ + 1); omega
    refine for_it (walk_list (K := K) (a := po) (xs := p.po.map V.str)) (fun i σ G => Same H G ∧ ∃ (v2 : Option V) (f : Addr), H f = none ∧ σ = [some (.ref a), some (.ref f), v2] ∧ SL G f ((p.po.take i).flatMap fun x => [x ++ (".u" : Str), x ++ (".i" : Str)])) ⟨same_upd nf, none, f, nf, rfl, upd_same⟩ (fun _ _ G _ pv => .of (pv.1 _ _ h1)) (fun i x σ G G' hi pv y => ?_) (fun σ G pv => ?_)
    · obtain ⟨sm, v2, f, nf, rfl, hf⟩ := pv
      obtain ⟨rfl, hx⟩ := y
      have hi' : i < p.po.length := by rw [List.length_map] at hi; exact hi
      have ex : p.po[i]? = some p.po[i] := by simp [hi']
      rw [List.getElem?_map, ex] at hx
      have hx : V.str p.po[i] = x := Option.some.inj hx
      subst hx
      have lx := l3 _ (mem_at ex)
      generalize p.po[i] = x at lx ex
      refine ⟨.ref f, rfl, _, rfl, _, _, rfl, rfl, small (by show _ + 2 ≤ 60000; omega), _, rfl, _, _, rfl, rfl, small (by show _ + 2 ≤ 60000; omega), by show 2 ≤ sizeLine; decide, fun t nt => ?_⟩
      have ll : (((p.po.take i).flatMap fun x => [x ++ (".u" : Str), x ++ (".i" : Str)]).map V.str).length + 2 ≤ sizeLine := by
        have := len i
        rw [List.length_map, this, List.length_take]
        exact small (by omega)
      refine ⟨f, t, _, _, rfl, rfl, (same_upd nt) _ _ hf, upd_same, ll, fun z nz => ?_⟩
      refine ⟨same_over (sm.trans (same_upd nt)) (same_none (sm.trans (same_upd nt)) nz), _, z, same_none (sm.trans (same_upd nt)) nz, rfl, ?_⟩
      show upd _ z _ z = _
      rw [upd_same, take_snoc ex, List.flatMap_append, List.map_append]; rfl
    · obtain ⟨sm, v2, f, nf, rfl, hf⟩ := pv
      rw [List.length_map, List.take_length] at hf
      refine ⟨.ref f, rfl, .ref a, rfl, _, _, _, _, rfl, rfl, Same.seqT sm h0, rfl, f, inn, _, _, rfl, rfl, hf, sm _ _ h2, ?_, fun z nz => q _ z (same_over sm (same_none sm nz)) (same_none sm nz) ?_⟩
      · have := len p.po.length
        rw [List.take_length] at this
        rw [List.length_map, List.length_map, this]
        exact small (by omega)
      · show upd G z _ z = _
        rw [upd_same, ← List.map_append]; rfl
end
end K07
-- Q07
namespace K07
open PySem PySem.Spec PyProof.Rows L2
section
variable {P : Program} {w : World} {K : PySem.W.Frag} {mg : Str → Option Value} {base : Heap}
/-! ### laws of a part -/
/-- stands whatever becomes of D -/
def Stb {β : Type} (D : Addr) (R : Hp → V → β → Prop) (H : Hp) (v : V) (b : β) : Prop := ∀ H', SameX D H H' → R H' v b
theorem Stb.mono {β : Type} {D : Addr} {R : Hp → V → β → Prop} {H H' : Hp} {v : V} {b : β} (s : SameX D H H') (h : Stb D R H v b) : Stb D R H' v b := fun G sg => h G (s.trans sg)
theorem Stb.at {β : Type} {D : Addr} {R : Hp → V → β → Prop} {H : Hp} {v : V} {b : β} (h : Stb D R H v b) : R H v b := h H fun _ _ _ z => z
theorem Stb.all {β : Type} {D : Addr} {R : Hp → V → β → Prop} {H H' : Hp} {xs : List V} {bs : List β} (s : SameX D H H') (h : A2 (Stb D R H) xs bs) : A2 (Stb D R H') xs bs := h.mono fun _ _ z => z.mono s
/-- is new and stands whatever becomes of D and of what was there in B -/
def NwS {β : Type} (B : Hp) (D : Addr) (R : Hp → V → β → Prop) (H : Hp) (v : V) (b : β) : Prop := ∀ H', (∀ c o, B c = none → c ≠ D → H c = some o → H' c = some o) → R H' v b
theorem NwS.mono {β : Type} {B : Hp} {D : Addr} {R : Hp → V → β → Prop} {H H' : Hp} {v : V} {b : β} (s : SameX D H H') (h : NwS B D R H v b) : NwS B D R H' v b := fun G sg => h G fun c o n a z => sg c o n a (s c o a z)
theorem NwS.at {β : Type} {B : Hp} {D : Addr} {R : Hp → V → β → Prop} {H : Hp} {v : V} {b : β} (h : NwS B D R H v b) : R H v b := h H fun _ _ _ _ z => z
theorem NwS.all {β : Type} {B : Hp} {D : Addr} {R : Hp → V → β → Prop} {H H' : Hp} {xs : List V} {bs : List β} (s : SameX D H H') (h : A2 (NwS B D R H) xs bs) : A2 (NwS B D R H') xs bs := h.mono fun _ _ z => z.mono s
def NwS2 {β : Type} (B : Hp) (D E : Addr) (R : Hp → V → β → Prop) (H : Hp) (v : V) (b : β) : Prop := ∀ H', (∀ c o, B c = none → c ≠ D → c ≠ E → H c = some o → H' c = some o) → R H' v b
theorem NwS2.all {β : Type} {B : Hp} {D E : Addr} {R : Hp → V → β → Prop} {H H' : Hp} {xs : List V} {bs : List β} (s : ∀ c o, c ≠ D → c ≠ E → H c = some o → H' c = some o) (h : A2 (NwS2 B D E R H) xs bs) : A2 (NwS2 B D E R H') xs bs :=
  h.mono fun _ _ z G sg => z G fun c o n a b y => sg c o n a b (s c o a b y)
/-- is new -/
def Nw {β : Type} (B : Hp) (R : Hp → V → β → Prop) (H : Hp) (v : V) (b : β) : Prop := ∀ H', (∀ c o, B c = none → H c = some o → H' c = some o) → R H' v b
theorem Nw.at {β : Type} {B : Hp} {R : Hp → V → β → Prop} {H : Hp} {v : V} {b : β} (h : Nw B R H v b) : R H v b := h H fun _ _ _ z => z
theorem Nw.same {β : Type} {B : Hp} {R : Hp → V → β → Prop} {H H' : Hp} {v : V} {b : β} (s : Same H H') (h : Nw B R H v b) : Nw B R H' v b := fun G sg => h G fun c o n z => sg c o n (s _ _ z)
theorem Nw.old {β : Type} {B B' : Hp} {R : Hp → V → β → Prop} {H : Hp} {v : V} {b : β} (s : Same B' B) (h : Nw B R H v b) : Nw B' R H v b := fun G sg => h G fun c o n z => sg c o (same_none s n) z
theorem A2.take {α β : Type} {R : α → β → Prop} : ∀ {as : List α} {bs : List β} (i : Nat), A2 R as bs → A2 R (as.take i) (bs.take i)
  | _, _, 0, _ => .nil
  | _, _, _ + 1, .nil => .nil
  | _, _, i + 1, .cons h t => .cons h (A2.take i t)
theorem cut_to {xs : List V} {z : Int} {L : Nat} (e : z = (L : Int)) : cutV xs none (some z) = xs.take L := by
  subst e
  unfold cutV
  rw [HT.sIx_none, HT.sIx_nat, List.drop_zero, Nat.sub_zero]
  rcases Nat.le_total L xs.length with h | h
  · rw [Nat.min_eq_left h]
  · rw [Nat.min_eq_right h, List.take_of_length_le (Nat.le_refl _), List.take_of_length_le h]
/-- what is known of a heap in which D was not yet stands whatever becomes of D -/
theorem sx_of {D : Addr} {H G H' : Hp} (s : Same H G) (n : H D = none) (x : SameX D G H') : Same H H' := fun c o h => x c o (fun z => by rw [z, n] at h; cases h) (s c o h)
theorem shaped_of {d : PyData} (h1 : d.canLay0 = true) (h2 : d.depth ≤ 64) : SeqAt.shaped d = true := by
  unfold SeqAt.shaped
  rw [h1, decide_eq_true h2]; rfl
theorem str_ok {n : Nat} {s : Str} (h : GS n s) : (PyData.str s).canLay0 = true := by
  show s.cps.all (· < 0x110000) = true
  rw [← Array.all_toList, List.all_eq_true]
  exact fun c hc => decide_eq_true (Nat.lt_trans (h.2 c hc) (by decide))
def dP (p : Nat × Str) : PyData := .tuple [.int (p.1 : Nat), .str p.2]
theorem dp_all {H : Hp} : ∀ {xs : List V} {ps : List (Nat × Str)}, A2 (NmV K H) xs ps → DpAll K H xs (ps.map dP)
  | _, _, .nil => .nil
  | _, _, .cons a t => by
    obtain ⟨b, rfl, q⟩ := a
    exact .cons (.tup q (.cons (.int _) (.cons (.str _) .nil))) (dp_all t)
theorem lay_dP {p : Nat × Str} {n : Nat} (h : GS n p.2) : (dP p).canLay0 = true := by
  have := str_ok h
  show (true && ((PyData.str p.2).canLay0 && true)) = true
  rw [this]; rfl
theorem shaped_dP {p : Nat × Str} {n : Nat} (h : GS n p.2) : SeqAt.shaped (dP p) = true := shaped_of (lay_dP h) (by simp [dP, PyData.depth, PyData.depthAll])
theorem shaped_dPs {ps : List (Nat × Str)} {n : Nat} (h : ∀ p ∈ ps, GS n p.2) : SeqAt.shaped (.list (ps.map dP)) = true := by
  refine shaped_of ?_ ?_
  · show PyData.canLayAll0 (ps.map dP) = true
    induction ps with
    | nil => rfl
    | cons p r ih =>
      show ((dP p).canLay0 && PyData.canLayAll0 (r.map dP)) = true
      rw [lay_dP (h p List.mem_cons_self), ih fun q hq => h q (List.mem_cons_of_mem _ hq)]; rfl
  · show PyData.depthAll (ps.map dP) + 1 ≤ 64
    have : PyData.depthAll (ps.map dP) ≤ 1 := by
      clear h
      induction ps with
      | nil => exact Nat.zero_le _
      | cons p r ih =>
        show max (dP p).depth (PyData.depthAll (r.map dP)) ≤ 1
        exact Nat.max_le.mpr ⟨by simp [dP, PyData.depth, PyData.depthAll], ih⟩
    omega
theorem eqv_dP (x y : Nat × Str) : PyData.eqv (dP x) (dP y) = decide (x = y) := by
  obtain ⟨a, b⟩ := x
  obtain ⟨c, d⟩ := y
  have e1 : ((a : Int) == (c : Int)) = decide (a = c) := by
    by_cases h : a = c
    · simp [h]
    · have : ¬ ((a : Int) = c) := by omega
      simp [h, this]
  have e2 : (b == d) = decide (b = d) := by
    by_cases h : b = d
    · simp [h]
    · simp [h]
  simp only [dP, PyData.eqv, PyData.eqvAll, e1, e2, Prod.mk.injEq, Bool.and_true, Bool.decide_and]
theorem in_dPs (ps : List (Nat × Str)) (x : Nat × Str) : ((ps.map dP).any fun z => PyData.eqv z (dP x)) = decide (x ∈ ps) := by
  induction ps with
  | nil => rfl
  | cons p r ih =>
    rw [List.map_cons, List.any_cons, ih, eqv_dP]
    by_cases e : p = x
    · simp [e]
    · have : ¬ x = p := fun z => e z.symm
      simp [e, this]
/-- a law over names -/
structure VL (own : List Str) (l : Lw) : Prop where
  src : l.src = "" ∨ l.src = "f" ∨ l.src = "g1"
  nd : l.places.Nodup
  pl : ∀ p ∈ l.places, p.1 < 4 ∧ p.2 ∈ own
  num : l.ex = true → ∀ t ∈ l.ts, ∃ n : Int, t.h = .inl n ∧ n ≠ 0 ∧ n.natAbs ≤ 1000000
  nam : l.ex = false → l.ts ≠ [] ∧ ∀ t ∈ l.ts, ∃ s : Str, t.h = .inr s ∧ GS 12 s
  many : l.ts.length ≤ 4
/-- the laws of a part: the names of sizes are those of the pool, one after the other -/
structure VLs (own : List Str) (s l : Nat) (ls : List Lw) : Prop where
  ok : ∀ x ∈ ls, VL own x
  many : ls.length ≤ 3
  sz : ∃ u, u ≤ 3 * ls.length ∧ ls.flatMap Lw.sizes = (List.range u).map fun i => pn s l (39 - i)
def sp_part_laws (K : PySem.W.Frag) : Sp := fun vs H Q _ => ∃ (a : Addr) (ds : List Int) (k : Int) (v : V) (p : Prt) (pl : Addr) (s l : Nat) (many : Int), vs = [.ref a, .int k, v, .ref pl, .int many] ∧ IL H a ds ∧ 0 ≤ k ∧ PT K H v p ∧
  p.po.length ≤ 3 ∧ p.inn.length ≤ 3 ∧ (∀ x ∈ p.po, GS 12 x) ∧ (∀ x ∈ p.inn, GS 12 x) ∧ own p.po p.inn ≠ [] ∧ SL H pl (pool s l) ∧ l < 2 ∧ 0 ≤ many ∧ many ≤ 3 ∧
  ∀ (H' : Hp) (q : Addr) (ls : List Lw), Same H H' → H q = none → (∀ H'', (∀ c o, H c = none → H' c = some o → H'' c = some o) → LsL K H'' q ls) → VLs (own p.po p.inn) s l ls → Q (.ref q) H'
theorem own_gs {ps inn : List Str} (h1 : ∀ x ∈ ps, GS 12 x) (h2 : ∀ x ∈ inn, GS 12 x) : ∀ x ∈ own ps inn, GS 14 x := fun x hx => by
  rcases List.mem_append.mp hx with hx | hx
  · obtain ⟨y, hy, hx⟩ := List.mem_flatMap.mp hx
    have g := h1 y hy
    simp only [List.mem_cons, List.not_mem_nil, or_false] at hx
    rcases hx with rfl | rfl
    · exact g.add (m := 2) ⟨by decide +kernel, by decide +kernel⟩
    · exact g.add (m := 2) ⟨by decide +kernel, by decide +kernel⟩
  · exact (h2 x hx).mono (by decide)
theorem own_len {ps inn : List Str} : (own ps inn).length = 2 * ps.length + inn.length := by
  unfold own
  rw [List.length_append]
  congr 1
  induction ps with
  | nil => rfl
  | cons x r ih => rw [List.flatMap_cons, List.length_append, ih]; show 2 + _ = 2 * (_ + 1); omega
theorem two {A B : Prop} (h : A) (f : A → B) : B := f h
theorem ok_law_part_laws (T : Txt K mg) : FnOk P w K mg base CX0 2 T.law_part_laws.a T.law_part_laws.fd ["draws", "k", "part", "pool", "many"] (sp_part_laws K) := by
  refine T.law_part_laws.F.ok sc_law_part_laws (fun vs H Q E h => ?_) (fun cdv A outer s H vs Q E hr h => ?_)
  · obtain ⟨a, ds, k, v, p, pl, s, l, many, rfl, _⟩ := h
    rfl
  · obtain ⟨a, ds, k, v, p, pl, s, l, many, rfl, ha, hk, hp, l1, l2, g1, g2, ne, hpl, ll, m0, m3, q⟩ := h
    refine ⟨_, (pss_cons (ps_set (i := 5) sc_law_part_laws.nd rfl (.inl rfl) (pe_call (ok_law_own T) (hr.mono (by decide)) (by rfl) T.law_own.g T.law_own.F.kp T.law_own.b .nil pass0 (pa_cons (pv 2) pa_nil)))
      (pss_cons (ps_set (i := 6) sc_law_part_laws.nd rfl (.inl rfl) (pe_lst pa_nil))
      (pss_cons (ps_set (i := 7) sc_law_part_laws.nd rfl (.inr rfl) pe_int)
      (pss_cons (ps_for PassesOwn.never rfl (pi_range1 (by rfl) T.m_range (pa_cons (pv 4) pa_nil)) (pg_name (i := 8) sc_law_part_laws.nd rfl (.inl rfl))
        (pss_cons (ps_set (i := 9) sc_law_part_laws.nd rfl (.inr rfl) (pe_call (ok_law_at T) (hr.mono (by decide)) (by rfl) T.law_at.g T.law_at.F.kp T.law_at.b .nil pass0 (pa_cons (pv 0) (pa_cons (pe_op op_add (pv 1) (pv 8)) (pa_cons pe_int pa_nil)))))
        (pss_cons (ps_set (i := 10) sc_law_part_laws.nd rfl (.inl rfl) (pe_ix ix_list (pe_lst (pa_cons pe_str (pa_cons pe_str (pa_cons pe_str pa_nil)))) (pe_op op_mod (pe_callTy call_int1 (by rfl) T.m_int (by decide +kernel) (pa_cons (pv 9) pa_nil)) pe_int) (fun _ _ => rfl)))
        (pss_cons (ps_set (i := 11) sc_law_part_laws.nd rfl (.inr rfl) (pe_lst pa_nil))
        (pss_cons (ps_for PassesOwn.never rfl (pi_range1 (by rfl) T.m_range (pa_cons (pe_op op_add pe_int (pe_op op_mod (pe_callTy call_int1 (by rfl) T.m_int (by decide +kernel) (pa_cons (pe_op op_fdiv (pv 9) pe_int) pa_nil)) pe_int)) pa_nil)) (pg_name (i := 12) sc_law_part_laws.nd rfl (.inl rfl))
          (pss_cons (ps_set (i := 13) sc_law_part_laws.nd rfl (.inl rfl) (pe_tup (pa_cons (pe_op op_mod (pe_callTy call_int1 (by rfl) T.m_int (by decide +kernel) (pa_cons (pe_op op_fdiv (pv 9) (pe_op op_add pe_int (pe_op op_mul pe_int (pv 12)))) pa_nil)) pe_int) (pa_cons (pe_ix ix_list (pv 5) (pe_op op_mod (pe_callTy call_int1 (by rfl) T.m_int (by decide +kernel) (pa_cons (pe_op op_fdiv (pv 9) (pe_op op_add pe_int (pv 12))) pa_nil)) (pe_callB call_len_seq (by rfl) T.m_len (by decide +kernel) (pa_cons (pv 5) pa_nil))) (fun _ _ => rfl)) pa_nil))))
          (pss_one (ps_if (pt_cmpR (op_notInD (r65 hr)) (pv 13) (pv 11) rfl)
            (pss_one (ps_expr (pe_bm PySem.F.plainAttrs_list PySem.F.slot_list_append PySem.F.type_list_append mt_append (pv 11) (pa_cons (pv 13) pa_nil))))
            pss_nil))))
        (pss_one (ps_if (PW.pt (pw_or (pt_cmpR op_eq (pe_op op_mod (pe_callTy call_int1 (by rfl) T.m_int (by decide +kernel) (pa_cons (pe_op op_fdiv (pv 9) pe_int) pa_nil)) pe_int) pe_int (nomark _)) (pw_or1 (pt_cmpR op_lt (pe_callB call_len_seq (by rfl) T.m_len (by decide +kernel) (pa_cons (pv 11) pa_nil)) pe_int (nomark _)))))
          (pss_cons (ps_set (i := 14) sc_law_part_laws.nd rfl (.inr rfl) (pe_lst (pa_cons pe_int (pa_cons (pe_un un_neg pe_int) (pa_cons pe_int (pa_cons (pe_un un_neg pe_int) (pa_cons (pe_op op_add pe_int (pe_callTy call_int1 (by rfl) T.m_int (by decide +kernel) (pa_cons (pe_op op_fdiv (pv 9) pe_int) pa_nil))) (pa_cons (pe_un un_neg pe_int) pa_nil))))))))
          (pss_cons (ps_setLc (i := 15) (own := [("step", 12)]) rfl sc_law_part_laws.nd rfl rfl (sw_true rfl rfl rfl (by decide +kernel)) (pi_range1 (by rfl) T.m_range (pa_cons (pe_callB call_len_seq (by rfl) T.m_len (by decide +kernel) (pa_cons (pv 11) pa_nil)) pa_nil)) (blkOk_by (N := ["draws", "k", "part", "pool", "many", "known", "laws", "used", "turn", "cell", "source", "places", "step", "place", "numbers", "terms"]) (sc := defScope s_law_part_laws) (by decide +kernel)) (fun _ _ _ _ _ => (pg_name (i := 12) sc_law_part_laws.nd rfl (.inl rfl))) (fun _ _ _ _ _ => pts_nil) (fun _ _ _ _ _ => (pe_tup (pa_cons (pe_ix (r := rIxL K) ix_list (pv 14) (pe_op op_mod (pe_callTy call_int1 (by rfl) T.m_int (by decide +kernel) (pa_cons (pe_op op_add (pe_op op_fdiv (pv 9) pe_int) (pv 12)) pa_nil)) pe_int) (fun _ _ => rfl)) (pa_cons (pe_ix (r := rIxT K) ix_tup (pe_ix (r := rIxL K) ix_list (pv 11) (pv 12) (fun _ _ => rfl)) pe_int (fun _ _ => rfl)) (pa_cons (pe_ix (r := rIxT K) ix_tup (pe_ix (r := rIxL K) ix_list (pv 11) (pv 12) (fun _ _ => rfl)) pe_int (fun _ _ => rfl)) pa_nil))))))
          (pss_one (ps_expr (pe_bm PySem.F.plainAttrs_list PySem.F.slot_list_append PySem.F.type_list_append mt_append (pv 6) (pa_cons (pe_tup (pa_cons pe_str (pa_cons (pe_slice sl_list (pv 15) po_none (po_some (pe_op op_mod (pe_callTy call_int1 (by rfl) T.m_int (by decide +kernel) (pa_cons (pe_op op_fdiv (pv 9) pe_int) pa_nil)) pe_int))) (pa_cons (pv 10) pa_nil)))) pa_nil))))))
          (pss_cons (ps_setLc (i := 15) (own := [("step", 12)]) rfl sc_law_part_laws.nd rfl rfl (sw_true rfl rfl rfl (by decide +kernel)) (pi_range2 (by rfl) T.m_range (pa_cons pe_int (pa_cons (pe_callB call_len_seq (by rfl) T.m_len (by decide +kernel) (pa_cons (pv 11) pa_nil)) pa_nil))) (blkOk_by (N := ["draws", "k", "part", "pool", "many", "known", "laws", "used", "turn", "cell", "source", "places", "step", "place", "numbers", "terms"]) (sc := defScope s_law_part_laws) (by decide +kernel)) (fun _ _ _ _ _ => (pg_name (i := 12) sc_law_part_laws.nd rfl (.inl rfl))) (fun _ _ _ _ _ => pts_nil) (fun _ _ _ _ _ => (pe_tup (pa_cons (pe_ix (r := rIxL K) ix_list (pv 3) (pe_op op_sub (pe_op op_sub pe_int (pv 7)) (pv 12)) (fun _ _ => rfl)) (pa_cons (pe_ix (r := rIxT K) ix_tup (pe_ix (r := rIxL K) ix_list (pv 11) (pv 12) (fun _ _ => rfl)) pe_int (fun _ _ => rfl)) (pa_cons (pe_ix (r := rIxT K) ix_tup (pe_ix (r := rIxL K) ix_list (pv 11) (pv 12) (fun _ _ => rfl)) pe_int (fun _ _ => rfl)) pa_nil))))))
          (pss_cons (ps_set (i := 7) sc_law_part_laws.nd rfl (.inr rfl) (pe_op op_add (pv 7) (pe_callB call_len_seq (by rfl) T.m_len (by decide +kernel) (pa_cons (pv 15) pa_nil))))
          (pss_one (ps_expr (pe_bm PySem.F.plainAttrs_list PySem.F.slot_list_append PySem.F.type_list_append mt_append (pv 6) (pa_cons (pe_tup (pa_cons pe_str (pa_cons (pe_ix ix_tup (pe_ix ix_list (pv 11) pe_int (fun _ _ => rfl)) pe_int (fun _ _ => rfl)) (pa_cons (pe_ix ix_tup (pe_ix ix_list (pv 11) pe_int (fun _ _ => rfl)) pe_int (fun _ _ => rfl)) (pa_cons (pv 15) (pa_cons (pv 10) pa_nil)))))) pa_nil)))))))))))))
      (pss_one (ps_ret (pv 6))))))), ?_⟩
    obtain ⟨w, rfl⟩ : ∃ n : Nat, many = (n : Int) := ⟨many.toNat, by omega⟩
    have go := own_gs g1 g2
    refine ⟨v, rfl, v, p, rfl, hp, by omega, by omega, fun x hx => by have := (g1 x hx).1; omega, fun H1 kn sm1 nkn hkn => ?_⟩
    generalize own p.po p.inn = O at ne hkn go q
    refine ⟨by show 0 ≤ sizeLine; decide, fun lw nlw => ⟨_, rfl, _, rfl, by omega, by omega, ?_⟩⟩
    have smL := same_upd nlw (o := .lst [])
    rw [Int.toNat_natCast]
    refine for_it (walk_range (lo := 0) (n := w)) (fun i σ G => Same H1 G ∧ ∃ (u : Nat) (v8 v9 v10 v11 v12 v13 v14 v15 : Option V) (xs : List V) (ls : List Lw), σ = [some (.ref a), some (.int k), some v, some (.ref pl), some (.int (w : Nat)), some (.ref kn), some (.ref lw), some (.int (u : Nat)), v8, v9, v10, v11, v12, v13, v14, v15] ∧
        G lw = some (.lst xs) ∧ A2 (NwS H lw (LW K) G) xs ls ∧ (∀ x ∈ ls, VL O x) ∧ ls.length = i ∧ u ≤ 3 * i ∧ ls.flatMap Lw.sizes = (List.range u).map fun i => pn s l (39 - i))
      ⟨smL, 0, none, none, none, none, none, none, none, none, [], [], rfl, upd_same, .nil, (fun _ h => by cases h), rfl, by decide, rfl⟩ (fun _ _ _ _ _ => trivial) (fun i x σ G G' hi pv y => ?_) (fun σ G pv => ?_)
    · obtain ⟨sm, u, v8, v9, v10, v11, v12, v13, v14, v15, xs, ls, rfl, hlw, hA, hV, hn, hu, hs⟩ := pv
      obtain ⟨rfl, rfl⟩ := y
      have sH : Same H G' := sm1.trans sm
      refine ⟨.ref a, rfl, _, rfl, _, rfl, _, _, rfl, rfl, a, ds, _, 60000, rfl, ha.same sH, by omega, by decide, ?_⟩
      have c0 := la0 (ds := ds) (k := k + (0 + (i : Int))) (many := 60000) (by decide)
      have c1 := la1 (ds := ds) (k := k + (0 + (i : Int))) (many := 60000) (by decide)
      dsimp only
      generalize la ds (k + (0 + (i : Int))) 60000 = cell at c0 c1
      refine ⟨by show 3 ≤ sizeLine; decide, fun l0 n0 => ⟨_, rfl, .inl ⟨_, rfl, _, _, rfl, rfl, (by show (0 : Int) < _; decide), ?_⟩⟩⟩
      have s1 := same_upd n0 (o := .lst [V.str "", V.str "f", V.str "g1"])
      obtain ⟨sv, hs0, ms⟩ := at_ex (xs := [V.str "", V.str "f", V.str "g1"]) (i := cell % 3) (by omega) (by show cell % 3 < 3; omega)
      obtain ⟨src, rfl, gs⟩ : ∃ src : Str, sv = .str src ∧ (src = "" ∨ src = "f" ∨ src = "g1") := by
        rcases List.mem_cons.mp ms with rfl | ms
        · exact ⟨_, rfl, .inl rfl⟩
        rcases List.mem_cons.mp ms with rfl | ms
        · exact ⟨_, rfl, .inr (.inl rfl)⟩
        rcases List.mem_cons.mp ms with rfl | ms
        · exact ⟨_, rfl, .inr (.inr rfl)⟩
        · cases ms
      refine ⟨l0, _, _, _, rfl, rfl, .of upd_same, hs0, ?_⟩
      have hlw1 := s1 _ _ hlw
      have sm' := sm.trans s1
      have hA1 : A2 (NwS H lw (LW K) (upd G' l0 (.lst [V.str "", V.str "f", V.str "g1"]))) xs ls := NwS.all (sx s1) hA
      have sH1 := sH.trans s1
      generalize upd G' l0 _ = G1 at hlw1 sm' hA1 sH1
      clear hlw sm hA s1 hs0 sH n0
      refine ⟨by show 0 ≤ sizeLine; decide, fun pc npc => ?_⟩
      refine ⟨_, rfl, _, _, rfl, rfl, ⟨by decide, by decide⟩, .inl ⟨_, rfl, _, _, rfl, rfl, (by show (0 : Int) < _; decide), _, _, rfl, rfl, ?_⟩⟩
      obtain ⟨z, ez⟩ : ∃ n : Nat, 1 + cell / 3 % 4 = (n : Int) := ⟨(1 + cell / 3 % 4).toNat, by omega⟩
      refine ⟨_, rfl, by omega, by omega, ?_⟩
      rw [ez, Int.toNat_natCast]
      have smP := same_upd npc (o := .lst [])
      refine for_it (walk_range (lo := 0) (n := z)) (fun j σ G => Same G1 G ∧ ∃ (v12 v13 : Option V) (ys : List V) (ps : List (Nat × Str)), σ = [some (.ref a), some (.int k), some v, some (.ref pl), some (.int (w : Nat)), some (.ref kn), some (.ref lw), some (.int (u : Nat)), some (.int (0 + (i : Int))), some (.int cell), some (.str src), some (.ref pc), v12, v13, v14, v15] ∧
          G pc = some (.lst ys) ∧ A2 (Stb pc (NmV K) G) ys ps ∧ ps.Nodup ∧ (∀ x ∈ ps, x.1 < 4 ∧ x.2 ∈ O) ∧ ps.length ≤ j ∧ (0 < j → ps ≠ []))
        ⟨smP, v12, v13, [], [], rfl, upd_same, .nil, .nil, (fun _ h => by cases h), Nat.le_refl _, fun h => absurd h (by decide)⟩ (fun _ _ _ _ _ => trivial) (fun j x σ G Gx hj pv y => ?_) (fun σ G pv => ?_)
      · obtain ⟨sm2, v12, v13, ys, ps, rfl, hpc, hB, hnd, hb, hn2, h0⟩ := pv
        obtain ⟨rfl, rfl⟩ := y
        have hkn2 : Gx kn = some (.lst (O.map V.str)) := sm2 _ _ (sm' _ _ hkn)
        have lO : 0 < O.length := List.length_pos_iff.mpr ne
        refine ⟨_, rfl, _, rfl, _, _, rfl, rfl, .inl ⟨by decide, by omega⟩, _, _, rfl, rfl, _, _, rfl, rfl, ⟨by omega, by omega⟩, .inl ⟨_, rfl, _, _, rfl, rfl, (by show (0 : Int) < _; decide), ?_⟩⟩
        refine ⟨_, rfl, _, rfl, _, rfl, _, _, rfl, rfl, _, _, rfl, rfl, ⟨by omega, by omega⟩, .inl ⟨_, rfl, _, rfl, kn, _, rfl, .inl (.of hkn2), _, _, rfl, rfl, by rw [List.length_map]; omega, ?_⟩⟩
        obtain ⟨c, hc, mc⟩ := at_ex (xs := O.map V.str) (i := cell / (7 + (0 + (j : Int))) % (((O.map V.str).length : Nat) : Int)) (Int.emod_nonneg _ (by rw [List.length_map]; omega)) (Int.emod_lt_of_pos _ (by rw [List.length_map]; omega))
        obtain ⟨qn, hqn, rfl⟩ := List.mem_map.mp mc
        refine ⟨kn, _, _, _, rfl, rfl, .of hkn2, hc, by show 2 ≤ sizeLine; decide, fun t nt => ?_⟩
        clear hc mc
        have lk0 : 0 ≤ cell / (5 + 3 * (0 + (j : Int))) % 4 := by omega
        have lk1 : cell / (5 + 3 * (0 + (j : Int))) % 4 < 4 := by omega
        dsimp only
        generalize cell / (5 + 3 * (0 + (j : Int))) % 4 = kk at lk0 lk1
        obtain ⟨kk, rfl⟩ : ∃ n : Nat, kk = (n : Int) := ⟨kk.toNat, by omega⟩
        have tp : t ≠ pc := fun z => by rw [z, hpc] at nt; cases nt
        have hp2 := same_upd nt (o := .tup [.int (kk : Nat), .str qn]) _ _ hpc
        have hB2 : A2 (Stb pc (NmV K) (upd Gx t (.tup [.int (kk : Nat), .str qn]))) ys ps := Stb.all (sx (same_upd nt)) hB
        refine ⟨_, rfl, .ref pc, rfl, dP (kk, qn), ps.map dP, .tup (.of upd_same) (.cons (.int _) (.cons (.str _) .nil)), .lst (.of hp2) (dp_all (hB2.mono fun _ _ z => z.at)), shaped_dP (go _ hqn), shaped_dPs fun p hp => go _ (hb p hp).2, _, rfl, ?_⟩
        rw [in_dPs]
        refine ite2 (fun hin => ?_) (fun hin => ?_)
        · have hni : (kk, qn) ∉ ps := fun z => by rw [decide_eq_true z] at hin; cases hin
          refine ⟨.ref pc, rfl, .inl ⟨rfl, _, .of hp2⟩, _, rfl, pc, _, _, rfl, rfl, hp2, small' (by have := hB.len; omega), ?_⟩
          refine ⟨same_over (sm2.trans (same_upd nt)) npc, _, _, ys ++ [.ref t], ps ++ [(kk, qn)], rfl, upd_same, A2.snoc (fun G' sg => ⟨t, rfl, .of (sg _ _ tp (by rw [upd_ne tp]; exact upd_same))⟩) (Stb.all SameX.put hB2), ?_, fun x hx => ?_, by rw [List.length_append]; exact Nat.succ_le_succ hn2, fun _ => by simp⟩
          · exact List.nodup_append.mpr ⟨hnd, List.nodup_cons.mpr ⟨List.not_mem_nil, List.nodup_nil⟩, fun x hx y hy e => by simp at hy; subst hy; subst e; exact hni hx⟩
          · rcases List.mem_append.mp hx with hx | hx
            · exact hb x hx
            · simp at hx; subst hx; exact ⟨by show kk < 4; omega, hqn⟩
        · refine ⟨sm2.trans (same_upd nt), _, _, ys, ps, rfl, hp2, hB2, hnd, hb, by omega, fun _ z => ?_⟩
          subst z
          exact hin rfl
      · obtain ⟨sm2, v12, v13, ys, ps, rfl, hpc, hB, hnd, hb, hn2, h0⟩ := pv
        have hps : ps ≠ [] := h0 (by omega)
        have hlen : ps.length ≤ 4 := by omega
        have lys : ys.length = ps.length := hB.len
        refine ⟨_, rfl, _, _, rfl, rfl, ⟨by decide, by decide⟩, .inl ⟨_, rfl, _, _, rfl, rfl, (by show (0 : Int) < _; decide), rfl, _, rfl, ?_⟩⟩
        refine two ?_ (fun hT => ite2 (fun _ => iteT hT) (fun h2 => ⟨_, rfl, pc, _, rfl, .inl (.of hpc), _, _, rfl, rfl, _, rfl, ite2 (fun _ => hT) (fun h3 => ?_)⟩))
        · refine ⟨_, rfl, _, rfl, _, rfl, _, _, rfl, rfl, ⟨by decide, by decide⟩, .inl ⟨_, rfl, _, _, rfl, rfl, _, rfl, by show 6 ≤ sizeLine; decide, fun l1 n1 => ?_⟩⟩
          have hl1 : upd G l1 (.lst [V.int 1, V.int (-1), V.int 1000000, V.int (-1000000), V.int (3 + cell / 6), V.int (-2)]) l1 = some (.lst [V.int 1, V.int (-1), V.int 1000000, V.int (-1000000), V.int (3 + cell / 6), V.int (-2)]) := upd_same
          have s3 := same_upd n1 (o := .lst [V.int 1, V.int (-1), V.int 1000000, V.int (-1000000), V.int (3 + cell / 6), V.int (-2)])
          have hpc3 := s3 _ _ hpc
          have hB3 := Stb.all (sx s3) hB
          have sm3 := sm2.trans s3
          generalize upd G l1 _ = G3 at hl1 s3 hpc3 hB3 sm3
          have hlw3 := sm3 _ _ hlw1
          have hA3 := NwS.all (sx sm3) hA1
          refine ⟨_, rfl, pc, _, rfl, .inl (.of hpc3), (ps.length : Nat), by rw [lys], by omega, by omega, fun D nD => ?_⟩
          rw [Int.toNat_natCast]
          refine lc_inv (walk_range (lo := 0) (n := ps.length)) (fun j G vs => ∃ ts : List Trm, A2 (NwS2 H D lw (TmV K) G) vs ts ∧ (ts.map fun t => (t.k, t.q)) = ps.take j ∧ ∀ t ∈ ts, ∃ n : Int, t.h = .inl n ∧ n ≠ 0 ∧ n.natAbs ≤ 1000000) nD (fun _ _ => trivial) (small' (by omega)) ⟨[], .nil, rfl, fun _ z => by cases z⟩ (fun j x G4 Gx zs hj sm4 hD hR y Qt Qf qt qf => ?_) (fun G4 zs sm4 hD hR => ?_)
          · obtain ⟨rfl, rfl⟩ := y
            obtain ⟨ts, hT, ep, en⟩ := hR
            obtain ⟨b', hb1, st⟩ := hB3.get' (i := j) (b := ps[j]) (by simp [hj])
            obtain ⟨b, rfl, qb⟩ := st.at
            have ab : atI ys (0 + (j : Int)) = some (.ref b) := by rw [Int.zero_add]; exact atI_nat hb1
            have qb4 := Same.seqT sm4 qb
            have hpc4 := sm4 _ _ hpc3
            have hlw4 := sm4 _ _ hlw3
            obtain ⟨nv, hnv, mnv⟩ := at_ex (xs := [V.int 1, V.int (-1), V.int 1000000, V.int (-1000000), V.int (3 + cell / 6), V.int (-2)]) (i := (cell / 24 + (0 + (j : Int))) % 6) (by omega) (by show _ < (6 : Int); omega)
            obtain ⟨n, rfl, n0, nb⟩ : ∃ n : Int, nv = .int n ∧ n ≠ 0 ∧ n.natAbs ≤ 1000000 := by
              simp only [List.mem_cons, List.not_mem_nil, or_false] at mnv
              rcases mnv with rfl | rfl | rfl | rfl | rfl | rfl
              · exact ⟨_, rfl, by decide, by decide⟩
              · exact ⟨_, rfl, by decide, by decide⟩
              · exact ⟨_, rfl, by decide, by decide⟩
              · exact ⟨_, rfl, by decide, by decide⟩
              · exact ⟨_, rfl, by omega, by omega⟩
              · exact ⟨_, rfl, by decide, by decide⟩
            refine ⟨rfl, _, rfl, _, rfl, _, _, rfl, rfl, ⟨by decide, by decide⟩, _, rfl, _, _, rfl, rfl, .inl ⟨_, rfl, _, _, rfl, rfl, (by show (0 : Int) < _; decide), l1, _, _, _, rfl, rfl, .of (sm4 _ _ hl1), hnv, ?_⟩⟩
            refine ⟨_, rfl, _, rfl, pc, _, _, _, rfl, rfl, .of hpc4, ab, b, _, _, _, rfl, rfl, qb4, rfl, _, rfl, _, rfl, pc, _, _, _, rfl, rfl, .of hpc4, ab, b, _, _, _, rfl, rfl, qb4, rfl, by show 3 ≤ sizeLine; decide, fun t nt3 => ?_⟩
            have tD : t ≠ D := fun z => by rw [z, hD] at nt3; cases nt3
            have tw : t ≠ lw := fun z => by rw [z, hlw4] at nt3; cases nt3
            refine qt _ _ (same_upd nt3) ⟨ts ++ [⟨.inl n, (ps[j]).1, (ps[j]).2⟩], A2.snoc (fun G' sg => ⟨t, rfl, .of (sg _ _ (same_none (sH1.trans (sm3.trans sm4)) nt3) tD tw (by rw [upd_ne tD]; exact upd_same))⟩) (NwS2.all (fun c o a _ z => by rw [upd_ne a]; exact same_upd nt3 _ _ z) hT), ?_, fun x hx => ?_⟩
            · rw [List.map_append, ep, take_snoc (x := ps[j]) (by simp [hj])]; rfl
            · rcases List.mem_append.mp hx with hx | hx
              · exact en x hx
              · simp at hx; subst hx; exact ⟨n, rfl, n0, nb⟩
          · obtain ⟨ts, hT, ep, en⟩ := hR
            rw [List.take_length] at ep
            have hlw4 := sm4 _ _ hlw3
            refine ⟨.ref lw, rfl, .inl ⟨rfl, _, .of hlw4⟩, _, rfl, _, rfl, _, _, rfl, rfl, ⟨by decide, by decide⟩, .inl ⟨_, rfl, _, _, rfl, rfl, (by show (0 : Int) < _; decide), _, rfl, D, _, rfl, .of hD, fun c nc => ⟨_, rfl, by show 3 ≤ sizeLine; decide, fun t nt => ?_⟩⟩⟩
            have em : cell / 48 % 5 = (((cell / 48 % 5).toNat : Nat) : Int) := by omega
            dsimp only at nt ⊢
            rw [cut_to em] at nt ⊢
            have lm : (cell / 48 % 5).toNat ≤ 4 := by omega
            generalize (cell / 48 % 5).toNat = m at lm nt
            clear em
            have lzs := hT.len
            have lts : ts.length = ps.length := by rw [← List.length_map (f := fun t : Trm => (t.k, t.q)), ep]
            have s5 : Same G4 (upd (upd G4 c (.lst (zs.take m))) t (.tup [.str "exact", .ref c, .str src])) := (same_upd nc).trans (same_upd nt)
            have hlw5 := s5 _ _ hlw4
            have cw : c ≠ lw := fun z => by rw [z, hlw4] at nc; cases nc
            have cD : c ≠ D := fun z => by rw [z, hD] at nc; cases nc
            have tw : t ≠ lw := fun z => by rw [z, (same_upd nc) _ _ hlw4] at nt; cases nt
            have tc : c ≠ t := fun z => by rw [← z, upd_same] at nt; cases nt
            refine ⟨lw, _, _, rfl, rfl, hlw5, small' (by have := hA1.len; omega), ?_⟩
            have ep' : ((ts.take m).map fun t => (t.k, t.q)) = ps.take m := by rw [List.map_take, ep]
            refine ⟨same_over ((sm'.trans (sm3.trans sm4)).trans s5) nlw, u, _, _, _, _, _, _, _, _, xs ++ [.ref t], ls ++ [⟨true, 0, "", ts.take m, src⟩], rfl, upd_same, A2.snoc (fun G' sg => ?_) (NwS.all (((sx sm4).trans (sx s5)).trans SameX.put) hA3), fun x hx => ?_, by rw [List.length_append, hn]; rfl, by omega, ?_⟩
            · have sH4 : Same H G4 := sH1.trans (sm3.trans sm4)
              have up : ∀ (b : Addr) (o : HO), H b = none → b ≠ lw → upd (upd G4 c (.lst (zs.take m))) t (.tup [.str "exact", .ref c, .str src]) b = some o → G' b = some o := fun b o n0 nb hb => sg _ _ n0 nb (by rw [upd_ne nb]; exact hb)
              refine ⟨t, c, rfl, ⟨zs.take m, up _ _ (same_none sH4 nc) cw (by rw [upd_ne tc, upd_same]), A2.mono (fun _ _ z => z G' fun b o n0 nD nw hb => ?_) (A2.take m hT)⟩, .inl ⟨rfl, .of (up _ _ (same_none (sH4.trans (same_upd nc)) nt) tw upd_same)⟩⟩
              exact up _ _ n0 nw (s5 _ _ hb)
            · rcases List.mem_append.mp hx with hx | hx
              · exact hV x hx
              · simp at hx; subst hx
                refine ⟨gs, ?_, ?_, fun _ t ht => en t (List.mem_of_mem_take ht), (fun z => by cases z), by show (ts.take m).length ≤ 4; rw [List.length_take]; omega⟩
                · show (List.map _ _).Nodup
                  rw [ep']
                  exact List.Nodup.sublist (List.take_sublist _ _) hnd
                · show ∀ p ∈ List.map _ _, _
                  rw [ep']
                  exact fun p hp => hb p (List.mem_of_mem_take hp)
            · rw [List.flatMap_append, hs]
              show _ ++ ([] ++ []) = _
              rw [List.append_nil, List.append_nil]
        · have h3' : 2 ≤ ps.length := by
            rcases Nat.lt_or_ge ps.length 2 with z | z
            · exact absurd (decide_eq_true (by rw [lys]; omega)) h3
            · exact z
          have hlw3 := sm2 _ _ hlw1
          have hA3 := NwS.all (sx sm2) hA1
          have hpl3 : G pl = some (.lst ((pool s l).map V.str)) := sm2 _ _ (sm' _ _ (sm1 _ _ hpl))
          refine ⟨_, rfl, pc, _, rfl, .inl (.of hpc), 1, (ps.length : Nat), by rw [lys], ⟨by decide, by decide, by omega, by omega⟩, fun D nD => ?_⟩
          have hpsE : ∃ p0 pr, ps = p0 :: pr := by
            cases ps with
            | nil => exact absurd rfl hps
            | cons p0 pr => exact ⟨p0, pr, rfl⟩
          obtain ⟨p0, pr, rfl⟩ := hpsE
          rw [show (((p0 :: pr).length : Nat) - (1 : Int)).toNat = pr.length from by rw [List.length_cons]; omega]
          rw [List.length_cons] at h3' hlen lys
          refine lc_inv (walk_range (lo := 1) (n := pr.length)) (fun j G vs => ∃ ts : List Trm, A2 (NwS2 H D lw (TmV K) G) vs ts ∧ (ts.map fun t => (t.k, t.q)) = pr.take j ∧ (ts.map fun t => t.h) = (List.range j).map fun i => Sum.inr (pn s l (39 - (u + i)))) nD (fun _ _ => trivial) (small' (by omega)) ⟨[], .nil, rfl, rfl⟩ (fun j x G4 Gx zs hj sm4 hD hR y Qt Qf qt qf => ?_) (fun G4 zs sm4 hD hR => ?_)
          · obtain ⟨rfl, rfl⟩ := y
            obtain ⟨ts, hT, ep, en⟩ := hR
            obtain ⟨b', hb1, st⟩ := hB.get' (i := j + 1) (b := pr[j]) (by simp [hj])
            obtain ⟨b, rfl, qb⟩ := st.at
            have ab : atI ys (1 + (j : Int)) = some (.ref b) := by
              rw [show (1 + (j : Int)) = ((j + 1 : Nat) : Int) from by omega]; exact atI_nat hb1
            have qb4 := Same.seqT sm4 qb
            have hpc4 := sm4 _ _ hpc
            have hlw4 := sm4 _ _ hlw3
            refine ⟨rfl, _, rfl, _, rfl, _, _, rfl, rfl, _, rfl, _, _, rfl, rfl, pl, _, _, _, rfl, rfl, .of (sm4 _ _ hpl3), pool_at (i := 39 - (u + j)) (by omega) (by omega), ?_⟩
            refine ⟨_, rfl, _, rfl, pc, _, _, _, rfl, rfl, .of hpc4, ab, b, _, _, _, rfl, rfl, qb4, rfl, _, rfl, _, rfl, pc, _, _, _, rfl, rfl, .of hpc4, ab, b, _, _, _, rfl, rfl, qb4, rfl, by show 3 ≤ sizeLine; decide, fun t nt3 => ?_⟩
            have tD : t ≠ D := fun z => by rw [z, hD] at nt3; cases nt3
            have tw : t ≠ lw := fun z => by rw [z, hlw4] at nt3; cases nt3
            refine qt _ _ (same_upd nt3) ⟨ts ++ [⟨.inr _, (pr[j]).1, (pr[j]).2⟩], A2.snoc (fun G' sg => ⟨t, rfl, .of (sg _ _ (same_none (sH1.trans (sm2.trans sm4)) nt3) tD tw (by rw [upd_ne tD]; exact upd_same))⟩) (NwS2.all (fun c o a _ z => by rw [upd_ne a]; exact same_upd nt3 _ _ z) hT), ?_, ?_⟩
            · rw [List.map_append, ep, take_snoc (x := pr[j]) (by simp [hj])]; rfl
            · rw [List.map_append, en, List.range_succ, List.map_append]; rfl
          · obtain ⟨ts, hT, ep, en⟩ := hR
            rw [List.take_length] at ep
            have hlw4 := sm4 _ _ hlw3
            have hpc4 := sm4 _ _ hpc
            obtain ⟨b', hb1, st⟩ := hB.get' (i := 0) (b := p0) rfl
            obtain ⟨b, rfl, qb⟩ := st.at
            have ab : atI ys 0 = some (.ref b) := atI_nat (j := 0) hb1
            have qb4 := Same.seqT sm4 qb
            have lzs := hT.len
            have lts : ts.length = pr.length := by rw [← List.length_map (f := fun t : Trm => (t.k, t.q)), ep]
            refine ⟨_, rfl, _, rfl, D, _, rfl, .inl (.of hD), _, _, rfl, rfl, ?_⟩
            refine ⟨.ref lw, rfl, .inl ⟨rfl, _, .of hlw4⟩, _, rfl, pc, _, _, _, rfl, rfl, .of hpc4, ab, b, _, _, _, rfl, rfl, qb4, rfl, _, rfl, pc, _, _, _, rfl, rfl, .of hpc4, ab, b, _, _, _, rfl, rfl, qb4, rfl, _, rfl, _, rfl, by show 5 ≤ sizeLine; decide, fun t nt => ?_⟩
            have tw : t ≠ lw := fun z => by rw [z, hlw4] at nt; cases nt
            have Dw : D ≠ lw := fun z => by rw [z, hlw3] at nD; cases nD
            have tD : D ≠ t := fun z => by rw [← z, hD] at nt; cases nt
            have s5 : Same G4 (upd G4 t (.tup [.str "sized", .int (p0.1 : Nat), .str p0.2, .ref D, .str src])) := same_upd nt
            have hlw5 := s5 _ _ hlw4
            refine ⟨lw, _, _, rfl, rfl, hlw5, small' (by have := hA1.len; omega), ?_⟩
            refine ⟨same_over ((sm'.trans (sm2.trans sm4)).trans s5) nlw, u + zs.length, _, _, _, _, _, _, _, _, xs ++ [.ref t], ls ++ [⟨false, p0.1, p0.2, ts, src⟩], rfl, upd_same, A2.snoc (fun G' sg => ?_) (NwS.all (((sx sm4).trans (sx s5)).trans SameX.put) hA3), fun x hx => ?_, by rw [List.length_append, hn]; rfl, by omega, ?_⟩
            · have sH4 : Same H G4 := sH1.trans (sm2.trans sm4)
              have up : ∀ (b : Addr) (o : HO), H b = none → b ≠ lw → upd G4 t (.tup [.str "sized", .int (p0.1 : Nat), .str p0.2, .ref D, .str src]) b = some o → G' b = some o := fun b o n0 nb hb => sg _ _ n0 nb (by rw [upd_ne nb]; exact hb)
              refine ⟨t, D, rfl, ⟨zs, up _ _ (same_none (sH1.trans sm2) nD) Dw (s5 _ _ hD), A2.mono (fun _ _ z => z G' fun b o n0 nD nw hb => up _ _ n0 nw (s5 _ _ hb)) hT⟩, .inr ⟨rfl, .of (up _ _ (same_none sH4 nt) tw upd_same)⟩⟩
            · rcases List.mem_append.mp hx with hx | hx
              · exact hV x hx
              · simp at hx; subst hx
                refine ⟨gs, ?_, ?_, (fun z => by cases z), fun _ => ⟨fun z => ?_, fun t ht => ?_⟩, by show ts.length ≤ 4; omega⟩
                · show ((p0.1, p0.2) :: List.map _ _).Nodup
                  rw [ep]
                  exact hnd
                · show ∀ p ∈ (p0.1, p0.2) :: List.map _ _, _
                  rw [ep]
                  exact hb
                · have z : ts = [] := z
                  rw [z] at lts
                  rw [← lts] at h3'
                  exact absurd h3' (by decide)
                · have m : t.h ∈ ts.map fun t => t.h := List.mem_map_of_mem ht
                  rw [en] at m
                  obtain ⟨i, _, e⟩ := List.mem_map.mp m
                  exact ⟨_, e.symm, pn_gs ll (by omega)⟩
            · rw [List.flatMap_append, hs, List.range_add, List.map_append]
              congr 1
              show List.map _ ts ++ [] = _
              rw [List.append_nil, List.map_map, lzs, lts]
              rw [show (ts.map fun t => hS t.h) = (ts.map fun t => t.h).map hS from by rw [List.map_map]; rfl, en, List.map_map]
              rfl
    · obtain ⟨sm, u, v8, v9, v10, v11, v12, v13, v14, v15, xs, ls, rfl, hlw, hA, hV, hn, hu, hs⟩ := pv
      exact ⟨_, rfl, q G lw ls (sm1.trans sm) (same_none sm1 nlw) (fun H'' sg => ⟨xs, sg _ _ (same_none sm1 nlw) hlw, hA.mono fun _ _ z => z H'' fun c o n _ h => sg c o n h⟩) ⟨hV, by omega, u, by omega, hs⟩⟩
end
end K07
-- K07
namespace K07
open PySem PySem.Spec PyProof.Rows L2
section
variable {P : Program} {w : World} {K : PySem.W.Frag} {mg : Str → Option Value} {base : Heap}
/-! ### a part -/
/-- the texts of a part's ports, its places as pairs of a name and a part -/
def txs (po : List Str) (pk : List (Str × Prt)) : List Str := po ++ pk.flatMap fun x => x.2.po.map fun q => x.1 ++ ("." : Str) ++ q
def jok (tx : List Str) (j : List Str) : Prop := j.Nodup ∧ 2 ≤ j.length ∧ j.length ≤ 4 ∧ ∀ t ∈ j, t ∈ tx
/-- a part behind others -/
structure VP (bef : List Prt) (s l a b : Nat) (pk : List (Str × Prt)) (p : Prt) : Prop where
  hs : s < 26
  hl : l < 2
  ha : a < 4
  hb : b < 4
  po : p.po = (pool s l).take a
  inn : p.inn = ((pool s l).drop 4).take b
  pl : p.pl = pk.map fun x => (x.1, x.2.nm)
  inb : ∀ x ∈ pk, x.2 ∈ bef
  nm : pk.map (·.1) = (List.range pk.length).map fun i => pn s l (9 + i)
  many : pk.length < 4
  ls : VLs (own p.po p.inn) s l p.ls
  jm : p.jo.length ≤ 3
  jo : ∀ j ∈ p.jo, jok (txs p.po pk) j
theorem in_strs (t : Str) (j : List Str) : inV (.str t) (j.map V.str) = decide (t ∈ j) := by
  induction j with
  | nil => rfl
  | cons x r ih =>
    rw [show inV (.str t) ((x :: r).map V.str) = (eqV (.str x) (.str t) || inV (.str t) (r.map V.str)) from rfl, ih]
    by_cases e : x = t
    · subst e; simp [eqV]
    · have : ¬ t = x := fun z => e z.symm
      simp [eqV, e, this]
theorem cut_mid {xs : List V} {z w : Int} {L M : Nat} (e : z = (L : Int)) (e' : w = ((L + M : Nat) : Int)) (h : L + M ≤ xs.length) : cutV xs (some z) (some w) = (xs.drop L).take M := by
  subst e
  subst e'
  unfold cutV
  rw [HT.sIx_nat, HT.sIx_nat, Nat.min_eq_left h, Nat.min_eq_left (by omega), Nat.add_sub_cancel_left]
theorem mul01 {x f : Int} (h0 : 0 ≤ x) (h1 : x < 4) (f0 : 0 ≤ f) (f1 : f ≤ 1) : ∃ n : Nat, x * f = (n : Int) ∧ n < 4 ∧ (0 < n → 0 < f) := by
  have : f = 0 ∨ f = 1 := by omega
  rcases this with rfl | rfl
  · exact ⟨0, by rw [Int.mul_zero]; rfl, by decide, fun h => absurd h (by decide)⟩
  · exact ⟨x.toNat, by rw [Int.mul_one]; omega, by omega, fun _ => by decide⟩
theorem some01 (n : Nat) (m : Int) : ∃ f : Int, (if decide (m < ((n : Nat) : Int)) = true then (1 : Int) else 0) = f ∧ 0 ≤ f ∧ f ≤ 1 ∧ (0 < f → m < n) := by
  refine ⟨_, rfl, ?_⟩
  by_cases h : m < n
  · rw [if_pos (decide_eq_true h)]
    exact ⟨by decide, by decide, fun _ => h⟩
  · rw [if_neg (fun z => h (of_decide_eq_true z))]
    exact ⟨by decide, by decide, fun z => absurd z (by decide)⟩
theorem txs_len {po : List Str} {pk : List (Str × Prt)} (h : ∀ x ∈ pk, x.2.po.length ≤ 3) : (txs po pk).length ≤ po.length + 3 * pk.length := by
  unfold txs
  rw [List.length_append]
  have : (pk.flatMap fun x => x.2.po.map fun q => x.1 ++ ("." : Str) ++ q).length ≤ 3 * pk.length := by
    induction pk with
    | nil => exact Nat.le_refl _
    | cons x r ih =>
      rw [List.flatMap_cons, List.length_append, List.length_map, List.length_cons]
      have := h x List.mem_cons_self
      have := ih fun y hy => h y (List.mem_cons_of_mem _ hy)
      omega
  omega
theorem pool_gs {s l : Nat} (hl : l < 2) : ∀ x ∈ pool s l, GS 12 x := fun x hx => by
  obtain ⟨i, hi, rfl⟩ := List.mem_map.mp hx
  exact pn_gs hl (List.mem_range.mp hi)
theorem ps_via {X : Cx} {st : Stmt} {t t' : TS} (h : PS X st t) (f : ∀ D σ H, t' D σ H → t D σ H) : PS X st t' := ⟨fun pins s σ H D I z => h.run pins s σ H D I (f D σ H z)⟩
/-- the laws are made, if there are names for them -/
def TSk (K : PySem.W.Frag) (H0 : Hp) (a : Addr) (k : Int) (nm : Str) (bk : Addr) (ds : List Int) : TS := fun Dn σ G => ∃ (pl po inn plc tx la jo pt : Addr) (x9 x10 : Option V) (p : Prt) (s l : Nat),
  σ = [some (.ref a), some (.int k), some (.str nm), some (.ref bk), some (.ref pl), some (.ref po), some (.ref inn), some (.ref plc), some (.ref tx), x9, x10, some (.ref pt), none, none, none, none, none, none] ∧ Same H0 G ∧ IL G a ds ∧ 0 ≤ k ∧ SL G pl (pool s l) ∧ l < 2 ∧
  p.nm = nm ∧ p.po.length ≤ 3 ∧ p.inn.length ≤ 3 ∧ (∀ x ∈ p.po, GS 12 x) ∧ (∀ x ∈ p.inn, GS 12 x) ∧ p.ls = [] ∧ p.jo = [] ∧ SL G po p.po ∧ SL G inn p.inn ∧ PlL K G plc p.pl ∧ H0 la = none ∧ G la = some (.lst []) ∧ G jo = some (.lst []) ∧ G pt = some (.tup [.str nm, .ref po, .ref inn, .ref plc, .ref la, .ref jo]) ∧
  ∀ (G' : Hp) (pt' la' jo' : Addr) (ls : List Lw), Same G G' → G' pt' = some (.tup [.str nm, .ref po, .ref inn, .ref plc, .ref la', .ref jo']) → H0 la' = none → (∀ H'', (∀ c o, H0 c = none → G' c = some o → H'' c = some o) → LsL K H'' la' ls) → VLs (own p.po p.inn) s l ls →
    Dn.nx [some (.ref a), some (.int k), some (.str nm), some (.ref bk), some (.ref pl), some (.ref po), some (.ref inn), some (.ref plc), some (.ref tx), x9, x10, some (.ref pt'), none, none, none, none, none, none] G'
def sp_law_part (K : PySem.W.Frag) : Sp := fun vs H Q _ => ∃ (a : Addr) (ds : List Int) (k : Int) (nm : Str) (bk : Addr) (bef : List Prt), vs = [.ref a, .int k, .str nm, .ref bk] ∧ IL H a ds ∧ 0 ≤ k ∧ BK K H bk bef ∧ bef.length ≤ 1000 ∧ (∀ x ∈ bef, x.po.length ≤ 3 ∧ ∀ y ∈ x.po, GS 12 y) ∧
  ∀ (H' : Hp) (v : V) (s l aa b : Nat) (pk : List (Str × Prt)) (p : Prt), Same H H' → Nw H (PT K) H' v p → VP bef s l aa b pk p → p.nm = nm → Q v H'
theorem ok_law_part (T : Txt K mg) : FnOk P w K mg base CX0 3 T.law_part.a T.law_part.fd ["draws", "k", "name", "book"] (sp_law_part K) := by
  refine T.law_part.F.ok sc_law_part (fun vs H Q E h => ?_) (fun cdv A outer s H vs Q E hr h => ?_)
  · obtain ⟨a, ds, k, nm, bk, bef, rfl, _⟩ := h
    rfl
  · obtain ⟨a, ds, k, nm, bk, bef, rfl, ha, hk, ⟨xs, hbk, hA⟩, hbl, hbp, q⟩ := h
    refine ⟨_, (pss_cons (ps_set (i := 4) sc_law_part.nd rfl (.inr rfl) (pe_call (ok_law_pool T) (hr.mono (by decide)) (by rfl) T.law_pool.g T.law_pool.F.kp T.law_pool.b .nil pass0 (pa_cons (pv 0) (pa_cons (pv 1) pa_nil))))
      (pss_cons (ps_set (i := 5) sc_law_part.nd rfl (.inl rfl) (pe_slice sl_list (pv 4) po_none (po_some (pe_call (ok_law_at T) (hr.mono (by decide)) (by rfl) T.law_at.g T.law_at.F.kp T.law_at.b .nil pass0 (pa_cons (pv 0) (pa_cons (pe_op op_add (pv 1) pe_int) (pa_cons pe_int pa_nil)))))))
      (pss_cons (ps_set (i := 6) sc_law_part.nd rfl (.inl rfl) (pe_slice sl_list (pv 4) (po_some pe_int) (po_some (pe_op op_add pe_int (pe_call (ok_law_at T) (hr.mono (by decide)) (by rfl) T.law_at.g T.law_at.F.kp T.law_at.b .nil pass0 (pa_cons (pv 0) (pa_cons (pe_op op_add (pv 1) pe_int) (pa_cons pe_int pa_nil))))))))
      (pss_cons (ps_set (i := 7) sc_law_part.nd rfl (.inl rfl) (pe_lst pa_nil))
      (pss_cons (ps_set (i := 8) sc_law_part.nd rfl (.inl rfl) (pe_callTy call_list_of (by rfl) T.m_list (by decide +kernel) (pa_cons (pv 5) pa_nil)))
      (pss_cons (ps_for PassesOwn.never rfl (pi_range1 (by rfl) T.m_range (pa_cons (pe_op op_mul (pe_call (ok_law_at T) (hr.mono (by decide)) (by rfl) T.law_at.g T.law_at.F.kp T.law_at.b .nil pass0 (pa_cons (pv 0) (pa_cons (pe_op op_add (pv 1) pe_int) (pa_cons pe_int pa_nil)))) (pe_callTy call_int1 (by rfl) T.m_int (by decide +kernel) (pa_cons (pe_cmpR op_gt (pe_callB call_len_seq (by rfl) T.m_len (by decide +kernel) (pa_cons (pv 3) pa_nil)) pe_int (nomark _)) pa_nil))) pa_nil)) (pg_name (i := 9) sc_law_part.nd rfl (.inr rfl))
        (pss_cons (ps_set (i := 10) sc_law_part.nd rfl (.inl rfl) (pe_ix ix_list (pv 3) (pe_call (ok_law_at T) (hr.mono (by decide)) (by rfl) T.law_at.g T.law_at.F.kp T.law_at.b .nil pass0 (pa_cons (pv 0) (pa_cons (pe_op op_add (pe_op op_add (pv 1) pe_int) (pv 9)) (pa_cons (pe_callB call_len_seq (by rfl) T.m_len (by decide +kernel) (pa_cons (pv 3) pa_nil)) pa_nil)))) (fun _ _ => rfl)))
        (pss_cons (ps_expr (pe_bm PySem.F.plainAttrs_list PySem.F.slot_list_append PySem.F.type_list_append mt_append (pv 7) (pa_cons (pe_tup (pa_cons (pe_ix ix_list (pv 4) (pe_op op_add pe_int (pv 9)) (fun _ _ => rfl)) (pa_cons (pe_ix ix_tup (pv 10) pe_int (fun _ _ => rfl)) pa_nil))) pa_nil)))
        (pss_one (ps_set (i := 8) sc_law_part.nd rfl (.inl rfl) (pe_op op_cat (pv 8) (pe_lc (own := [("port", 17)]) rfl sc_law_part.nd (pi_list (pe_ix ix_tup (pv 10) pe_int (fun _ _ => rfl))) (blkOk_by (N := ["draws", "k", "name", "book", "pool", "ports", "inner", "places", "texts", "turn", "kind", "part", "joints", "cell", "joint", "step", "text", "port"]) (sc := defScope s_law_part) (by decide +kernel)) (fun _ _ _ _ _ => (pg_name (i := 17) sc_law_part.nd rfl (.inl rfl))) (fun _ _ _ _ _ => pts_nil) (fun _ _ _ _ _ => (pe_op op_add_str (pe_op op_add_str (pe_ix (r := rIxL K) ix_list (pv 4) (pe_op op_add pe_int (pv 9)) (fun _ _ => rfl)) pe_str) (pv 17))))))))))
      (pss_cons (ps_set (i := 11) sc_law_part.nd rfl (.inl rfl) (pe_tup (pa_cons (pv 2) (pa_cons (pv 5) (pa_cons (pv 6) (pa_cons (pv 7) (pa_cons (pe_lst pa_nil) (pa_cons (pe_lst pa_nil) pa_nil))))))))
      (pss_cons (ps_via (t' := TSk K H a k nm bk ds) (ps_if (pt_cmpR op_gt (pe_op op_add (pe_callB call_len_seq (by rfl) T.m_len (by decide +kernel) (pa_cons (pv 5) pa_nil)) (pe_callB call_len_seq (by rfl) T.m_len (by decide +kernel) (pa_cons (pv 6) pa_nil))) pe_int (nomark _))
        (pss_one (ps_set (i := 11) sc_law_part.nd rfl (.inl rfl) (pe_tup (pa_cons (pv 2) (pa_cons (pv 5) (pa_cons (pv 6) (pa_cons (pv 7) (pa_cons (pe_call (ok_law_part_laws T) (hr.mono (by decide)) (by rfl) T.law_part_laws.g T.law_part_laws.F.kp T.law_part_laws.b .nil pass0 (pa_cons (pv 0) (pa_cons (pe_op op_add (pv 1) pe_int) (pa_cons (pv 11) (pa_cons (pv 4) (pa_cons (pe_call (ok_law_at T) (hr.mono (by decide)) (by rfl) T.law_at.g T.law_at.F.kp T.law_at.b .nil pass0 (pa_cons (pv 0) (pa_cons (pe_op op_add (pv 1) pe_int) (pa_cons pe_int pa_nil)))) pa_nil)))))) (pa_cons (pe_lst pa_nil) pa_nil)))))))))
        pss_nil) ?vial)
      (pss_cons (ps_set (i := 12) sc_law_part.nd rfl (.inl rfl) (pe_lst pa_nil))
      (pss_cons (ps_for PassesOwn.never rfl (pi_range1 (by rfl) T.m_range (pa_cons (pe_op op_mul (pe_call (ok_law_at T) (hr.mono (by decide)) (by rfl) T.law_at.g T.law_at.F.kp T.law_at.b .nil pass0 (pa_cons (pv 0) (pa_cons (pe_op op_add (pv 1) pe_int) (pa_cons pe_int pa_nil)))) (pe_callTy call_int1 (by rfl) T.m_int (by decide +kernel) (pa_cons (pe_cmpR op_gt (pe_callB call_len_seq (by rfl) T.m_len (by decide +kernel) (pa_cons (pv 8) pa_nil)) pe_int (nomark _)) pa_nil))) pa_nil)) (pg_name (i := 9) sc_law_part.nd rfl (.inr rfl))
        (pss_cons (ps_set (i := 13) sc_law_part.nd rfl (.inl rfl) (pe_call (ok_law_at T) (hr.mono (by decide)) (by rfl) T.law_at.g T.law_at.F.kp T.law_at.b .nil pass0 (pa_cons (pv 0) (pa_cons (pe_op op_add (pe_op op_add (pv 1) pe_int) (pv 9)) (pa_cons pe_int pa_nil)))))
        (pss_cons (ps_set (i := 14) sc_law_part.nd rfl (.inl rfl) (pe_lst pa_nil))
        (pss_cons (ps_for PassesOwn.never rfl (pi_range1 (by rfl) T.m_range (pa_cons (pe_op op_add pe_int (pe_op op_mod (pe_callTy call_int1 (by rfl) T.m_int (by decide +kernel) (pa_cons (pv 13) pa_nil)) pe_int)) pa_nil)) (pg_name (i := 15) sc_law_part.nd rfl (.inl rfl))
          (pss_cons (ps_set (i := 16) sc_law_part.nd rfl (.inl rfl) (pe_ix ix_list (pv 8) (pe_op op_mod (pe_callTy call_int1 (by rfl) T.m_int (by decide +kernel) (pa_cons (pe_op op_fdiv (pv 13) (pe_op op_add pe_int (pe_op op_mul pe_int (pv 15)))) pa_nil)) (pe_callB call_len_seq (by rfl) T.m_len (by decide +kernel) (pa_cons (pv 8) pa_nil))) (fun _ _ => rfl)))
          (pss_one (ps_if (pt_cmpR op_notIn_seq (pv 16) (pv 14) rfl)
            (pss_one (ps_expr (pe_bm PySem.F.plainAttrs_list PySem.F.slot_list_append PySem.F.type_list_append mt_append (pv 14) (pa_cons (pv 16) pa_nil))))
            pss_nil))))
        (pss_one (ps_if (pt_cmpR op_gt (pe_callB call_len_seq (by rfl) T.m_len (by decide +kernel) (pa_cons (pv 14) pa_nil)) pe_int (nomark _))
          (pss_one (ps_expr (pe_bm PySem.F.plainAttrs_list PySem.F.slot_list_append PySem.F.type_list_append mt_append (pv 12) (pa_cons (pv 14) pa_nil))))
          pss_nil))))))
      (pss_one (ps_ret (pe_op op_catT (pe_slice sl_tup (pv 11) po_none (po_some pe_int)) (pe_tup (pa_cons (pv 12) pa_nil))))))))))))))), ?_⟩
    case vial =>
      intro Dn σ G h
      obtain ⟨pl, po, inn, plc, tx, la, jo, pt, x9, x10, p, s, l, rfl, s0, ha, hk, hpl, ll, hnm, l1, l2, g1, g2, e1, e2, h1, h2, h3, n4, h4, h5, h6, nx⟩ := h
      refine ⟨_, rfl, po, _, rfl, .inl (.of h1), _, rfl, inn, _, rfl, .inl (.of h2), _, _, rfl, rfl, _, _, rfl, rfl, _, rfl, ?_⟩
      refine ite2 (fun hp => ?_) (fun hp => ?_)
      · have lp : 0 < p.po.length + p.inn.length := by
          have := of_decide_eq_true hp
          rw [List.length_map, List.length_map] at this
          omega
        have a0 := la0 (ds := ds) (k := k + 7) (many := 4) (by decide)
        have a1 := la1 (ds := ds) (k := k + 7) (many := 4) (by decide)
        refine ⟨_, rfl, _, rfl, _, rfl, _, rfl, .ref a, rfl, _, rfl, _, _, rfl, rfl, .ref pt, rfl, .ref pl, rfl, .ref a, rfl, _, rfl, _, _, rfl, rfl, a, ds, _, 4, rfl, ha, by omega, by decide, ?_⟩
        refine ⟨a, ds, _, .ref pt, p, pl, s, l, _, rfl, ha, by omega, ⟨pt, po, inn, plc, la, jo, rfl, .of (by rw [hnm]; exact h6), h1, h2, h3, ⟨[], h4, by rw [e1]; exact .nil⟩, ⟨[], h5, by rw [e2]; exact .nil⟩⟩, l1, l2, g1, g2, ?_, hpl, ll, a0, by omega, fun G2 q ls sm n hL hV => ?_⟩
        · intro z
          have := own_len (ps := p.po) (inn := p.inn)
          rw [z] at this
          have e : ([] : List Str).length = 0 := rfl
          omega
        refine ⟨by show 0 ≤ sizeLine; decide, fun jo' njo => ⟨by show 6 ≤ sizeLine; decide, fun pt' npt => ?_⟩⟩
        refine nx _ pt' q jo' ls (sm.trans ((same_upd njo).trans (same_upd npt))) upd_same (same_none s0 n) (fun H'' sg => hL H'' fun c o nc hc => sg c o (same_none s0 nc) (((same_upd njo).trans (same_upd npt)) _ _ hc)) hV
      · exact nx G pt la jo [] (Same.refl _) h6 n4 (fun H'' sg => ⟨[], sg _ _ n4 h4, .nil⟩) ⟨(fun _ z => by cases z), by decide, 0, by decide, rfl⟩
    refine ⟨.ref a, rfl, _, rfl, a, ds, k, rfl, ha, hk, fun H1 pl s l hs hl sm1 npl hpl => ?_⟩
    have a0 := la0 (ds := ds) (k := k + 1) (many := 4) (by decide)
    have a1 := la1 (ds := ds) (k := k + 1) (many := 4) (by decide)
    obtain ⟨aa, ea⟩ : ∃ n : Nat, la ds (k + 1) 4 = (n : Int) := ⟨_, (Int.toNat_of_nonneg a0).symm⟩
    refine ⟨_, rfl, .ref a, rfl, _, rfl, _, _, rfl, rfl, a, ds, _, 4, rfl, ha.same sm1, by omega, by decide, _, rfl, pl, _, rfl, .of hpl, fun po npo => ?_⟩
    rw [ea, cut_to rfl, ← List.map_take]
    rw [ea] at a0 a1
    have a2 := la0 (ds := ds) (k := k + 2) (many := 4) (by decide)
    have a3 := la1 (ds := ds) (k := k + 2) (many := 4) (by decide)
    obtain ⟨bb, eb⟩ : ∃ n : Nat, la ds (k + 2) 4 = (n : Int) := ⟨_, (Int.toNat_of_nonneg a2).symm⟩
    have s2 := same_upd npo (o := .lst (((pool s l).take aa).map V.str))
    have hpo : SL (upd H1 po (.lst (((pool s l).take aa).map V.str))) po ((pool s l).take aa) := upd_same
    have smB := sm1.trans s2
    have hpl2 := s2 _ _ hpl
    have npo' := same_none sm1 npo
    generalize upd H1 po _ = H2 at s2 hpo smB hpl2
    refine ⟨_, rfl, _, rfl, .ref a, rfl, _, rfl, _, _, rfl, rfl, a, ds, _, 4, rfl, ha.same smB, by omega, by decide, _, _, rfl, rfl, _, rfl, pl, _, rfl, .of hpl2, fun inn ninn => ?_⟩
    rw [eb] at a2 a3
    have ecut : cutV ((pool s l).map V.str) (some 4) (some (4 + (bb : Int))) = (((pool s l).drop 4).take bb).map V.str :=
      (cut_mid (L := 4) (M := bb) rfl (by omega) (by rw [List.length_map, pool_len]; omega)).trans (by rw [List.map_take, List.map_drop])
    rw [eb, ecut]
    have s3 := same_upd ninn (o := .lst ((((pool s l).drop 4).take bb).map V.str))
    have hinn : SL (upd H2 inn (.lst ((((pool s l).drop 4).take bb).map V.str))) inn (((pool s l).drop 4).take bb) := upd_same
    have smC := smB.trans s3
    have hpl3 := s3 _ _ hpl2
    have hpo3 : SL (upd H2 inn (.lst ((((pool s l).drop 4).take bb).map V.str))) po _ := s3 _ _ hpo
    have ninn' := same_none smB ninn
    generalize upd H2 inn _ = H3 at s3 hinn smC hpl3 hpo3
    refine ⟨by show 0 ≤ sizeLine; decide, fun plc nplc => ?_⟩
    have s4 := same_upd nplc (o := .lst [])
    have nplc' := same_none smC nplc
    refine ⟨_, rfl, po, _, rfl, .inl (.of (s4 _ _ hpo3)), fun tx ntx => ?_⟩
    have s5 := s4.trans (same_upd ntx (o := .lst (((pool s l).take aa).map V.str)))
    have smD := smC.trans s5
    have b0 := la0 (ds := ds) (k := k + 3) (many := 4) (by decide)
    have b1 := la1 (ds := ds) (k := k + 3) (many := 4) (by decide)
    refine ⟨.ref a, rfl, _, rfl, _, _, rfl, rfl, a, ds, _, 4, rfl, ha.same smD, by omega, by decide, _, rfl, bk, _, rfl, .inl (.of (smD _ _ hbk)), _, _, rfl, rfl, .inr ⟨_, rfl, ?_⟩⟩
    obtain ⟨f, ef, f0, f1, f2⟩ := some01 xs.length 0
    rw [ef]
    obtain ⟨n, en, ln, hn⟩ := mul01 b0 (by omega) f0 f1
    refine ⟨_, _, rfl, rfl, .inl ⟨by omega, by omega⟩, _, rfl, by rw [en]; omega, by rw [en]; omega, ?_⟩
    rw [en, Int.toNat_natCast]
    have ntx' := same_none (smC.trans s4) ntx
    have hpl5 := s5 _ _ hpl3
    have hpo5 := s5 _ _ hpo3
    have hinn5 := s5 _ _ hinn
    have lxs := hA.len
    have hplc5 : upd (upd H3 plc (.lst [])) tx (.lst (((pool s l).take aa).map V.str)) plc = some (.lst []) := (same_upd ntx) _ _ upd_same
    have htx5 : upd (upd H3 plc (.lst [])) tx (.lst (((pool s l).take aa).map V.str)) tx = some (.lst (((pool s l).take aa).map V.str)) := upd_same
    generalize upd (upd H3 plc _) tx _ = H5 at s5 smD hpl5 hpo5 hinn5 hplc5 htx5
    refine for_it (walk_range (lo := 0) (n := n)) (fun i σ G => Same H G ∧ G pl = some (.lst ((pool s l).map V.str)) ∧ SL G po ((pool s l).take aa) ∧ SL G inn (((pool s l).drop 4).take bb) ∧ ∃ (v9 v10 : Option V) (tx : Addr) (ys : List V) (pk : List (Str × Prt)), σ = [some (.ref a), some (.int k), some (.str nm), some (.ref bk), some (.ref pl), some (.ref po), some (.ref inn), some (.ref plc), some (.ref tx), v9, v10, none, none, none, none, none, none, none] ∧ H tx = none ∧ tx ≠ plc ∧ SL G tx (txs ((pool s l).take aa) pk) ∧
        G plc = some (.lst ys) ∧ A2 (NwS H plc (PlV K) G) ys (pk.map fun x => (x.1, x.2.nm)) ∧ (∀ x ∈ pk, x.2 ∈ bef) ∧ pk.length = i ∧ pk.map (·.1) = (List.range i).map fun i => pn s l (9 + i))
      ⟨smD, hpl5, hpo5, hinn5, none, none, tx, [], [], rfl, ntx', (fun z => by rw [z, upd_same] at ntx; cases ntx), by unfold txs; rw [List.flatMap_nil, List.append_nil]; exact htx5, hplc5, .nil, (fun _ z => by cases z), rfl, rfl⟩ (fun _ _ _ _ _ => trivial) (fun i x σ G Gx hi pv y => ?_) (fun σ G pv => ?_)
    · obtain ⟨sm, hpl6, hpo6, hinn6, v9, v10, tx, ys, pk, rfl, ntx, tnp, htx, hplc, hB, hin, hlen, hnm⟩ := pv
      obtain ⟨rfl, rfl⟩ := y
      have hbk6 := sm _ _ hbk
      have px : 0 < xs.length := by have := f2 (hn (by omega)); omega
      have c0 := la0 (ds := ds) (k := k + 4 + (0 + (i : Int))) (many := ((xs.length : Nat) : Int)) (by omega)
      have c1 := la1 (ds := ds) (k := k + 4 + (0 + (i : Int))) (many := ((xs.length : Nat) : Int)) (by omega)
      obtain ⟨c, hc, mc⟩ := at_ex c0 c1
      obtain ⟨kp, mkp, ka, kpo, kinn, kpl, kla, kjo, rfl, hkt, hkpo, _⟩ := hA.mem c mc
      have hkt6 := Same.seqT sm hkt
      have hkpo6 := sm _ _ hkpo
      obtain ⟨lk, gk⟩ := hbp _ mkp
      refine ⟨_, rfl, .ref a, rfl, _, rfl, _, _, rfl, rfl, _, rfl, _, _, rfl, rfl, _, rfl, bk, _, rfl, .inl (.of hbk6), a, ds, _, _, rfl, ha.same sm, by omega, by omega, bk, _, _, _, rfl, rfl, .of hbk6, hc, ?_⟩
      refine ⟨.ref plc, rfl, .inl ⟨rfl, _, .of hplc⟩, _, rfl, _, rfl, _, _, rfl, rfl, pl, _, _, _, rfl, rfl, .of hpl6, pool_at (i := 9 + i) (by omega) (by omega), _, rfl, ka, _, _, _, rfl, rfl, hkt6, rfl, by show 2 ≤ sizeLine; decide, fun t nt => ?_⟩
      have tp : t ≠ plc := fun z => by rw [z, hplc] at nt; cases nt
      have s6 := same_upd nt (o := .tup [.str (pn s l (9 + i)), .str kp.nm])
      refine ⟨plc, _, _, rfl, rfl, s6 _ _ hplc, small' (by have := hB.len; rw [List.length_map] at this; omega), ?_⟩
      have sm7 : Same H (upd (upd Gx t (.tup [.str (pn s l (9 + i)), .str kp.nm])) plc (.lst (ys ++ [.ref t]))) := same_over (sm.trans s6) nplc'
      have hplc7 : upd (upd Gx t (.tup [.str (pn s l (9 + i)), .str kp.nm])) plc (.lst (ys ++ [.ref t])) plc = some (.lst (ys ++ [.ref t])) := upd_same
      have sx7 : SameX plc Gx (upd (upd Gx t (.tup [.str (pn s l (9 + i)), .str kp.nm])) plc (.lst (ys ++ [.ref t]))) := (sx s6).trans SameX.put
      have hB7 : A2 (NwS H plc (PlV K) (upd (upd Gx t (.tup [.str (pn s l (9 + i)), .str kp.nm])) plc (.lst (ys ++ [.ref t])))) (ys ++ [.ref t]) ((pk ++ [(pn s l (9 + i), kp)]).map fun x => (x.1, x.2.nm)) := by
        rw [List.map_append]
        exact A2.snoc (fun G' sg => ⟨t, rfl, .of (sg _ _ (same_none sm nt) tp (by rw [upd_ne tp]; exact upd_same))⟩) (NwS.all sx7 hB)
      have ne : ∀ {b : Addr} {o : HO}, Gx b = some o → H3 b = some o → b ≠ plc := fun _ h z => by rw [z, nplc] at h; cases h
      have hpl7 := sx7 _ _ (fun z => by rw [z, nplc] at hpl3; cases hpl3) hpl6
      have hpo7 := sx7 _ _ (fun z => by rw [z] at hpo3; rw [show H3 plc = some _ from hpo3] at nplc; cases nplc) hpo6
      have hinn7 := sx7 _ _ (fun z => by rw [z] at hinn; rw [show H3 plc = some _ from hinn] at nplc; cases nplc) hinn6
      have htx7 := sx7 _ _ tnp htx
      clear hpl6 hpo6 hinn6 htx
      generalize upd (upd Gx t _) plc _ = G7 at sm7 hplc7 sx7 hB7 hpl7 hpo7 hinn7 htx7
      have hkt7 := Same.seqT sm7 hkt
      have hkpo7 := sm7 _ _ hkpo
      refine ⟨_, rfl, _, rfl, ka, _, _, _, rfl, rfl, hkt7, rfl, kpo, rfl, ⟨_, .of hkpo7⟩, fun D nD => ?_⟩
      refine lc_rel (xs := kp.po.map V.str) (fun j y => ∀ q, kp.po[j]? = some q → y = .str (pn s l (9 + i) ++ ("." : Str) ++ q)) nD (.of hkpo7) (small' (by rw [List.length_map]; omega)) (fun j x G8 Q' hx sm8 hq => ?_) (fun G8 zs sm8 hD hn hr => ?_)
      · rw [List.getElem?_map] at hx
        cases ej : kp.po[j]? with
        | none => rw [ej] at hx; cases hx
        | some qn =>
          rw [ej] at hx
          obtain rfl := Option.some.inj hx
          have g1 := (pn_gs (s := s) hl (show 9 + i < 52 by omega)).1
          have g2 := (gk qn (mem_at ej)).1
          have g3 : (pn s l (9 + i) ++ ("." : Str)).length ≤ 13 := by rw [Str.length_append]; show _ + 1 ≤ 13; omega
          refine ⟨_, rfl, _, rfl, _, _, rfl, rfl, pl, _, _, _, rfl, rfl, .of (sm8 _ _ hpl7), pool_at (i := 9 + i) (by omega) (by omega), _, _, rfl, rfl, small (by show _ + 1 ≤ 60000; omega), _, rfl, _, _, rfl, rfl, small (by omega), hq _ fun q hq => ?_⟩
          rw [ej] at hq
          obtain rfl := Option.some.inj hq
          rfl
      · have ez : zs = (kp.po.map fun q => pn s l (9 + i) ++ ("." : Str) ++ q).map V.str := by
          refine List.ext_getElem? fun j => ?_
          rw [List.length_map] at hn
          rw [List.map_map, List.getElem?_map]
          rcases Nat.lt_or_ge j kp.po.length with hj | hj
          · obtain ⟨y, h⟩ : ∃ y, zs[j]? = some y := ⟨zs[j]'(by omega), by simp [show j < zs.length by omega]⟩
            have e : kp.po[j]? = some kp.po[j] := by simp [hj]
            rw [h, e, hr j y h _ e]; rfl
          · rw [List.getElem?_eq_none (by omega), List.getElem?_eq_none hj]; rfl
        subst ez
        refine ⟨tx, D, _, _, rfl, rfl, sm8 _ _ htx7, hD, ?_, fun z nz => ?_⟩
        · have h1 := txs_len (po := (pool s l).take aa) fun x hx => (hbp _ (hin x hx)).1
          rw [List.length_take, pool_len] at h1
          rw [List.length_map, List.length_map, List.length_map]
          exact small (by omega)
        · have s9 := sm8.trans (same_upd nz (o := .lst ((txs ((pool s l).take aa) pk).map V.str ++ (kp.po.map fun q => pn s l (9 + i) ++ ("." : Str) ++ q).map V.str)))
          refine ⟨sm7.trans s9, s9 _ _ hpl7, s9 _ _ hpo7, s9 _ _ hinn7, _, _, z, _, pk ++ [(pn s l (9 + i), kp)], rfl, same_none (sm7.trans sm8) nz, (fun e => by rw [e, sm8 _ _ hplc7] at nz; cases nz), ?_, s9 _ _ hplc7, NwS.all (sx s9) hB7, fun x hx => ?_, by rw [List.length_append, hlen]; rfl, by rw [List.map_append, hnm, List.range_succ, List.map_append]; rfl⟩
          · show upd G8 z _ z = _
            rw [upd_same, ← List.map_append]
            congr 3
            unfold txs
            rw [List.flatMap_append, ← List.append_assoc]
            congr 1
            show _ = _ ++ []
            rw [List.append_nil]
          · rcases List.mem_append.mp hx with hx | hx
            · exact hin x hx
            · obtain rfl := List.mem_singleton.mp hx
              exact mkp
    · obtain ⟨sm, hpl6, hpo6, hinn6, v9, v10, tx, ys, pk, rfl, ntx, tnp, htx, hplc, hB, hin, hlen, hnm⟩ := pv
      have hplE : PlL K G plc (pk.map fun x => (x.1, x.2.nm)) := ⟨ys, hplc, hB.mono fun _ _ z => z.at⟩
      refine ⟨_, rfl, _, rfl, _, rfl, _, rfl, by show 0 ≤ sizeLine; decide, fun lla nla => ⟨by show 0 ≤ sizeLine; decide, fun jj njj => ⟨by show 6 ≤ sizeLine; decide, fun pt npt => ?_⟩⟩⟩
      have t1 := same_upd nla (o := .lst [])
      have t2 := same_upd njj (o := .lst [])
      have t3 := same_upd npt (o := .tup [.str nm, .ref po, .ref inn, .ref plc, .ref lla, .ref jj])
      have t12 := t1.trans t2
      have t123 := t12.trans t3
      refine ⟨pl, po, inn, plc, tx, lla, jj, pt, v9, v10, ⟨nm, (pool s l).take aa, ((pool s l).drop 4).take bb, pk.map fun x => (x.1, x.2.nm), [], []⟩, s, l, rfl, sm.trans t123, ha.same (sm.trans t123), hk, t123 _ _ hpl6, hl, rfl, by show (List.take _ _).length ≤ 3; rw [List.length_take]; omega, by show (List.take _ _).length ≤ 3; rw [List.length_take]; omega, fun x hx => pool_gs hl x (List.mem_of_mem_take hx), fun x hx => pool_gs hl x (List.mem_of_mem_drop (List.mem_of_mem_take hx)), rfl, rfl,
        t123 _ _ hpo6, t123 _ _ hinn6, hplE.same t123, same_none sm nla, t3 _ _ (t2 _ _ upd_same), t3 _ _ upd_same, upd_same, fun G' pt' la' jo' ls sm' hpt' nla' hL hV => ?_⟩
      have smG : Same G G' := t123.trans sm'
      have smH : Same H G' := sm.trans smG
      have htx' : SL G' tx (txs ((pool s l).take aa) pk) := smG _ _ htx
      have hpo' : SL G' po ((pool s l).take aa) := smG _ _ hpo6
      have hinn' : SL G' inn (((pool s l).drop 4).take bb) := smG _ _ hinn6
      have hplc' := smG _ _ hplc
      have ltx : (txs ((pool s l).take aa) pk).length ≤ 12 := by
        have h1 := txs_len (po := (pool s l).take aa) fun x hx => (hbp _ (hin x hx)).1
        rw [List.length_take, pool_len] at h1
        omega
      have hB' : A2 (NwS H plc (PlV K) G') ys (pk.map fun x => (x.1, x.2.nm)) := NwS.all (sx smG) hB
      generalize eTX : txs ((pool s l).take aa) pk = TX at htx' ltx
      refine ⟨by show 0 ≤ sizeLine; decide, fun jl njl => ?_⟩
      have u1 := same_upd njl (o := .lst [])
      have d0 := la0 (ds := ds) (k := k + 12) (many := 4) (by decide)
      have d1 := la1 (ds := ds) (k := k + 12) (many := 4) (by decide)
      refine ⟨.ref a, rfl, _, rfl, _, _, rfl, rfl, a, ds, _, 4, rfl, ha.same (smH.trans u1), by omega, by decide, _, rfl, tx, _, rfl, .inl (.of (u1 _ _ htx')), _, _, rfl, rfl, .inr ⟨_, rfl, ?_⟩⟩
      obtain ⟨g, eg, e0, e1, e2⟩ := some01 (TX.map V.str).length 1
      rw [eg]
      obtain ⟨m, em, lm, hm⟩ := mul01 d0 (by omega) e0 e1
      rw [List.length_map] at e2
      refine ⟨_, _, rfl, rfl, .inl ⟨by omega, by omega⟩, _, rfl, by rw [em]; omega, by rw [em]; omega, ?_⟩
      rw [em, Int.toNat_natCast]
      refine for_it (walk_range (lo := 0) (n := m)) (fun i σ G2 => Same G' G2 ∧ ∃ (v9 v13 v14 v15 v16 : Option V) (zs : List V) (js : List (List Str)), σ = [some (.ref a), some (.int k), some (.str nm), some (.ref bk), some (.ref pl), some (.ref po), some (.ref inn), some (.ref plc), some (.ref tx), v9, v10, some (.ref pt'), some (.ref jl), v13, v14, v15, v16, none] ∧ G2 jl = some (.lst zs) ∧ A2 (NwS H jl JoV G2) zs js ∧ (∀ j ∈ js, jok TX j) ∧ js.length ≤ i)
        ⟨u1, v9, none, none, none, none, [], [], rfl, upd_same, .nil, (fun _ z => by cases z), Nat.le_refl _⟩ (fun _ _ _ _ _ => trivial) (fun i x σ G2 Gx hi pv y => ?_) (fun σ G2 pv => ?_)
      · obtain ⟨sm2, v9, v13, v14, v15, v16, zs, js, rfl, hjl, hJ, hjok, ljs⟩ := pv
        obtain ⟨rfl, rfl⟩ := y
        have lT : 1 < TX.length := by have := e2 (hm (by omega)); omega
        have c0 := la0 (ds := ds) (k := k + 13 + (0 + (i : Int))) (many := 60000) (by decide)
        have c1 := la1 (ds := ds) (k := k + 13 + (0 + (i : Int))) (many := 60000) (by decide)
        refine ⟨.ref a, rfl, _, rfl, _, _, rfl, rfl, _, rfl, _, _, rfl, rfl, a, ds, _, 60000, rfl, ha.same (smH.trans sm2), by omega, by decide, ?_⟩
        dsimp only
        generalize la ds (k + 13 + (0 + (i : Int))) 60000 = cell at c0 c1
        refine ⟨by show 0 ≤ sizeLine; decide, fun jt njt => ⟨_, rfl, .inl ⟨_, rfl, _, _, rfl, rfl, (by show (0 : Int) < _; decide), _, _, rfl, rfl, ?_⟩⟩⟩
        obtain ⟨z, ez⟩ : ∃ n : Nat, 2 + cell % 3 = (n : Int) := ⟨(2 + cell % 3).toNat, by omega⟩
        refine ⟨_, rfl, by omega, by omega, ?_⟩
        rw [ez, Int.toNat_natCast]
        have w1 := same_upd njt (o := .lst [])
        refine for_it (walk_range (lo := 0) (n := z)) (fun j σ G3 => Same Gx G3 ∧ ∃ (v15 v16 : Option V) (jj : List Str), σ = [some (.ref a), some (.int k), some (.str nm), some (.ref bk), some (.ref pl), some (.ref po), some (.ref inn), some (.ref plc), some (.ref tx), some (.int (0 + (i : Int))), v10, some (.ref pt'), some (.ref jl), some (.int cell), some (.ref jt), v15, v16, none] ∧ SL G3 jt jj ∧ jj.Nodup ∧ (∀ t ∈ jj, t ∈ TX) ∧ jj.length ≤ j)
          ⟨w1, v15, v16, [], rfl, upd_same, .nil, (fun _ z => by cases z), Nat.le_refl _⟩ (fun _ _ _ _ _ => trivial) (fun j x σ G3 Gy hj pv y => ?_) (fun σ G3 pv => ?_)
        · obtain ⟨sm3, v15, v16, jj, rfl, hjt, hnd, hmem, ljj⟩ := pv
          obtain ⟨rfl, rfl⟩ := y
          have htx2 := sm3 _ _ (sm2 _ _ htx')
          obtain ⟨c, hc, mc⟩ := at_ex (xs := TX.map V.str) (i := cell / (3 + 2 * (0 + (j : Int))) % (((TX.map V.str).length : Nat) : Int)) (Int.emod_nonneg _ (by rw [List.length_map]; omega)) (Int.emod_lt_of_pos _ (by rw [List.length_map]; omega))
          obtain ⟨qn, hqn, rfl⟩ := List.mem_map.mp mc
          refine ⟨_, rfl, _, rfl, _, rfl, _, _, rfl, rfl, .inl ⟨by decide, by omega⟩, _, _, rfl, rfl, _, _, rfl, rfl, ⟨by omega, by omega⟩, .inl ⟨_, rfl, _, rfl, tx, _, rfl, .inl (.of htx2), _, _, rfl, rfl, by rw [List.length_map]; omega, tx, _, _, _, rfl, rfl, .of htx2, hc, ?_⟩⟩
          refine ⟨_, rfl, .ref jt, rfl, jt, _, rfl, .inl (.of hjt), rfl, flat_strs jj, _, rfl, ?_⟩
          rw [in_strs]
          refine ite2 (fun h => ?_) (fun h => ?_)
          · have hni : qn ∉ jj := fun z => by rw [decide_eq_true z] at h; cases h
            refine ⟨.ref jt, rfl, .inl ⟨rfl, _, .of hjt⟩, _, rfl, jt, _, _, rfl, rfl, hjt, small' (by rw [List.length_map]; omega), ?_⟩
            refine ⟨same_over sm3 njt, _, _, jj ++ [qn], rfl, ?_, ?_, fun t ht => ?_, by rw [List.length_append]; exact Nat.succ_le_succ ljj⟩
            · show upd Gy jt _ jt = _
              rw [upd_same, List.map_append]; rfl
            · exact List.nodup_append.mpr ⟨hnd, List.nodup_cons.mpr ⟨List.not_mem_nil, List.nodup_nil⟩, fun x hx y hy e => by simp at hy; subst hy; subst e; exact hni hx⟩
            · rcases List.mem_append.mp ht with ht | ht
              · exact hmem t ht
              · obtain rfl := List.mem_singleton.mp ht
                exact hqn
          · exact ⟨sm3, _, _, jj, rfl, hjt, hnd, hmem, by omega⟩
        · obtain ⟨sm3, v15, v16, jj, rfl, hjt, hnd, hmem, ljj⟩ := pv
          have hjl3 := sm3 _ _ hjl
          have hJ3 : A2 (NwS H jl JoV G3) zs js := NwS.all (sx sm3) hJ
          refine ⟨_, rfl, jt, _, rfl, .inl (.of hjt), _, _, rfl, rfl, _, rfl, ite2 (fun h => ?_) (fun h => ?_)⟩
          · have l2 : 2 ≤ jj.length := by
              have := of_decide_eq_true h
              rw [List.length_map] at this
              omega
            have jn : jt ≠ jl := fun z => by rw [z, hjl] at njt; cases njt
            refine ⟨.ref jl, rfl, .inl ⟨rfl, _, .of hjl3⟩, _, rfl, jl, _, _, rfl, rfl, hjl3, small' (by have := hJ.len; omega), ?_⟩
            refine ⟨same_over (sm2.trans sm3) njl, _, _, _, _, _, zs ++ [.ref jt], js ++ [jj], rfl, upd_same, A2.snoc (fun G4 sg => ⟨jt, rfl, sg _ _ (same_none (smH.trans sm2) njt) jn (by rw [upd_ne jn]; exact hjt)⟩) (NwS.all SameX.put hJ3), fun j hj => ?_, by rw [List.length_append]; exact Nat.succ_le_succ ljs⟩
            rcases List.mem_append.mp hj with hj | hj
            · exact hjok j hj
            · obtain rfl := List.mem_singleton.mp hj
              exact ⟨hnd, l2, by omega, hmem⟩
          · exact ⟨sm2.trans sm3, _, _, _, _, _, zs, js, rfl, hjl3, hJ3, hjok, by omega⟩
      · obtain ⟨sm2, v9, v13, v14, v15, v16, zs, js, rfl, hjl, hJ, hjok, ljs⟩ := pv
        have eq5 : cutV [V.str nm, V.ref po, V.ref inn, V.ref plc, V.ref la', V.ref jo'] none (some 5) = [V.str nm, V.ref po, V.ref inn, V.ref plc, V.ref la'] := cut_to (L := 5) rfl
        refine ⟨_, rfl, _, rfl, pt', _, rfl,   .of (sm2 _ _ hpt'), by show ¬ (HT.sIx 6 0 none = 0 ∧ HT.sIx 6 6 (some 5) = 6); decide, fun p1 np1 => ?_⟩
        rw [eq5]
        refine ⟨_, rfl, by show 1 ≤ sizeLine; decide, fun p2 np2 => ?_⟩
        refine ⟨p1, p2, _, _, rfl, rfl, .of ((same_upd np2) _ _ upd_same), .of upd_same, (fun z => by cases z), by show 6 ≤ sizeLine; decide, (fun z => by cases z), fun _ p3 np3 => ?_⟩
        have s1 := (same_upd np1 (o := .tup [V.str nm, V.ref po, V.ref inn, V.ref plc, V.ref la'])).trans ((same_upd np2 (o := .tup [.ref jl])).trans (same_upd np3 (o := .tup [V.str nm, V.ref po, V.ref inn, V.ref plc, V.ref la', V.ref jl])))
        have n3 : H p3 = none := same_none ((smH.trans sm2).trans ((same_upd np1 (o := .tup [V.str nm, V.ref po, V.ref inn, V.ref plc, V.ref la'])).trans (same_upd np2 (o := .tup [.ref jl])))) np3
        refine q _ (.ref p3) s l aa bb pk ⟨nm, (pool s l).take aa, ((pool s l).drop 4).take bb, pk.map fun x => (x.1, x.2.nm), ls, js⟩ ((smH.trans sm2).trans s1) (fun H'' sg => ?_) ⟨hs, hl, by omega, by omega, rfl, rfl, rfl, hin, by rw [hnm, hlen], by omega, hV, by show js.length ≤ 3; omega, by rw [eTX]; exact hjok⟩ rfl
        have s1' := sm2.trans s1
        refine ⟨p3, po, inn, plc, la', jl, rfl, .of (sg _ _ n3 upd_same), sg _ _ npo' (s1' _ _ hpo'), sg _ _ ninn' (s1' _ _ hinn'), ⟨ys, sg _ _ nplc' (s1' _ _ hplc'), hB'.mono fun _ _ z => z H'' fun c o n _ h => sg c o n (s1' _ _ h)⟩, hL H'' fun c o n h => sg c o n (s1' _ _ h), ⟨zs, sg _ _ (same_none smH njl) (s1 _ _ hjl), hJ.mono fun _ _ z => z H'' fun c o n _ h => sg c o n (s1 _ _ h)⟩⟩
end
end K07
-- J07
namespace K07
open PySem PySem.Spec PyProof.Rows L2
section
variable {P : Program} {w : World} {K : PySem.W.Frag} {mg : Str → Option Value} {base : Heap}
/-! ### a book -/
theorem let12 : ∀ j : Fin 12, atI ("abcdefghijkl" : Str).cps.toList ((j.val : Nat) : Int) = some (97 + j.val) := by decide +kernel
/-- the name of the i-th part -/
def bn (s n i : Nat) : Str := (⟨#[97 + (i + s) % 12]⟩ : Str) ++ Txt.mul ("p" : Str) (n : Nat)
/-- a drawn book -/
structure VB (s n : Nat) (book : List Prt) : Prop where
  many : book.length ≤ 11
  hn : n < 9
  hs : s < 12
  nm : ∀ i p, book[i]? = some p → p.nm = bn s n i
  vp : ∀ i p, book[i]? = some p → ∃ s l a b pk, VP (book.take i) s l a b pk p
theorem vp_po {bef : List Prt} {s l a b : Nat} {pk : List (Str × Prt)} {p : Prt} (h : VP bef s l a b pk p) : p.po.length ≤ 3 ∧ ∀ y ∈ p.po, GS 12 y := by
  have := h.ha
  refine ⟨by rw [h.po, List.length_take]; omega, fun y hy => ?_⟩
  rw [h.po] at hy
  exact pool_gs h.hl y (List.mem_of_mem_take hy)
theorem at_snoc {α : Type} {xs : List α} {x y : α} {i : Nat} (h : (xs ++ [x])[i]? = some y) : xs[i]? = some y ∧ i < xs.length ∨ i = xs.length ∧ y = x := by
  rcases Nat.lt_trichotomy i xs.length with z | z | z
  · rw [List.getElem?_append_left z] at h
    exact .inl ⟨h, z⟩
  · subst z
    rw [List.getElem?_append_right (Nat.le_refl _), Nat.sub_self] at h
    exact .inr ⟨rfl, (Option.some.inj h).symm⟩
  · rw [List.getElem?_eq_none (by simp; omega)] at h
    cases h
def sp_law_book (K : PySem.W.Frag) : Sp := fun vs H Q _ => ∃ (a : Addr) (ds : List Int) (first most : Int), vs = [.ref a, .int first, .int most] ∧ IL H a ds ∧ 0 ≤ first ∧ 0 ≤ most ∧ most ≤ 11 ∧
  ∀ (H' : Hp) (bk : Addr) (book : List Prt) (s n : Nat), Same H H' → H bk = none → (∀ H'', (∀ c o, H c = none → H' c = some o → H'' c = some o) → BK K H'' bk book) → VB s n book → (book.length : Int) ≤ most → Q (.ref bk) H'
theorem ok_law_book (T : Txt K mg) : FnOk P w K mg base CX0 4 T.law_book.a T.law_book.fd ["draws", "first", "most"] (sp_law_book K) := by
  refine T.law_book.F.ok sc_law_book (fun vs H Q E h => ?_) (fun cdv A outer s H vs Q E hr h => ?_)
  · obtain ⟨a, ds, first, most, rfl, _⟩ := h
    rfl
  · obtain ⟨a, ds, first, most, rfl, ha, hf, hm, hm', q⟩ := h
    refine ⟨_, (pss_cons (ps_set (i := 3) sc_law_book.nd rfl (.inl rfl) (pe_lst pa_nil))
      (pss_cons (ps_for PassesOwn.never rfl (pi_range1 (by rfl) T.m_range (pa_cons (pe_call (ok_law_at T) (hr.mono (by decide)) (by rfl) T.law_at.g T.law_at.F.kp T.law_at.b .nil pass0 (pa_cons (pv 0) (pa_cons (pv 1) (pa_cons (pe_op op_add (pv 2) pe_int) pa_nil)))) pa_nil)) (pg_name (i := 4) sc_law_book.nd rfl (.inl rfl))
        (pss_cons (ps_set (i := 5) sc_law_book.nd rfl (.inl rfl) (pe_op op_add_str (pe_ix ix_str pe_str (pe_op op_mod (pe_callTy call_int1 (by rfl) T.m_int (by decide +kernel) (pa_cons (pe_op op_add (pv 4) (pe_call (ok_law_at T) (hr.mono (by decide)) (by rfl) T.law_at.g T.law_at.F.kp T.law_at.b .nil pass0 (pa_cons (pv 0) (pa_cons (pe_op op_add (pv 1) pe_int) (pa_cons pe_int pa_nil))))) pa_nil)) pe_int) (fun _ _ => rfl)) (pe_op op_mulS pe_str (pe_call (ok_law_at T) (hr.mono (by decide)) (by rfl) T.law_at.g T.law_at.F.kp T.law_at.b .nil pass0 (pa_cons (pv 0) (pa_cons (pe_op op_add (pv 1) pe_int) (pa_cons pe_int pa_nil)))))))
        (pss_one (ps_expr (pe_bm PySem.F.plainAttrs_list PySem.F.slot_list_append PySem.F.type_list_append mt_append (pv 3) (pa_cons (pe_call (ok_law_part T) (hr.mono (by decide)) (by rfl) T.law_part.g T.law_part.F.kp T.law_part.b .nil pass0 (pa_cons (pv 0) (pa_cons (pe_op op_add (pe_op op_add (pv 1) pe_int) (pe_op op_mul pe_int (pv 4))) (pa_cons (pv 5) (pa_cons (pv 3) pa_nil))))) pa_nil))))))
      (pss_one (ps_ret (pv 3))))), ?_⟩
    refine ⟨by show 0 ≤ sizeLine; decide, fun bk nbk => ?_⟩
    have t0 := same_upd nbk (o := .lst [])
    have d0 := la0 (ds := ds) (k := first) (many := most + 1) (by omega)
    have d1 := la1 (ds := ds) (k := first) (many := most + 1) (by omega)
    refine ⟨.ref a, rfl, _, rfl, _, rfl, _, _, rfl, rfl, a, ds, _, _, rfl, ha.same t0, by omega, by omega, _, rfl, by omega, by omega, ?_⟩
    obtain ⟨n, en⟩ : ∃ n : Nat, la ds first (most + 1) = (n : Int) := ⟨_, (Int.toNat_of_nonneg d0).symm⟩
    rw [en, Int.toNat_natCast]
    have e0 := la0 (ds := ds) (k := first + 1) (many := 12) (by decide)
    have e1 := la1 (ds := ds) (k := first + 1) (many := 12) (by decide)
    have f0 := la0 (ds := ds) (k := first + 1) (many := 9) (by decide)
    have f1 := la1 (ds := ds) (k := first + 1) (many := 9) (by decide)
    obtain ⟨bs, ebs⟩ : ∃ n : Nat, la ds (first + 1) 12 = (n : Int) := ⟨_, (Int.toNat_of_nonneg e0).symm⟩
    obtain ⟨bp, ebp⟩ : ∃ n : Nat, la ds (first + 1) 9 = (n : Int) := ⟨_, (Int.toNat_of_nonneg f0).symm⟩
    refine for_it (walk_range (lo := 0) (n := n)) (fun i σ G => Same H G ∧ ∃ (v4 v5 : Option V) (xs : List V) (book : List Prt), σ = [some (.ref a), some (.int first), some (.int most), some (.ref bk), v4, v5] ∧ G bk = some (.lst xs) ∧ A2 (NwS H bk (PT K) G) xs book ∧ book.length = i ∧ VB bs bp book)
      ⟨t0, none, none, [], [], rfl, upd_same, .nil, rfl, ⟨by decide, by omega, by omega, (fun i p h => by simp at h), (fun i p h => by simp at h)⟩⟩ (fun _ _ _ _ _ => trivial) (fun i x σ G Gx hi pv y => ?_) (fun σ G pv => ?_)
    · obtain ⟨sm, v4, v5, xs, book, rfl, hbk, hA, hlen, hV⟩ := pv
      obtain ⟨rfl, rfl⟩ := y
      refine ⟨_, rfl, .ref a, rfl, _, rfl, _, _, rfl, rfl, a, ds, _, 12, rfl, ha.same sm, by omega, by decide, _, _, rfl, rfl, .inl ⟨_, rfl, _, _, rfl, rfl, (by show (0 : Int) < _; decide), ?_⟩⟩
      have at1 := let12 ⟨(i + bs) % 12, Nat.mod_lt _ (by decide)⟩
      dsimp only at at1
      have ec : (0 + (i : Int) + la ds (first + 1) 12) % 12 = (((i + bs) % 12 : Nat) : Int) := by rw [ebs]; omega
      rw [← ec] at at1
      refine ⟨_, _, _, rfl, rfl, (by decide +kernel), at1, .ref a, rfl, _, rfl, _, _, rfl, rfl, a, ds, _, 9, rfl, ha.same sm, by omega, by decide, ?_⟩
      rw [ebp]
      have gp : GS 9 (Txt.mul ("p" : Str) ((bp : Nat) : Int)) := by
        have : ∀ n : Fin 9, GS 9 (Txt.mul ("p" : Str) ((n.val : Nat) : Int)) := by decide +kernel
        exact this ⟨bp, by omega⟩
      refine ⟨_, _, rfl, rfl, (by decide +kernel), by omega, by omega, _, _, rfl, rfl, small (by have := gp.1; show 1 + _ ≤ 60000; omega), ?_⟩
      have hbp : ∀ x ∈ book, x.po.length ≤ 3 ∧ ∀ y ∈ x.po, GS 12 y := fun x hx => by
        obtain ⟨j, hj, e⟩ := List.getElem_of_mem hx
        obtain ⟨s, l, a, b, pk, h⟩ := hV.vp j x (by rw [← e]; simp [hj])
        exact vp_po h
      refine ⟨.ref bk, rfl, .inl ⟨rfl, _, .of hbk⟩, .ref a, rfl, _, rfl, _, _, rfl, rfl, _, rfl, _, _, rfl, rfl, .inl ⟨by decide, by omega⟩, _, _, rfl, rfl, _, rfl, _, rfl, a, ds, _, _, bk, book, rfl, ha.same sm, by omega, ⟨xs, hbk, hA.mono fun _ _ z => z.at⟩, by omega, hbp, fun G2 v s l aa b pk p sm2 hN hP hnm => ?_⟩
      have hbk2 := sm2 _ _ hbk
      refine ⟨bk, _, _, rfl, rfl, hbk2, small' (by have := hA.len; omega), ?_⟩
      refine ⟨same_over (sm.trans sm2) nbk, _, _, xs ++ [v], book ++ [p], rfl, upd_same, A2.snoc (fun G4 sg => hN G4 fun c o nc hc => ?_) (NwS.all ((sx sm2).trans SameX.put) hA), by rw [List.length_append, hlen]; rfl, ⟨by rw [List.length_append]; show _ + 1 ≤ 11; omega, hV.hn, hV.hs, fun j p' hj => ?_, fun j p' hj => ?_⟩⟩
      · have nb : c ≠ bk := fun z => by rw [z, hbk] at nc; cases nc
        exact sg _ _ (same_none sm nc) nb (by rw [upd_ne nb]; exact hc)
      · rcases at_snoc hj with ⟨h, _⟩ | ⟨rfl, rfl⟩
        · exact hV.nm j p' h
        · rw [hnm, hlen]; rfl
      · rcases at_snoc hj with ⟨h, lj⟩ | ⟨rfl, rfl⟩
        · obtain ⟨s, l, a, b, pk, h⟩ := hV.vp j p' h
          exact ⟨s, l, a, b, pk, by rw [List.take_append_of_le_length (Nat.le_of_lt lj)]; exact h⟩
        · exact ⟨s, l, aa, b, pk, by rw [List.take_left]; exact hP⟩
    · obtain ⟨sm, v4, v5, xs, book, rfl, hbk, hA, hlen, hV⟩ := pv
      exact ⟨_, rfl, q G bk book bs bp sm nbk (fun H'' sg => ⟨xs, sg _ _ nbk hbk, hA.mono fun _ _ z => z H'' fun c o n _ h => sg c o n h⟩) hV (by omega)⟩
end
end K07
-- Z07
namespace K07Z
open PySem PySem.Spec PyProof.Rows L2 K07 TL
/-! ### any book: orders are any whole numbers -/
structure Trm where
  h : Hd
  k : Int
  q : Str
structure Lw where
  ex : Bool
  k : Int
  q : Str
  ts : List Trm
  src : Str
structure Prt where
  nm : Str
  po : List Str
  inn : List Str
  pl : List (Str × Str)
  ls : List Lw
  jo : List (List Str)
section
variable (K : PySem.W.Frag)
def TmV (H : Hp) (v : V) (t : Trm) : Prop := ∃ a, v = .ref a ∧ SqT K H a [vH t.h, .int t.k, .str t.q]
def TsL (H : Hp) (p : Addr) (ts : List Trm) : Prop := ∃ xs, H p = some (.lst xs) ∧ A2 (TmV K H) xs ts
def LW (H : Hp) (v : V) (l : Lw) : Prop := ∃ a p, v = .ref a ∧ TsL K H p l.ts ∧
  (l.ex = true ∧ SqT K H a [.str "exact", .ref p, .str l.src] ∨ l.ex = false ∧ SqT K H a [.str "sized", .int l.k, .str l.q, .ref p, .str l.src])
/-- p is the list of the law's terms -/
def LWp (H : Hp) (v : V) (l : Lw) (p : Addr) : Prop := ∃ a, v = .ref a ∧
  (l.ex = true ∧ SqT K H a [.str "exact", .ref p, .str l.src] ∨ l.ex = false ∧ SqT K H a [.str "sized", .int l.k, .str l.q, .ref p, .str l.src])
def LsL (H : Hp) (p : Addr) (ls : List Lw) : Prop := ∃ xs, H p = some (.lst xs) ∧ A2 (LW K H) xs ls
def PT (H : Hp) (v : V) (p : Prt) : Prop := ∃ a po inn pl la jo, v = .ref a ∧ SqT K H a [.str p.nm, .ref po, .ref inn, .ref pl, .ref la, .ref jo] ∧
  SL H po p.po ∧ SL H inn p.inn ∧ PlL K H pl p.pl ∧ LsL K H la p.ls ∧ JoL H jo p.jo
def BK (H : Hp) (b : Addr) (bk : List Prt) : Prop := ∃ xs, H b = some (.lst xs) ∧ A2 (PT K H) xs bk
end
/-- a list of places of a law, new tuples -/
def PT5 (H : Hp) (v : V) (p : Int × Str) : Prop := ∃ a, v = .ref a ∧ H a = some (.tup [.int p.1, .str p.2])
def PL5 (H : Hp) (a : Addr) (ps : List (Int × Str)) : Prop := ∃ xs, H a = some (.lst xs) ∧ A2 (PT5 H) xs ps
section
variable {K : PySem.W.Frag} {H H' H2 : Hp} {Ps : List Addr}
theorem TmV.lk (s : Lk H H') {v : V} {t : Trm} (h : TmV K H v t) : TmV K H' v t := let ⟨a, e, q⟩ := h; ⟨a, e, s.seqT q⟩
theorem TsL.lk (s : Lk H H') {p : Addr} {ts : List Trm} (h : TsL K H p ts) : TsL K H' p ts := let ⟨xs, q, r⟩ := h; ⟨xs, s.lst q, r.mono fun _ _ z => z.lk s⟩
theorem LW.lk (s : Lk H H') {v : V} {l : Lw} (h : LW K H v l) : LW K H' v l := by
  obtain ⟨a, p, e, q, r⟩ := h
  exact ⟨a, p, e, q.lk s, r.imp (fun z => ⟨z.1, s.seqT z.2⟩) fun z => ⟨z.1, s.seqT z.2⟩⟩
theorem LWp.lk (s : Lk H H') {v : V} {l : Lw} {p : Addr} (h : LWp K H v l p) : LWp K H' v l p := let ⟨a, e, r⟩ := h; ⟨a, e, r.imp (fun z => ⟨z.1, s.seqT z.2⟩) fun z => ⟨z.1, s.seqT z.2⟩⟩
theorem LW.p {v : V} {l : Lw} (h : LW K H v l) : ∃ p, LWp K H v l p ∧ TsL K H p l.ts := let ⟨a, p, e, q, r⟩ := h; ⟨p, ⟨a, e, r⟩, q⟩
theorem LsL.lk (s : Lk H H') {p : Addr} {ls : List Lw} (h : LsL K H p ls) : LsL K H' p ls := let ⟨xs, q, r⟩ := h; ⟨xs, s.lst q, r.mono fun _ _ z => z.lk s⟩
theorem SL.lk (s : Lk H H') {a : Addr} {ss : List Str} (h : SL H a ss) : SL H' a ss := s.lst h
theorem PlV.lk (s : Lk H H') {v : V} {p : Str × Str} (h : PlV K H v p) : PlV K H' v p := let ⟨a, e, q⟩ := h; ⟨a, e, s.seqT q⟩
theorem PlL.lk (s : Lk H H') {p : Addr} {ps : List (Str × Str)} (h : PlL K H p ps) : PlL K H' p ps := let ⟨xs, q, r⟩ := h; ⟨xs, s.lst q, r.mono fun _ _ z => PlV.lk s z⟩
theorem JoV.lk (s : Lk H H') {v : V} {j : List Str} (h : JoV H v j) : JoV H' v j := let ⟨a, e, q⟩ := h; ⟨a, e, SL.lk s q⟩
theorem JoL.lk (s : Lk H H') {p : Addr} {js : List (List Str)} (h : JoL H p js) : JoL H' p js := let ⟨xs, q, r⟩ := h; ⟨xs, s.lst q, r.mono fun _ _ z => JoV.lk s z⟩
theorem PT.lk (s : Lk H H') {v : V} {p : Prt} (h : PT K H v p) : PT K H' v p := by
  obtain ⟨a, po, inn, pl, la, jo, e, h0, h1, h2, h3, h4, h5⟩ := h
  exact ⟨a, po, inn, pl, la, jo, e, s.seqT h0, SL.lk s h1, SL.lk s h2, PlL.lk s h3, h4.lk s, JoL.lk s h5⟩
theorem BK.lk (s : Lk H H') {b : Addr} {bk : List Prt} (h : BK K H b bk) : BK K H' b bk := let ⟨xs, q, r⟩ := h; ⟨xs, s.lst q, r.mono fun _ _ z => z.lk s⟩
theorem PT5.lk (s : Lk H H') {v : V} {p : Int × Str} (h : PT5 H v p) : PT5 H' v p := let ⟨a, e, q⟩ := h; ⟨a, e, s.tup q⟩
theorem PL5.lk (s : Lk H H') {a : Addr} {ps : List (Int × Str)} (h : PL5 H a ps) : PL5 H' a ps := let ⟨xs, q, r⟩ := h; ⟨xs, s.lst q, r.mono fun _ _ z => z.lk s⟩
theorem TmV.same (s : Same H H') {v : V} {t : Trm} (h : TmV K H v t) : TmV K H' v t := h.lk (lk_of s)
theorem TsL.same (s : Same H H') {p : Addr} {ts : List Trm} (h : TsL K H p ts) : TsL K H' p ts := h.lk (lk_of s)
theorem LW.same (s : Same H H') {v : V} {l : Lw} (h : LW K H v l) : LW K H' v l := h.lk (lk_of s)
theorem LWp.same (s : Same H H') {v : V} {l : Lw} {p : Addr} (h : LWp K H v l p) : LWp K H' v l p := h.lk (lk_of s)
theorem LsL.same (s : Same H H') {p : Addr} {ls : List Lw} (h : LsL K H p ls) : LsL K H' p ls := h.lk (lk_of s)
theorem PT.same (s : Same H H') {v : V} {p : Prt} (h : PT K H v p) : PT K H' v p := h.lk (lk_of s)
theorem BK.same (s : Same H H') {b : Addr} {bk : List Prt} (h : BK K H b bk) : BK K H' b bk := h.lk (lk_of s)
end
/-- the places of a law -/
def Lw.places (l : Lw) : List (Int × Str) := if l.ex then l.ts.map fun t => (t.k, t.q) else (l.k, l.q) :: l.ts.map fun t => (t.k, t.q)
/-- the sizes of a sized law -/
def Lw.heads (l : Lw) : List Str := if l.ex then [] else l.ts.map fun t => hS t.h
/-- at most n signs, all of them plain -/
def GS (n : Nat) (s : Str) : Prop := s.length ≤ n ∧ ∀ c ∈ s.cps.toList, c < 200
/-- any law of bounded numbers and texts -/
structure BL (l : Lw) : Prop where
  ts : ∀ t ∈ l.ts, t.k.natAbs < 10 ^ 8 ∧ GS 60 t.q
  own : l.k.natAbs < 10 ^ 8 ∧ GS 60 l.q
  num : l.ex = true → ∀ t ∈ l.ts, ∃ n : Int, t.h = .inl n ∧ n.natAbs < 10 ^ 8
  nam : l.ex = false → ∀ t ∈ l.ts, ∃ s : Str, t.h = .inr s ∧ GS 60 s
  src : GS 60 l.src
  many : l.ts.length ≤ 8
/-- any part so -/
structure BP (p : Prt) : Prop where
  nm : GS 60 p.nm
  po : p.po.length ≤ 64 ∧ ∀ x ∈ p.po, GS 60 x
  inn : p.inn.length ≤ 64 ∧ ∀ x ∈ p.inn, GS 60 x
  pl : p.pl.length ≤ 64 ∧ ∀ x ∈ p.pl, GS 60 x.1 ∧ GS 60 x.2
  ls : p.ls.length ≤ 64 ∧ ∀ l ∈ p.ls, BL l
  jo : p.jo.length ≤ 64 ∧ ∀ j ∈ p.jo, j.length ≤ 64 ∧ ∀ x ∈ j, GS 60 x
def BB (bk : List Prt) : Prop := bk.length ≤ 16 ∧ ∀ p ∈ bk, BP p
end K07Z
-- C07
namespace K07Z
open PySem PySem.Spec PyProof.Rows L2 K07 TL
section
variable {P : Program} {w : World} {K : PySem.W.Frag} {mg : Str → Option Value} {base : Heap}
theorem ex_eq {l : Lw} {H : Hp} {v : V} (h : LW K H v l) : ∃ a xs, v = .ref a ∧ SqT K H a xs ∧ atI xs 0 = some (.str (if l.ex then "exact" else "sized")) := by
  obtain ⟨a, p, e, _, ⟨z, h⟩ | ⟨z, h⟩⟩ := h
  · exact ⟨a, _, e, h, by rw [z]; rfl⟩
  · exact ⟨a, _, e, h, by rw [z]; rfl⟩
theorem str_ex (b : Bool) : decide (V.str (if b then "exact" else "sized") = V.str "exact") = b := by
  cases b <;> decide +kernel
def sp_is_exact (K : PySem.W.Frag) : Sp := fun vs H Q _ => ∃ (v : V) (l : Lw), vs = [v] ∧ LW K H v l ∧ Q (.bl l.ex) H
theorem ok_is_exact (T : Txt K mg) : FnOk P w K mg base CX0 1 T.is_exact.a T.is_exact.fd ["told"] (sp_is_exact K) := by
  refine T.is_exact.F.ok sc_is_exact (fun vs H Q E h => ?_) (fun cdv A outer s H vs Q E hr h => ?_)
  · obtain ⟨v, l, rfl, _⟩ := h
    rfl
  · obtain ⟨v, l, rfl, hl, q⟩ := h
    refine ⟨_, (pss_one (ps_ret (pe_cmpR op_eq (pe_ix ix_tup (pv 0) pe_int (fun _ _ => rfl)) pe_str (nomark _)))), ?_⟩
    obtain ⟨a, xs, rfl, ht, h0⟩ := ex_eq hl
    refine ⟨_, rfl, a, xs, _, _, rfl, rfl, ht, h0, rfl, ?_⟩
    rw [str_ex]
    exact q
def sp_terms_of (K : PySem.W.Frag) : Sp := fun vs H Q _ => ∃ (v : V) (l : Lw) (p : Addr), vs = [v] ∧ LW K H v l ∧ LWp K H v l p ∧ Q (.ref p) H
theorem ok_terms_of (T : Txt K mg) : FnOk P w K mg base CX0 2 T.terms_of.a T.terms_of.fd ["told"] (sp_terms_of K) := by
  refine T.terms_of.F.ok sc_terms_of (fun vs H Q E h => ?_) (fun cdv A outer s H vs Q E hr h => ?_)
  · obtain ⟨v, l, p, rfl, _⟩ := h
    rfl
  · obtain ⟨v, l, p, rfl, hl, hp, q⟩ := h
    refine ⟨_, (pss_one (ps_ret (pe_ifExp (pt_val (pe_call (ok_is_exact T) (hr.mono (by decide)) (by rfl) T.is_exact.g T.is_exact.F.kp T.is_exact.b .nil pass0 (pa_cons (pv 0) pa_nil))) (pe_ix ix_tup (pv 0) pe_int (fun _ _ => rfl)) (pe_ix ix_tup (pv 0) pe_int (fun _ _ => rfl))))), ?_⟩
    refine ⟨v, rfl, v, l, rfl, hl, _, rfl, ?_⟩
    obtain ⟨a, rfl, ⟨z, h⟩ | ⟨z, h⟩⟩ := hp
    · rw [z]
      exact iteT ⟨_, rfl, a, _, _, _, rfl, rfl, h, rfl, q⟩
    · rw [z]
      exact iteF ⟨_, rfl, a, _, _, _, rfl, rfl, h, rfl, q⟩
theorem src_at {l : Lw} {H : Hp} {v : V} (h : LW K H v l) : ∃ a xs, v = .ref a ∧ SqT K H a xs ∧ atI xs (-1) = some (.str l.src) := by
  obtain ⟨a, p, e, _, ⟨z, h⟩ | ⟨z, h⟩⟩ := h
  · exact ⟨a, _, e, h, rfl⟩
  · exact ⟨a, _, e, h, rfl⟩
def sp_source_of (K : PySem.W.Frag) : Sp := fun vs H Q _ => ∃ (v : V) (l : Lw), vs = [v] ∧ LW K H v l ∧ Q (.str l.src) H
theorem ok_source_of (T : Txt K mg) : FnOk P w K mg base CX0 1 T.source_of.a T.source_of.fd ["told"] (sp_source_of K) := by
  refine T.source_of.F.ok sc_source_of (fun vs H Q E h => ?_) (fun cdv A outer s H vs Q E hr h => ?_)
  · obtain ⟨v, l, rfl, _⟩ := h
    rfl
  · obtain ⟨v, l, rfl, hl, q⟩ := h
    refine ⟨_, (pss_one (ps_ret (pe_ix ix_tup (pv 0) (pe_un un_neg pe_int) (fun _ _ => rfl)))), ?_⟩
    obtain ⟨a, xs, rfl, ht, h0⟩ := src_at hl
    exact ⟨_, rfl, _, rfl, a, xs, _, _, rfl, rfl, ht, h0, q⟩
def sp_sizes_in (K : PySem.W.Frag) : Sp := fun vs H Q _ => ∃ (v : V) (l : Lw), vs = [v] ∧ LW K H v l ∧ BL l ∧ ∀ H' p, Same H H' → H p = none → H' p = some (.lst (l.heads.map V.str)) → Q (.ref p) H'
theorem fm_id {α β : Type} (f : α → β) (xs : List α) : xs.filterMap (fun x => some (f x)) = xs.map f := by rw [List.filterMap_eq_map']
theorem a2_eq {α β : Type} {f : β → α} : ∀ {xs : List α} {ys : List β}, A2 (fun x y => x = f y) xs ys → xs = ys.map f
  | _, _, .nil => rfl
  | _, _, .cons h t => by rw [List.map_cons, h, a2_eq t]
theorem ok_sizes_in (T : Txt K mg) : FnOk P w K mg base CX0 2 T.sizes_in.a T.sizes_in.fd ["told"] (sp_sizes_in K) := by
  refine T.sizes_in.F.ok sc_sizes_in (fun vs H Q E h => ?_) (fun cdv A outer s H vs Q E hr h => ?_)
  · obtain ⟨v, l, rfl, _⟩ := h
    rfl
  · obtain ⟨v, l, rfl, hl, hn, q⟩ := h
    have hbl := hn
    have hn : l.ts.length ≤ 1000 := by have := hbl.many; omega
    refine ⟨_, (pss_one (ps_ret (pe_ifExp (pt_val (pe_call (ok_is_exact T) (hr.mono (by decide)) (by rfl) T.is_exact.g T.is_exact.F.kp T.is_exact.b .nil pass0 (pa_cons (pv 0) pa_nil))) (pe_lst pa_nil) (pe_lc (own := [("size", 1), ("_", 2), ("_", 2)]) (g := gTup K 3 (gCons (gName 1) (gCons (gName 2) (gCons (gName 2) gNil)))) rfl sc_sizes_in.nd (pi_list (pe_ix ix_tup (pv 0) pe_int (fun _ _ => rfl))) (blkOk_by (N := ["told", "size", "_"]) (sc := defScope s_sizes_in) (by decide +kernel)) (fun _ _ _ _ _ => (pg_tup rfl (pgs_cons (pg_name (i := 1) sc_sizes_in.nd rfl (.inl rfl)) (pgs_cons (pg_name (i := 2) sc_sizes_in.nd rfl (.inl rfl)) (pgs_cons (pg_name (i := 2) sc_sizes_in.nd rfl (.inl rfl)) pgs_nil))))) (fun _ _ _ _ _ => pts_nil) (fun _ _ _ _ _ => (pv 1)))))), ?_⟩
    refine ⟨v, rfl, v, l, rfl, hl, _, rfl, ?_⟩
    obtain ⟨a, p, rfl, ⟨xs, hx0, hr2⟩, ht⟩ := hl
    have hx : SqL K H p xs := .of hx0
    rcases ht with ⟨z, h⟩ | ⟨z, h⟩
    · rw [z]
      refine iteT ⟨by show 0 ≤ sizeLine; decide, fun p hp => ?_⟩
      exact q _ p (same_upd hp) hp (by rw [upd_same]; unfold Lw.heads; rw [z]; rfl)
    · rw [z]
      refine iteF ⟨_, rfl, a, _, _, _, rfl, rfl, h, rfl, p, rfl, ⟨xs, hx⟩, fun D nD => ?_⟩
      refine lc_fm (walk_list (xs := xs)) l.ts (fun t => some t.h) (fun _ v b => v = vH b) (fun _ _ _ _ _ z => z) hr2.len.symm nD (fun H' s => s.seq hx) (small' (by have := hr2.len; omega)) (fun i x H' Hx ys t ht sm hD y Qt Qf qt qf => ?_) (fun H' ys sm hD hR => ?_)
      · obtain ⟨rfl, hx⟩ := y
        obtain ⟨t', ht', r⟩ := hr2.get hx
        obtain rfl := Option.some.inj (ht.symm.trans ht')
        obtain ⟨b, rfl, rb⟩ := r.same sm
        exact ⟨b, _, rfl, rb, rfl, _, _, rfl, _, _, rfl, _, _, rfl, rfl, rfl, _, rfl, qt _ _ _ rfl (Same.refl _) rfl⟩
      · refine q H' D sm nD ?_
        rw [hD, a2_eq hR]
        unfold Lw.heads
        rw [z, fm_id, List.map_map, if_neg (by decide), List.map_map]
        exact congrArg (fun x => some (HO.lst x)) (List.map_congr_left fun t ht => by
          obtain ⟨s, e, _⟩ := hbl.nam z t ht
          show vH t.h = V.str (hS t.h)
          rw [e]; rfl)
def sp_places_of (K : PySem.W.Frag) : Sp := fun vs H Q _ => ∃ (v : V) (l : Lw), vs = [v] ∧ LW K H v l ∧ l.ts.length ≤ 1000 ∧ ∀ H' p, Same H H' → H p = none → PL5 H' p l.places → Q (.ref p) H'
/-- a place, not the list D itself -/
def PX5 (D : Addr) (H : Hp) (v : V) (p : Int × Str) : Prop := ∃ a, v = .ref a ∧ a ≠ D ∧ H a = some (.tup [.int p.1, .str p.2])
theorem PX5.mono {D : Addr} (H H' : Hp) (v : V) (b : Int × Str) (s : SameX D H H') (h : PX5 D H v b) : PX5 D H' v b := let ⟨a, e, n, q⟩ := h; ⟨a, e, n, s _ _ n q⟩
theorem PX5.pt {D : Addr} {H : Hp} {v : V} {b : Int × Str} (h : PX5 D H v b) : PT5 H v b := let ⟨a, e, _, q⟩ := h; ⟨a, e, q⟩
theorem PT5.same {H H' : Hp} {v : V} {b : Int × Str} (s : Same H H') (h : PT5 H v b) : PT5 H' v b := h.lk (lk_of s)
theorem ok_places_of (T : Txt K mg) : FnOk P w K mg base CX0 3 T.places_of.a T.places_of.fd ["told"] (sp_places_of K) := by
  refine T.places_of.F.ok sc_places_of (fun vs H Q E h => ?_) (fun cdv A outer s H vs Q E hr h => ?_)
  · obtain ⟨v, l, rfl, _⟩ := h
    rfl
  · obtain ⟨v, l, rfl, hl, hn, q⟩ := h
    refine ⟨_, (pss_cons (ps_setLc (i := 1) (own := [("_", 2), ("k", 3), ("j", 4)]) (g := gTup K 3 (gCons (gName 2) (gCons (gName 3) (gCons (gName 4) gNil)))) rfl sc_places_of.nd rfl rfl (sw_true rfl rfl rfl (by decide +kernel)) (pi_list (pe_call (ok_terms_of T) (hr.mono (by decide)) (by rfl) T.terms_of.g T.terms_of.F.kp T.terms_of.b .nil pass0 (pa_cons (pv 0) pa_nil))) (blkOk_by (N := ["told", "places", "_", "k", "j"]) (sc := defScope s_places_of) (by decide +kernel)) (fun _ _ _ _ _ => (pg_tup rfl (pgs_cons (pg_name (i := 2) sc_places_of.nd rfl (.inl rfl)) (pgs_cons (pg_name (i := 3) sc_places_of.nd rfl (.inl rfl)) (pgs_cons (pg_name (i := 4) sc_places_of.nd rfl (.inl rfl)) pgs_nil))))) (fun _ _ _ _ _ => pts_nil) (fun _ _ _ _ _ => (pe_tup (pa_cons (pv 3) (pa_cons (pv 4) pa_nil)))))
      (pss_one (ps_ret (pe_ifExp (pt_val (pe_call (ok_is_exact T) (hr.mono (by decide)) (by rfl) T.is_exact.g T.is_exact.F.kp T.is_exact.b .nil pass0 (pa_cons (pv 0) pa_nil))) (pv 1) (pe_op op_cat (pe_lst (pa_cons (pe_tup (pa_cons (pe_ix ix_tup (pv 0) pe_int (fun _ _ => rfl)) (pa_cons (pe_ix ix_tup (pv 0) pe_int (fun _ _ => rfl)) pa_nil))) pa_nil)) (pv 1)))))), ?_⟩
    obtain ⟨p, hlp, xs, hx0, hr2⟩ := hl.p
    have hx : SqL K H p xs := .of hx0
    refine ⟨v, rfl, v, l, p, rfl, hl, hlp, ?_⟩
    refine ⟨p, rfl, ⟨xs, hx⟩, fun D nD => ?_⟩
    refine lc_fm (walk_list (xs := xs)) l.ts (fun t => some (t.k, t.q)) (PX5 D) PX5.mono hr2.len.symm nD (fun H' s => s.seq hx) (small' (by have := hr2.len; omega)) (fun i x H' Hx ys t ht sm hD y Qt Qf qt qf => ?_) (fun H' ys sm hD hR => ?_)
    · obtain ⟨rfl, hx⟩ := y
      obtain ⟨t', ht', r⟩ := hr2.get hx
      obtain rfl := Option.some.inj (ht.symm.trans ht')
      obtain ⟨b, rfl, rb⟩ := r.same sm
      refine ⟨b, _, rfl, rb, rfl, _, _, rfl, _, _, rfl, _, _, rfl, rfl, rfl, _, rfl, _, rfl, by show 2 ≤ sizeLine; decide, fun c hc => ?_⟩
      exact qt _ _ _ rfl (same_upd hc) ⟨c, rfl, (fun z => by rw [z, hD] at hc; cases hc), upd_same⟩
    · rw [fm_id] at hR
      refine ⟨v, rfl, v, l, rfl, hl.same sm, _, rfl, ?_⟩
      obtain ⟨a, p2, rfl, hp, ⟨z, h⟩ | ⟨z, h⟩⟩ := hl
      · rw [z]
        refine iteT ⟨_, rfl, q H' D sm nD ⟨ys, hD, ?_⟩⟩
        unfold Lw.places
        rw [z]
        exact hR.mono fun _ _ => PX5.pt
      · rw [z]
        refine iteF ?_
        have h := Same.seqT sm h
        refine ⟨_, rfl, a, _, _, _, rfl, rfl, h, rfl, _, rfl, a, _, _, _, rfl, rfl, h, rfl, by show 2 ≤ sizeLine; decide, fun t nt => ?_⟩
        refine ⟨by show 1 ≤ sizeLine; decide, fun u nu => ?_⟩
        have hDu : D ≠ u := fun z => by rw [← z, upd_ne (fun y => by rw [← y, hD] at nt; cases nt), hD] at nu; cases nu
        have hD2 : upd (upd H' t (.tup [.int l.k, .str l.q])) u (.lst [V.ref t]) D = some (.lst ys) := by
          rw [upd_ne hDu, upd_ne (fun y => by rw [← y, hD] at nt; cases nt)]; exact hD
        refine ⟨_, rfl, u, D, _, _, rfl, rfl, upd_same, hD2, ?_, fun r nr => ?_⟩
        · have := hR.len
          simp at this
          exact small (by simp; omega)
        · have s1 : Same H' (upd (upd H' t (.tup [.int l.k, .str l.q])) u (.lst [V.ref t])) := (same_upd nt).trans (same_upd nu)
          refine q _ r (sm.trans (s1.trans (same_upd nr))) ((sm.trans s1).free nr) ⟨_, upd_same, ?_⟩
          unfold Lw.places
          rw [z]
          refine .cons ⟨t, rfl, ?_⟩ (hR.mono fun _ _ z => (PX5.pt z).same (s1.trans (same_upd nr)))
          exact same_upd nr _ _ (same_upd nu _ _ upd_same)
end
end K07Z
-- H07
namespace K07Z
open PySem PySem.Spec PyProof.Rows L2 K07 TL
/-! ### data and their texts -/
/-- may be shown and compared; a text of at most n signs -/
structure Gd (k n : Nat) (d : PyData) : Prop where
  sh : d.showable = true
  lay : d.canLay0 = true
  dep : d.depth ≤ k
  len : d.shown.length ≤ n
def tot (ts : List Str) : Nat := (ts.map fun t => t.length + 2).sum
theorem textFrom_tot : ∀ (ts : List Str) (k : Nat) (acc : Str), (textFrom k acc ts).length ≤ acc.length + tot ts
  | [], k, acc => Nat.le_add_right _ _
  | t :: r, k, acc => by
    have h := textFrom_tot r (k + 1) (acc ++ (if k > 0 then ", " else "" : String) ++ t)
    rw [Str.length_append, Str.length_append] at h
    have e : ((if k > 0 then ", " else "" : String) : Str).length ≤ 2 := by split <;> decide +kernel
    show (textFrom (k + 1) (acc ++ (if k > 0 then ", " else "" : String) ++ t) r).length ≤ _
    have e2 : tot (t :: r) = t.length + 2 + tot r := by unfold tot; rw [List.map_cons, List.sum_cons]
    omega
theorem join_tot : ∀ ts : List Str, (Str.join ", " ts).length ≤ tot ts
  | [] => Nat.zero_le _
  | [x] => by show x.length ≤ _; unfold tot; simp
  | x :: y :: r => by
    have h := join_tot (y :: r)
    show (x ++ ", " ++ Str.join ", " (y :: r)).length ≤ _
    rw [Str.length_append, Str.length_append]
    have e2 : tot (x :: y :: r) = x.length + 2 + tot (y :: r) := by unfold tot; rw [List.map_cons, List.sum_cons]
    have e3 : ((", " : String) : Str).length = 2 := rfl
    omega
/-- all of them, with all their texts together -/
inductive GdAll (k : Nat) : Nat → List PyData → Prop
  | nil : GdAll k 0 []
  | cons {n m : Nat} {d : PyData} {ds : List PyData} : Gd k n d → GdAll k m ds → GdAll k (n + 2 + m) (d :: ds)
theorem GdAll.facts {k : Nat} : ∀ {n : Nat} {ds : List PyData}, GdAll k n ds → PyData.showableAll ds = true ∧ PyData.canLayAll0 ds = true ∧ PyData.depthAll ds ≤ k ∧ tot (PyData.shownAll ds) ≤ n
  | _, _, .nil => ⟨rfl, rfl, Nat.zero_le _, Nat.le_refl _⟩
  | _, _, .cons (d := d) (ds := ds) h t => by
    obtain ⟨h1, h2, h3, h4⟩ := t.facts
    refine ⟨?_, ?_, ?_, ?_⟩
    · show (PyData.showable d && PyData.showableAll ds) = true
      rw [h.sh, h1]; rfl
    · show (PyData.canLay0 d && PyData.canLayAll0 ds) = true
      rw [h.lay, h2]; rfl
    · show max (PyData.depth d) (PyData.depthAll ds) ≤ k
      exact Nat.max_le.mpr ⟨h.dep, h3⟩
    · show tot (PyData.shown d :: PyData.shownAll ds) ≤ _
      unfold tot at h4 ⊢
      rw [List.map_cons, List.sum_cons]
      have := h.len
      omega
theorem GdAll.map {α : Type} {k n : Nat} {f : α → PyData} : ∀ {xs : List α}, (∀ x ∈ xs, Gd k n (f x)) → GdAll k (xs.length * (n + 2)) (xs.map f)
  | [], _ => by rw [List.length_nil, Nat.zero_mul]; exact .nil
  | x :: r, h => by
    rw [List.length_cons, Nat.succ_mul, Nat.add_comm]
    exact .cons (h x List.mem_cons_self) (GdAll.map fun y hy => h y (List.mem_cons_of_mem _ hy))
theorem Gd.list {k n : Nat} {ds : List PyData} (h : GdAll k n ds) : Gd (k + 1) (n + 2) (.list ds) := by
  obtain ⟨h1, h2, h3, h4⟩ := h.facts
  refine ⟨h1, h2, Nat.succ_le_succ h3, ?_⟩
  show (listText (PyData.shownAll ds)).length ≤ _
  unfold listText
  rw [Str.length_append]
  have := textFrom_tot (PyData.shownAll ds) 0 "["
  have e1 : (("[" : String) : Str).length = 1 := rfl
  have e2 : (("]" : String) : Str).length = 1 := rfl
  omega
theorem Gd.tup {k n : Nat} {ds : List PyData} (h : GdAll k n ds) : Gd (k + 1) (n + 3) (.tuple ds) := by
  obtain ⟨h1, h2, h3, h4⟩ := h.facts
  refine ⟨h1, h2, Nat.succ_le_succ h3, ?_⟩
  show (tupleText (PyData.shownAll ds)).length ≤ _
  unfold tupleText
  rw [Str.length_append, Str.length_append]
  have := join_tot (PyData.shownAll ds)
  have e1 : (("(" : String) : Str).length = 1 := rfl
  have e2 : ((if (PyData.shownAll ds).length == 1 then ",)" else ")" : String) : Str).length ≤ 2 := by split <;> decide +kernel
  omega
theorem Gd.mono {k l n m : Nat} {d : PyData} (h : Gd k n d) (a : k ≤ l) (b : n ≤ m) : Gd l m d := ⟨h.sh, h.lay, Nat.le_trans h.dep a, Nat.le_trans h.len b⟩
theorem Gd.int {i : Int} (h : i.natAbs < 10 ^ 8) : Gd 0 9 (.int i) := by
  refine ⟨decide_eq_true (log_small (by omega)), rfl, Nat.le_refl _, ?_⟩
  show (Str.ofString (toString i)).length ≤ 9
  rw [PySem.ofString_length]
  exact int_text_length_le10 (k := 8) (by decide) h
theorem str_ok {n : Nat} {s : Str} (h : GS n s) : (PyData.str s).canLay0 = true := by
  show s.cps.all (· < 0x110000) = true
  rw [← Array.all_toList, List.all_eq_true]
  exact fun c hc => decide_eq_true (Nat.lt_trans (h.2 c hc) (by decide))
theorem Gd.str {n : Nat} {s : Str} (h : GS n s) : Gd 0 (10 * n + 2) (.str s) := by
  refine ⟨rfl, str_ok h, Nat.le_refl _, ?_⟩
  refine Nat.le_trans (StrLaws.reprText_len s fun c hc => Nat.lt_trans (h.2 c hc) (by decide)) ?_
  have := h.1
  omega
def dTm (t : Trm) : PyData := .tuple [dH t.h, .int t.k, .str t.q]
def dLw (l : Lw) : PyData := if l.ex then .tuple [.str "exact", .list (l.ts.map dTm), .str l.src] else .tuple [.str "sized", .int l.k, .str l.q, .list (l.ts.map dTm), .str l.src]
def dSs (ss : List Str) : PyData := .list (ss.map PyData.str)
def dPl (p : Str × Str) : PyData := .tuple [.str p.1, .str p.2]
def dPt (p : Prt) : PyData := .tuple [.str p.nm, dSs p.po, dSs p.inn, .list (p.pl.map dPl), .list (p.ls.map dLw), .list (p.jo.map dSs)]
def dBk (bk : List Prt) : PyData := .list (bk.map dPt)
theorem gd_s {s : Str} (h : GS 60 s) : Gd 0 602 (.str s) := Gd.str h
theorem gd_ex : Gd 0 602 (.str "exact") := gd_s ⟨by decide +kernel, by decide +kernel⟩
theorem gd_sz : Gd 0 602 (.str "sized") := gd_s ⟨by decide +kernel, by decide +kernel⟩
theorem gd_tms {l : Lw} (h : BL l) : Gd 2 10000 (.list (l.ts.map dTm)) := by
  have hh : ∀ t ∈ l.ts, Gd 1 1230 (dTm t) := fun t ht => by
    obtain ⟨a, b⟩ := h.ts t ht
    have hd : Gd 0 602 (dH t.h) := by
      cases e : l.ex with
      | true =>
        obtain ⟨n, e2, b⟩ := h.num e t ht
        rw [e2]
        exact (Gd.int b).mono (Nat.le_refl _) (by decide)
      | false =>
        obtain ⟨s, e2, b⟩ := h.nam e t ht
        rw [e2]
        exact gd_s b
    exact (Gd.tup (.cons hd (.cons (Gd.int a) (.cons (gd_s b) .nil)))).mono (Nat.le_refl _) (by decide)
  exact (Gd.list (GdAll.map hh)).mono (Nat.le_refl _) (by have := h.many; show l.ts.length * 1232 + 2 ≤ 10000; omega)
theorem gd_lw {l : Lw} (h : BL l) : Gd 3 12000 (dLw l) := by
  have hl := gd_tms h
  have up : ∀ {n : Nat} {d : PyData}, Gd 0 n d → Gd 2 n d := fun h => h.mono (by decide) (Nat.le_refl _)
  unfold dLw
  cases e : l.ex with
  | true => exact (Gd.tup (.cons (up gd_ex) (.cons hl (.cons (up (gd_s h.src)) .nil)))).mono (Nat.le_refl _) (by decide)
  | false => exact (Gd.tup (.cons (up gd_sz) (.cons (up (Gd.int h.own.1)) (.cons (up (gd_s h.own.2)) (.cons hl (.cons (up (gd_s h.src)) .nil)))))).mono (Nat.le_refl _) (by decide)
theorem gd_ss {ss : List Str} (n : ss.length ≤ 64) (h : ∀ x ∈ ss, GS 60 x) : Gd 1 39000 (dSs ss) := (Gd.list (GdAll.map (n := 602) fun x hx => gd_s (h x hx))).mono (Nat.le_refl _) (by omega)
theorem gd_pt {p : Prt} (h : BP p) : Gd 5 3700000 (dPt p) := by
  have h1 := (gd_ss h.po.1 h.po.2).mono (l := 4) (by decide) (Nat.le_refl _)
  have h2 := (gd_ss h.inn.1 h.inn.2).mono (l := 4) (by decide) (Nat.le_refl _)
  have h3 : Gd 4 79000 (.list (p.pl.map dPl)) := (Gd.list (GdAll.map (n := 1212) fun x hx => (Gd.tup (.cons (gd_s (h.pl.2 x hx).1) (.cons (gd_s (h.pl.2 x hx).2) .nil))).mono (Nat.le_refl _) (by decide))).mono (by decide) (by have := h.pl.1; omega)
  have h4 : Gd 4 800000 (.list (p.ls.map dLw)) := (Gd.list (GdAll.map fun l hl => gd_lw (h.ls.2 l hl))).mono (Nat.le_refl _) (by have := h.ls.1; omega)
  have h5 : Gd 4 2600000 (.list (p.jo.map dSs)) := (Gd.list (GdAll.map fun j hj => gd_ss (h.jo.2 j hj).1 (h.jo.2 j hj).2)).mono (by decide) (by have := h.jo.1; omega)
  exact (Gd.tup (.cons ((gd_s h.nm).mono (by decide) (Nat.le_refl _)) (.cons h1 (.cons h2 (.cons h3 (.cons h4 (.cons h5 .nil))))))).mono (Nat.le_refl _) (by decide)
theorem shaped_of {d : PyData} (h1 : d.canLay0 = true) (h2 : d.depth ≤ 64) : SeqAt.shaped d = true := by
  unfold SeqAt.shaped
  rw [h1, decide_eq_true h2]; rfl
theorem Gd.shp {k n : Nat} {d : PyData} (h : Gd k n d) (hk : k ≤ 64) : SeqAt.shaped d = true := shaped_of h.lay (Nat.le_trans h.dep hk)
theorem eqv_nil : ∀ {ds : List PyData}, PyData.eqv (.list ds) (.list []) = decide (ds = [])
  | [] => by decide +kernel
  | _ :: _ => rfl
section
variable {K : PySem.W.Frag} {H : Hp}
theorem dpAll_of {α : Type} {R : V → α → Prop} {f : α → PyData} (h : ∀ v a, R v a → Dp K H v (f a)) : ∀ {xs : List V} {as : List α}, A2 R xs as → DpAll K H xs (as.map f)
  | _, _, .nil => .nil
  | _, _, .cons a t => .cons (h _ _ a) (dpAll_of h t)
theorem dp_tm {v : V} {t : Trm} (h : TmV K H v t) : Dp K H v (dTm t) := by
  obtain ⟨a, rfl, q⟩ := h
  refine .tup q (.cons ?_ (.cons (.int _) (.cons (.str _) .nil)))
  cases t.h with
  | inl n => exact .int n
  | inr s => exact .str s
theorem dp_lw {v : V} {l : Lw} (h : LW K H v l) : Dp K H v (dLw l) := by
  obtain ⟨a, p, rfl, ⟨xs, hx, hT⟩, ⟨e, q⟩ | ⟨e, q⟩⟩ := h
  · unfold dLw
    rw [e]
    exact .tup q (.cons (.str _) (.cons (.lst (.of hx) (dpAll_of (f := dTm) (fun _ _ => dp_tm) hT)) (.cons (.str _) .nil)))
  · unfold dLw
    rw [e]
    exact .tup q (.cons (.str _) (.cons (.int _) (.cons (.str _) (.cons (.lst (.of hx) (dpAll_of (f := dTm) (fun _ _ => dp_tm) hT)) (.cons (.str _) .nil)))))
theorem dp_strs : ∀ qs : List Str, DpAll K H (qs.map V.str) (qs.map PyData.str)
  | [] => .nil
  | q :: r => .cons (.str q) (dp_strs r)
end
end K07Z
-- T07
namespace K07Z
open PySem PySem.Spec PyProof.Rows L2 K07 TL
open K05 (wd ltr sgn ltr_sgn in_letters in_signs)
section
variable {J J1 : It} {n : Nat} {G : Hp → Prop} {Y : Nat → Hp → V → Hp → Prop} {g g1 : TG} {tt tt1 : TT} {te : TE} {vs vs1 : List Nat} {σ σ2 : L2.St} {H1 H4 : Hp} {D : Addr} {wi1 : TI}
/-- what the second clause wants, on its way to Nx -/
abbrev In2 (J1 : It) (g1 : TG) (tt1 : TT) (te : TE) (vs1 : List Nat) (D : Addr) (Nx : Hp → Prop) (σ2 : L2.St) (H4 : Hp) : Prop :=
  ∃ W1 : Nat → Nat → Hp → Prop, (∃ m, W1 0 m H4) ∧ ∀ j k H, W1 j k H → (J1.stop j H ∧ Nx H) ∨ (J1.go j H ∧ ∃ Nx1 : Hp → Prop, (∀ H', Nx1 H' → ∃ k', k' < k ∧ W1 (j + 1) k' H') ∧ ∀ x H', J1.yld j H x H' → g1 x (wipe σ2 vs1) H' fun σ3 H5 => wipe σ3 vs1 = wipe σ2 vs1 ∧ tt1 σ3 H5 fun b H6 =>
    if b = true then te σ3 H6 fun y H7 => ∃ acc, H7 D = some (.lst acc) ∧ acc.length < sizeLine ∧ Nx1 (upd H7 D (.lst (acc ++ [y]))) else Nx1 H6)
theorem lc2_in {Nx : Hp → Prop} (w : Walk J1 n G Y) (Pv : Nat → Hp → Prop) (h0 : Pv 0 H4) (hG : ∀ j H, Pv j H → G H)
    (hs : ∀ j x H H', j < n → Pv j H → Y j H x H' → g1 x (wipe σ2 vs1) H' fun σ3 H5 => wipe σ3 vs1 = wipe σ2 vs1 ∧ tt1 σ3 H5 fun b H6 =>
      if b = true then te σ3 H6 fun y H7 => ∃ acc, H7 D = some (.lst acc) ∧ acc.length < sizeLine ∧ Pv (j + 1) (upd H7 D (.lst (acc ++ [y]))) else Pv (j + 1) H6) (hd : ∀ H, Pv n H → Nx H) : In2 J1 g1 tt1 te vs1 D Nx σ2 H4 := by
  refine ⟨fun j k H => k + j = n ∧ Pv j H, ⟨n, rfl, h0⟩, fun j k H ⟨e, p⟩ => ?_⟩
  rcases Nat.lt_or_ge j n with lt | ge
  · exact .inr ⟨w.goes j H lt (hG j H p), Pv (j + 1), fun H' p' => ⟨k - 1, by omega, by omega, p'⟩, fun x H' y => hs j x H H' lt p (w.yields j H x H' lt (hG j H p) y)⟩
  · obtain rfl : j = n := by omega
    exact .inl ⟨w.stops H (hG j H p), hd H p⟩
theorem lc2_out {Qd : Hp → Prop} (w : Walk J n G Y) (Pv : Nat → Hp → Prop) (h0 : Pv 0 (upd H1 D (.lst []))) (hG : ∀ j H, Pv j H → G H)
    (hs : ∀ i x H H', i < n → Pv i H → Y i H x H' → g x (wipe σ vs) H' fun σ2 H2 => wipe σ2 vs = wipe σ vs ∧ tt σ2 H2 fun b H3 =>
      if b = true then wi1 σ2 H3 fun J1 H4 => In2 J1 g1 tt1 te vs1 D (Pv (i + 1)) σ2 H4 else Pv (i + 1) H3) (hd : ∀ H, Pv n H → Qd H) :
    ∃ W : Nat → Nat → Hp → Prop, (∃ m, W 0 m (upd H1 D (.lst []))) ∧ ∀ i m H, W i m H → (J.stop i H ∧ Qd H) ∨ (J.go i H ∧ ∃ Nx : Hp → Prop, (∀ H', Nx H' → ∃ m', m' < m ∧ W (i + 1) m' H') ∧ ∀ x H', J.yld i H x H' → g x (wipe σ vs) H' fun σ2 H2 => wipe σ2 vs = wipe σ vs ∧ tt σ2 H2 fun b H3 =>
      if b = true then wi1 σ2 H3 fun J1 H4 => In2 J1 g1 tt1 te vs1 D Nx σ2 H4 else Nx H3) := by
  refine ⟨fun j k H => k + j = n ∧ Pv j H, ⟨n, rfl, h0⟩, fun j k H ⟨e, p⟩ => ?_⟩
  rcases Nat.lt_or_ge j n with lt | ge
  · exact .inr ⟨w.goes j H lt (hG j H p), Pv (j + 1), fun H' p' => ⟨k - 1, by omega, by omega, p'⟩, fun x H' y => hs j x H H' lt p (w.yields j H x H' lt (hG j H p) y)⟩
  · obtain rfl : j = n := by omega
    exact .inl ⟨w.stops H (hG j H p), hd H p⟩
end
section
variable {P : Program} {w : World} {K : PySem.W.Frag} {mg : Str → Option Value} {base : Heap} {Ps : List Addr}
/-! ### a thing twice -/
section
variable {κ : Type} [DecidableEq κ]
def seenD (xs : List κ) : List (κ × V) := xs.map fun k => (k, V.bl true)
theorem seen_any (xs : List κ) (x : κ) : ((seenD xs).any fun kv => decide (kv.1 = x)) = decide (x ∈ xs) := by
  unfold seenD
  rw [List.any_map, Bool.eq_iff_iff, List.any_eq_true, decide_eq_true_eq]
  constructor
  · rintro ⟨y, hy, e⟩
    have e : y = x := of_decide_eq_true e
    exact e ▸ hy
  · intro h
    exact ⟨x, h, decide_eq_true rfl⟩
theorem seen_in (xs : List κ) (x : κ) : (valV (seenD xs) x).isSome = decide (x ∈ xs) := by rw [← valV_any, seen_any]
theorem seen_yes {xs : List κ} {x : κ} (h : x ∈ xs) : (valV (seenD xs) x).isSome = true := by rw [seen_in]; exact decide_eq_true h
theorem seen_no {xs : List κ} {x : κ} (h : x ∉ xs) : (valV (seenD xs) x).isSome = false := by rw [seen_in]; exact decide_eq_false h
theorem seen_put {xs : List κ} {x : κ} (h : x ∉ xs) : putK (seenD xs) x (.bl true) = seenD (xs ++ [x]) := by
  unfold putK
  rw [seen_any, if_neg (by rw [decide_eq_true_eq]; exact h)]
  unfold seenD
  rw [List.map_append]; rfl
theorem twice_at {xs : List κ} {i : Nat} {x : κ} (h : xs[i]? = some x) (m : x ∈ xs.take i) : ¬ xs.Nodup := fun nd => by
  have := (List.take_sublist (i + 1) xs).nodup nd
  rw [take_snoc h, List.nodup_append] at this
  exact this.2.2 x m x (List.mem_singleton.mpr rfl) rfl
theorem once_at {xs : List κ} {i : Nat} {x : κ} (h : xs[i]? = some x) (nd : (xs.take i).Nodup) (m : x ∉ xs.take i) : (xs.take (i + 1)).Nodup := by
  rw [take_snoc h, List.nodup_append]
  refine ⟨nd, by simp, fun a ha b hb e => ?_⟩
  rw [List.mem_singleton.mp hb] at e
  exact m (e ▸ ha)
end
theorem vH_kV (h : Hd) : vH h = kV h := by cases h <;> rfl
def sp_has_twice (K : PySem.W.Frag) : Sp := fun vs H Q _ => ∃ (p : Addr) (xs : List Hd), vs = [.ref p] ∧ SqL K H p (xs.map vH) ∧ xs.length ≤ 60000 ∧ ∀ (b : Bool) H', (b = true ↔ ¬ xs.Nodup) → Same H H' → Q (.bl b) H'
theorem ok_has_twice (T : Txt K mg) : FnOk P w K mg base CX0 1 T.has_twice.a T.has_twice.fd ["words"] (sp_has_twice K) := by
  refine T.has_twice.F.ok sc_has_twice (fun vs H Q E h => ?_) (fun cdv A outer s H vs Q E hr h => ?_)
  · obtain ⟨p, xs, rfl, _⟩ := h
    rfl
  · obtain ⟨p, xs, rfl, hp, hn, q⟩ := h
    refine ⟨_, (pss_cons (ps_set (i := 1) sc_has_twice.nd rfl (.inl rfl) pe_dnewK)
      (pss_cons (ps_for PassesOwn.never rfl (pi_list (pv 0)) (pg_name (i := 2) sc_has_twice.nd rfl (.inl rfl))
        (pss_cons (ps_if (pt_cmp (pc_din (r1 hr) (pv 2) (pv 1)))
          (pss_one (ps_ret pe_bl))
          pss_nil)
        (pss_one (ps_dput (r1 hr) (pv 1) (pv 2) pe_bl rfl))))
      (pss_one (ps_ret pe_bl)))), ?_⟩
    intro d nd
    have s0 := same_upd nd (o := .dK [])
    refine ⟨_, rfl, p, rfl, ⟨_, s0.seq hp⟩, ?_⟩
    refine for_it (walk_list (xs := xs.map vH)) (fun i σ G => ∃ x2, σ = [some (.ref p), some (.ref d), x2] ∧ Same H G ∧ G d = some (.dK (seenD (xs.take i))) ∧ (xs.take i).Nodup) ⟨none, rfl, s0, upd_same, by simp⟩ (fun i σ G _ pv => ?_) (fun i x σ G G' hi pv y => ?_) (fun σ G pv => ?_)
    · obtain ⟨_, rfl, sm, _⟩ := pv
      exact sm.seq hp
    · obtain ⟨x2, rfl, sm, hd, ndi⟩ := pv
      obtain ⟨rfl, hx⟩ := y
      rw [List.getElem?_map] at hx
      obtain ⟨h, hh, rfl⟩ := Option.map_eq_some_iff.mp hx
      rw [vH_kV]
      refine ⟨_, rfl, _, rfl, d, _, rfl, DGet.k (k := h) hd, _, rfl, ?_⟩
      by_cases m : h ∈ xs.take i
      · rw [seen_yes m]
        exact iteT (q true G' ⟨fun _ => twice_at hh m, fun _ => rfl⟩ sm)
      · rw [seen_no m]
        refine iteF ?_
        have lt : i < xs.length := by rw [List.length_map] at hi; exact hi
        refine ⟨_, rfl, _, rfl, d, _, rfl, DPut.k (k := h) hd (by unfold seenD; rw [List.length_map, List.length_take]; exact small' (by omega)), ?_⟩
        rw [seen_put m]
        exact ⟨_, rfl, same_over sm nd, by rw [upd_same, take_snoc hh], once_at hh ndi m⟩
    · obtain ⟨x2, rfl, sm, hd, ndi⟩ := pv
      rw [List.length_map, List.take_length] at ndi
      exact q false G ⟨fun z => (nomatch z), fun z => absurd ndi z⟩ sm
def kf (p : Int × Str) : List L2.Key := [.inl p.1, .inr p.2]
theorem kf_inj {p r : Int × Str} (h : kf p = kf r) : p = r := by
  unfold kf at h
  injection h with h1 h2
  injection h2 with h2 _
  injection h1 with h1
  injection h2 with h2
  exact Prod.ext h1 h2
theorem nodup_kf (ps : List (Int × Str)) : (ps.map kf).Nodup ↔ ps.Nodup := by
  unfold List.Nodup
  rw [List.pairwise_map]
  exact ⟨fun h => h.imp fun n e => n (congrArg kf e), fun h => h.imp fun n e => n (kf_inj e)⟩
def sp_has_twiceP (K : PySem.W.Frag) : Sp := fun vs H Q _ => ∃ (p : Addr) (ps : List (Int × Str)), vs = [.ref p] ∧ PL5 H p ps ∧ ps.length ≤ 60000 ∧ ∀ (b : Bool) H', (b = true ↔ ¬ ps.Nodup) → Same H H' → Q (.bl b) H'
theorem ok_has_twiceP (T : Txt K mg) : FnOk P w K mg base CX0 1 T.has_twice.a T.has_twice.fd ["words"] (sp_has_twiceP K) := by
  refine T.has_twice.F.ok sc_has_twice (fun vs H Q E h => ?_) (fun cdv A outer s H vs Q E hr h => ?_)
  · obtain ⟨p, xs, rfl, _⟩ := h
    rfl
  · obtain ⟨p, ps, rfl, ⟨xs, hp, hA⟩, hn, q⟩ := h
    refine ⟨_, (pss_cons (ps_set (i := 1) sc_has_twice.nd rfl (.inl rfl) pe_dnewT)
      (pss_cons (ps_for PassesOwn.never rfl (pi_list (pv 0)) (pg_name (i := 2) sc_has_twice.nd rfl (.inl rfl))
        (pss_cons (ps_if (pt_cmp (pc_din (r1 hr) (pv 2) (pv 1)))
          (pss_one (ps_ret pe_bl))
          pss_nil)
        (pss_one (ps_dput (r1 hr) (pv 1) (pv 2) pe_bl rfl))))
      (pss_one (ps_ret pe_bl)))), ?_⟩
    intro d nd
    have s0 := same_upd nd (o := .dT [])
    refine ⟨_, rfl, p, rfl, ⟨_, .of (s0 _ _ hp)⟩, ?_⟩
    refine for_it (walk_list (xs := xs)) (fun i σ G => ∃ x2, σ = [some (.ref p), some (.ref d), x2] ∧ Same H G ∧ G d = some (.dT (seenD ((ps.map kf).take i))) ∧ ((ps.map kf).take i).Nodup) ⟨none, rfl, s0, upd_same, by simp⟩ (fun i σ G _ pv => ?_) (fun i x σ G G' hi pv y => ?_) (fun σ G pv => ?_)
    · obtain ⟨_, rfl, sm, _⟩ := pv
      exact .of (sm _ _ hp)
    · obtain ⟨x2, rfl, sm, hd, ndi⟩ := pv
      obtain ⟨rfl, hx⟩ := y
      obtain ⟨r, hr2, b, rfl, hb⟩ := hA.get hx
      have hb := sm _ _ hb
      have hh : (ps.map kf)[i]? = some (kf r) := by rw [List.getElem?_map, hr2]; rfl
      refine ⟨_, rfl, _, rfl, d, _, rfl, DGet.t (k := kf r) hd hb, _, rfl, ?_⟩
      by_cases m : kf r ∈ (ps.map kf).take i
      · rw [seen_yes m]
        exact iteT (q true G' ⟨fun _ z => twice_at hh m ((nodup_kf ps).mpr z), fun _ => rfl⟩ sm)
      · rw [seen_no m]
        refine iteF ?_
        have lt : i < ps.length := by rw [← hA.len]; exact hi
        refine ⟨_, rfl, _, rfl, d, _, rfl, DPut.t (k := kf r) hd hb (by unfold seenD; rw [List.length_map, List.length_take]; exact small' (by omega)), ?_⟩
        rw [seen_put m]
        exact ⟨_, rfl, same_over sm nd, by rw [upd_same, take_snoc hh], once_at hh ndi m⟩
    · obtain ⟨x2, rfl, sm, hd, ndi⟩ := pv
      rw [hA.len, List.take_of_length_le (by rw [List.length_map]; exact Nat.le_refl _)] at ndi
      exact q false G ⟨fun z => (nomatch z), fun z => absurd ((nodup_kf ps).mp ndi) z⟩ sm
end
section
variable {P : Program} {w : World} {K : PySem.W.Frag} {mg : Str → Option Value} {base : Heap} {Ps : List Addr}
def sp_is_word (Ps : List Addr) : Sp := fun vs H Q _ => ∃ s : Str, vs = [.str s] ∧ s.length ≤ 60000 ∧ TGs Ps H ∧ ∀ H', Lk H H' → TGs Ps H' → Q (.bl (wd (tl s))) H'
theorem ok_is_word (T : Txt K mg) (TB : Tbs base T Ps) : FnOk P w K mg base CX0 2 T.is_word.a T.is_word.fd ["text"] (sp_is_word Ps) := by
  refine T.is_word.ok sc_is_word (fun vs H Q E h => ?_) (fun A outer s H vs Q E hr h => ?_)
  · obtain ⟨s, rfl, _⟩ := h
    rfl
  · obtain ⟨s, rfl, hn, tg, q⟩ := h
    refine ⟨_, (pss_one (ps_ret (pe_and (pe_cmpR op_ne (pv 0) pe_str (nomark _)) (pe_and (pe_cmpR op_in_str (pe_ix ix_str (pv 0) pe_int (fun _ _ => rfl)) (pe_glob (v := .str "abcdefghijklmnopqrstuvwxyz") rfl T.c_LETTERS ⟨_, rfl⟩) rfl) (pe_one (GN.pe_allG (own := [("sign", 1)]) hr sc_is_word.nd (by rfl) T.m_all TB.is_word rfl (GN.nmOk_by (blkOk_by (N := ["text", "sign"]) (sc := defScope s_is_word) (by decide +kernel))) (pi_str (pv 0)) (fun _ _ _ _ _ _ => (pg_name (i := 1) sc_is_word.nd rfl (.inl rfl))) (fun _ _ _ _ _ _ hr2 gd2 => (pe_cmpR op_in_str (pv 1) (pe_glob (v := .str "abcdefghijklmnopqrstuvwxyz0123456789") rfl T.c_SIGNS ⟨_, rfl⟩) rfl)))))))), ?_⟩
    have tp : GxR.TabG H TB.p2 := tg _ TB.m2
    refine ⟨_, rfl, rfl, _, rfl, ite2 (fun h0 => ?_) (fun h0 => ?_)⟩
    · obtain ⟨c, r, ec⟩ : ∃ c r, tl s = c :: r := by
        cases e : tl s with
        | nil => exact absurd (show s = "" from ext_tl e) (by simpa using h0)
        | cons c r => exact ⟨c, r, rfl⟩
      have c0 : atI s.cps.toList 0 = some c := by rw [show s.cps.toList = c :: r from ec]; exact atI_nat (xs := c :: r) (j := 0) rfl
      refine ⟨_, rfl, s, 0, c, rfl, rfl, small hn, c0, _, _, rfl, rfl, ?_⟩
      rw [StrLaws.found_one, in_letters]
      refine ⟨_, rfl, ite2 (fun h1 => ?_) (fun h1 => ?_)⟩
      · refine ⟨_, rfl, s, rfl, tp, ?_⟩
        have fin : ∀ (G : Hp) (b : Bool), Lk H G → TGs Ps G → b = (tl s).all sgn → Q (.bl b) G := fun G b l t e => by
          have := q G l t
          rw [ec, show wd (c :: r) = (ltr c && (c :: r).all sgn) from rfl, h1, Bool.true_and, ← ec, ← e] at this
          exact this
        refine GN.gn_it walk_str (fun i G => Lk H G ∧ TGs Ps G ∧ ((tl s).take i).all sgn = true) (fun G t => ⟨lk_tab tp t, tg.tab t, rfl⟩) (fun _ _ _ _ => trivial) (fun i x G G' hi p y => ?_) (fun G p => ?_)
        · obtain ⟨l, t, al⟩ := p
          obtain ⟨rfl, d, hd, rfl⟩ := y
          have hd' : (tl s)[i]? = some d := by rw [show tl s = s.cps.toList from rfl, Array.getElem?_toList]; exact hd
          refine ⟨rfl, _, rfl, _, _, rfl, rfl, ?_⟩
          rw [StrLaws.found_one, in_signs]
          refine ⟨_, rfl, ?_⟩
          cases hs : sgn d with
          | true =>
            refine GN.on_t ⟨l, t, ?_⟩
            rw [take_snoc hd', List.all_append, al, List.all_cons, hs]; rfl
          | false =>
            refine GN.end_f (fin _ _ l t ?_)
            rw [eq_comm, Bool.eq_false_iff]
            intro z
            rw [List.all_eq_true.mp z d (mem_at hd')] at hs
            cases hs
        · obtain ⟨l, t, al⟩ := p
          refine fin _ _ l t ?_
          rw [List.take_of_length_le (by rw [← len_tl]; exact Nat.le_refl _)] at al
          rw [al]; rfl
      · have := q H Lk.refl tg
        rw [ec, show wd (c :: r) = (ltr c && (c :: r).all sgn) from rfl, Bool.eq_false_iff.mpr h1, Bool.false_and] at this
        exact this
    · have e : s = "" := by simpa using h0
      rw [e] at q
      exact q H Lk.refl tg
end
end K07Z
-- F07
namespace K07Z
open PySem PySem.Spec PyProof.Rows L2 K07 TL
open K05 (wd)
section
variable {P : Program} {w : World} {K : PySem.W.Frag} {mg : Str → Option Value} {base : Heap} {Ps : List Addr}
def InR (l : Lw) : Prop := (∀ p ∈ l.places, 0 ≤ p.1 ∧ p.1 ≤ 3) ∧ (l.ex = true → ∀ t ∈ l.ts, ∀ n : Int, t.h = .inl n → n ≠ 0 ∧ n.natAbs ≤ 1000000) ∧ (l.ex = false → l.ts ≠ [])
def NumOk (t : Trm) : Prop := ∀ n : Int, t.h = .inl n → n ≠ 0 ∧ n.natAbs ≤ 1000000
theorem take_all {α : Type} {p : α → Prop} {xs : List α} {i : Nat} {x : α} (h : xs[i]? = some x) (a : ∀ y ∈ xs.take i, p y) (b : p x) : ∀ y ∈ xs.take (i + 1), p y := fun y hy => by
  rw [take_snoc h] at hy
  rcases List.mem_append.mp hy with hy | hy
  · exact a y hy
  · rw [List.mem_singleton.mp hy]; exact b
theorem places_len {l : Lw} (h : BL l) : l.places.length ≤ 9 := by
  have := h.many
  unfold Lw.places
  cases l.ex <;> simp <;> omega
def sp_is_in_range (K : PySem.W.Frag) (Ps : List Addr) : Sp := fun vs H Q _ => ∃ (v : V) (l : Lw), vs = [v] ∧ LW K H v l ∧ BL l ∧ TGs Ps H ∧ ∀ (b : Bool) H', (b = true ↔ InR l) → Lk H H' → TGs Ps H' → Q (.bl b) H'
theorem ok_is_in_range (T : Txt K mg) (TB : Tbs base T Ps) : FnOk P w K mg base CX0 4 T.is_in_range.a T.is_in_range.fd ["told"] (sp_is_in_range K Ps) := by
  refine T.is_in_range.ok sc_is_in_range (fun vs H Q E h => ?_) (fun A outer s H vs Q E hr h => ?_)
  · obtain ⟨v, l, rfl, _⟩ := h
    rfl
  · obtain ⟨v, l, rfl, hl, bl, tg, q⟩ := h
    refine ⟨_, (pss_cons (ps_if (pt_not (pt_val (GN.pe_allG (own := [("k", 1), ("_", 2)]) (g := gTup K 2 (gCons (gName 1) (gCons (gName 2) gNil))) hr sc_is_in_range.nd (by rfl) T.m_all TB.is_in_range rfl (GN.nmOk_by (blkOk_by (N := ["told", "k", "_", "number"]) (sc := defScope s_is_in_range) (by decide +kernel))) (pi_list (pe_call (ok_places_of T) (hr.mono (by decide)) (by rfl) T.places_of.g T.places_of.F.kp T.places_of.b .nil pass0 (pa_cons (pv 0) pa_nil))) (fun _ _ _ _ _ _ => (pg_tup rfl (pgs_cons (pg_name (i := 1) sc_is_in_range.nd rfl (.inl rfl)) (pgs_cons (pg_name (i := 2) sc_is_in_range.nd rfl (.inl rfl)) pgs_nil)))) (fun _ _ _ _ _ _ hr2 gd2 => (pe_chain op_le op_le pe_int (pv 1) (pe_glob (v := .int 3) rfl T.c_MOST_ORDER ⟨_, rfl⟩))))))
        (pss_one (ps_ret pe_bl))
        pss_nil)
      (pss_cons (ps_if (pt_val (pe_call (ok_is_exact T) (hr.mono (by decide)) (by rfl) T.is_exact.g T.is_exact.F.kp T.is_exact.b .nil pass0 (pa_cons (pv 0) pa_nil)))
        (pss_one (ps_ret (GN.pe_allG (own := [("number", 3), ("_", 2)]) (g := gTup K 3 (gCons (gName 3) (gCons (gName 2) (gCons (gName 2) gNil)))) hr sc_is_in_range.nd (by rfl) T.m_all TB.is_in_range rfl (GN.nmOk_by (blkOk_by (N := ["told", "k", "_", "number"]) (sc := defScope s_is_in_range) (by decide +kernel))) (pi_list (pe_ix ix_tup (pv 0) pe_int (fun _ _ => rfl))) (fun _ _ _ _ _ _ => (pg_tup rfl (pgs_cons (pg_name (i := 3) sc_is_in_range.nd rfl (.inl rfl)) (pgs_cons (pg_name (i := 2) sc_is_in_range.nd rfl (.inl rfl)) (pgs_cons (pg_name (i := 2) sc_is_in_range.nd rfl (.inl rfl)) pgs_nil))))) (fun _ _ _ _ _ _ hr2 gd2 => (pe_and (pe_cmpR op_ne (pv 3) pe_int (nomark _)) (pe_one (pe_chain op_le op_le (pe_un un_neg (pe_glob (v := .int 1000000) rfl T.c_MOST_NUMBER ⟨_, rfl⟩)) (pv 3) (pe_glob (v := .int 1000000) rfl T.c_MOST_NUMBER ⟨_, rfl⟩))))))))
        pss_nil)
      (pss_one (ps_ret (pe_cmpR (op_neD hr.units) (pe_ix ix_tup (pv 0) pe_int (fun _ _ => rfl)) (pe_lst pa_nil) (nomark _)))))), ?_⟩
    have no : ∀ {b : Bool}, ¬ InR l → b = false → (b = true ↔ InR l) := fun n e => by
      rw [e]
      exact ⟨fun z => (nomatch z), fun z => absurd z n⟩
    have m131 := bl.many
    refine ⟨v, rfl, v, l, rfl, hl, by omega, fun H1 p s1 np ⟨xs, hp, hA⟩ => ?_⟩
    have t1 := tg.same s1
    refine ⟨p, rfl, ⟨_, .of hp⟩, t1 _ TB.m1, ?_⟩
    refine GN.gn_it (walk_list (xs := xs)) (fun i G => Lk H1 G ∧ TGs Ps G ∧ ∀ p ∈ l.places.take i, 0 ≤ p.1 ∧ p.1 ≤ 3) (fun G t => ⟨lk_tab (t1 _ TB.m1) t, t1.tab t, fun p hp => by simp at hp⟩) (fun _ _ _ pv => pv.1.seqL (.of hp)) (fun i x G G' hi pv y => ?_) (fun G pv => ?_)
    · obtain ⟨lk, t, al⟩ := pv
      obtain ⟨rfl, hx⟩ := y
      obtain ⟨r, hr3, b, rfl, hb⟩ := hA.get hx
      refine ⟨b, _, rfl, .of (lk.tup hb), rfl, _, _, rfl, _, _, rfl, rfl, rfl, _, rfl, _, _, rfl, rfl, _, rfl, ?_⟩
      have bad : ¬ (0 ≤ r.1 ∧ r.1 ≤ 3) → Q (.bl false) G' := fun n => q false G' (no (fun z => n (z.1 r (mem_at hr3))) rfl) ((lk_of s1).trans lk) t
      refine ite2 (fun h1 => ⟨_, _, rfl, rfl, _, rfl, ?_⟩) (fun h1 => ⟨_, rfl, GN.end_f ?_⟩)
      · have h1 := of_decide_eq_true h1
        by_cases h2 : r.1 ≤ 3
        · rw [decide_eq_true h2]
          exact GN.on_t ⟨lk, t, take_all hr3 al ⟨h1, h2⟩⟩
        · rw [decide_eq_false h2]
          exact GN.end_f ⟨_, rfl, iteT (bad fun z => h2 z.2)⟩
      · exact ⟨_, rfl, iteT (bad fun z => h1 (decide_eq_true z.1))⟩
    · obtain ⟨lk, t, al⟩ := pv
      rw [hA.len, List.take_length] at al
      have lk0 := (lk_of s1).trans lk
      have hl2 := hl.lk lk0
      refine ⟨_, rfl, iteF ⟨v, rfl, v, l, rfl, hl2, _, rfl, ?_⟩⟩
      obtain ⟨a, tp, rfl, ⟨zs, hz0, hT⟩, hd0⟩ := hl2
      have hz : SqL K G tp zs := .of hz0
      rcases hd0 with ⟨ex, ht⟩ | ⟨ex, ht⟩
      · rw [ex]
        refine iteT ⟨_, rfl, a, _, _, _, rfl, rfl, ht, rfl, tp, rfl, ⟨zs, hz⟩, t _ TB.m1, ?_⟩
        have bad : ∀ (G2 : Hp) (tm : Trm), tm ∈ l.ts → ¬ NumOk tm → Lk G G2 → TGs Ps G2 → Q (.bl false) G2 := fun G2 tm m n l2 t2 => q false G2 (no (fun z => n (z.2.1 ex tm m)) rfl) (lk0.trans l2) t2
        refine GN.gn_it (walk_list (xs := zs)) (fun i G2 => Lk G G2 ∧ TGs Ps G2 ∧ ∀ tm ∈ l.ts.take i, NumOk tm) (fun G2 t2 => ⟨lk_tab (t _ TB.m1) t2, t.tab t2, fun p hp => by simp at hp⟩) (fun _ _ _ pv => pv.1.seqL hz) (fun i x G2 G' hi pv y => ?_) (fun G2 pv => ?_)
        · obtain ⟨l2, t2, al2⟩ := pv
          obtain ⟨rfl, hx⟩ := y
          obtain ⟨tm, htm, b, rfl, hb⟩ := hT.get hx
          obtain ⟨n, en, bn⟩ := bl.num ex tm (mem_at htm)
          rw [en] at hb
          refine ⟨b, _, rfl, l2.seqT hb, rfl, _, _, rfl, _, _, rfl, _, _, rfl, rfl, rfl, _, rfl, rfl, _, rfl, ?_⟩
          have yes : n ≠ 0 → n.natAbs ≤ 1000000 → NumOk tm := fun a b m e => by
            rw [en] at e
            injection e with e
            exact e ▸ ⟨a, b⟩
          have bad2 : ¬ (n ≠ 0 ∧ n.natAbs ≤ 1000000) → Q (.bl false) G' := fun nn => bad G' tm (mem_at htm) (fun z => nn (z n en)) l2 t2
          refine ite2 (fun h1 => ?_) (fun h1 => ?_)
          · have h1 : n ≠ 0 := by
              intro z
              rw [z] at h1
              exact absurd h1 (by decide)
            refine ⟨_, rfl, _, rfl, _, _, rfl, rfl, _, rfl, ite2 (fun h2 => ?_) (fun h2 => ?_)⟩
            · have h2 := of_decide_eq_true h2
              refine ⟨_, _, rfl, rfl, _, rfl, ?_⟩
              by_cases h3 : n ≤ 1000000
              · rw [decide_eq_true h3]
                exact GN.on_t ⟨l2, t2, take_all htm al2 (yes h1 (by omega))⟩
              · rw [decide_eq_false h3]
                exact GN.end_f (bad2 fun z => h3 (by omega))
            · exact ⟨_, rfl, GN.end_f (bad2 fun z => h2 (decide_eq_true (by omega)))⟩
          · refine ⟨_, rfl, GN.end_f (bad2 fun z => h1 ?_)⟩
            show (!decide (V.int n = V.int 0)) = true
            rw [decide_eq_false fun e => z.1 (V.int.inj e)]; rfl
        · obtain ⟨l2, t2, al2⟩ := pv
          rw [hT.len, List.take_length] at al2
          exact q true G2 ⟨fun _ => ⟨al, fun _ => al2, fun z => by rw [ex] at z; cases z⟩, fun _ => rfl⟩ (lk0.trans l2) t2
      · rw [ex]
        refine iteF ⟨_, rfl, a, _, _, _, rfl, rfl, ht, rfl, by show 0 ≤ sizeLine; decide, fun u nu => ?_⟩
        have su := same_upd nu (o := .lst [])
        have hd : Dp K (upd G u (.lst [])) (.ref tp) (.list (l.ts.map dTm)) := .lst (su.seq hz) (dpAll_of (f := dTm) (fun _ _ z => dp_tm (z.same su)) hT)
        refine ⟨_, .list [], hd, .lst (.of upd_same) .nil, (gd_tms bl).shp (by decide), rfl, ?_⟩
        rw [eqv_nil]
        refine q _ _ ?_ (lk0.trans (lk_of su)) (t.same su)
        rw [Bool.not_eq_true', decide_eq_false_iff_not, List.map_eq_nil_iff]
        exact ⟨fun n => ⟨al, fun z => (by rw [ex] at z; cases z), fun _ => n⟩, fun z => z.2.2 ex⟩
end
end K07Z
-- N07
namespace K07Z
open PySem PySem.Spec PyProof.Rows L2 K07 TL
open K05 (wd)
/-! ### the names of a part -/
def ownNames (p : Prt) : List Str := p.po ++ p.inn ++ p.pl.map (·.1)
def sizesOf (p : Prt) : List Str := p.ls.flatMap Lw.heads
theorem flat_two : ∀ xs : List Str, (xs.flatMap fun x => [x ++ (".u" : Str), x ++ (".i" : Str)]).length = 2 * xs.length
  | [] => rfl
  | x :: r => by rw [List.flatMap_cons, List.length_append, flat_two r]; show 2 + _ = 2 * (_ + 1); omega
theorem str_empty (x : Str) : (Str.empty ++ x : Str) = x := by
  have h : (Str.empty ++ x : Str).cps = x.cps := by rw [Str.cps_append]; show #[] ++ x.cps = x.cps; simp
  cases hx : (Str.empty ++ x : Str); cases x
  rw [hx] at h
  exact congrArg _ h
theorem str_assoc (a b c : Str) : (a ++ b ++ c : Str) = a ++ (b ++ c) := by
  have h : (a ++ b ++ c : Str).cps = (a ++ (b ++ c) : Str).cps := by rw [Str.cps_append, Str.cps_append, Str.cps_append, Str.cps_append, Array.append_assoc]
  cases h1 : (a ++ b ++ c : Str); cases h2 : (a ++ (b ++ c) : Str)
  rw [h1, h2] at h
  exact congrArg _ h
def wd12 (s : Str) : Bool := decide (s.length ≤ 12) && wd (tl s)
section
variable {P : Program} {w : World} {K : PySem.W.Frag} {mg : Str → Option Value} {base : Heap} {Ps : List Addr}
def sp_is_part_name (Ps : List Addr) : Sp := fun vs H Q _ => ∃ s : Str, vs = [.str s] ∧ s.length ≤ 60000 ∧ TGs Ps H ∧ ∀ H', Lk H H' → TGs Ps H' → Q (.bl (wd12 s)) H'
theorem ok_is_part_name (T : Txt K mg) (TB : Tbs base T Ps) : FnOk P w K mg base CX0 3 T.is_part_name.a T.is_part_name.fd ["text"] (sp_is_part_name Ps) := by
  refine T.is_part_name.F.ok sc_is_part_name (fun vs H Q E h => ?_) (fun cdv A outer s H vs Q E hr h => ?_)
  · obtain ⟨s, rfl, _⟩ := h
    rfl
  · obtain ⟨s, rfl, hn, tg, q⟩ := h
    refine ⟨_, (pss_one (ps_ret (pe_and (pe_cmpR op_le (pe_callB call_len_str (by rfl) T.m_len (by decide +kernel) (pa_cons (pv 0) pa_nil)) pe_int (nomark _)) (pe_one (pe_call (ok_is_word T TB) (hr.mono (by decide)) (by rfl) T.is_word.g T.is_word.kp T.is_word.b .nil pass0 (pa_cons (pv 0) pa_nil)))))), ?_⟩
    refine ⟨_, rfl, s, rfl, small (by omega), _, _, rfl, rfl, _, rfl, ite2 (fun h => ?_) (fun h => ?_)⟩
    · have e : wd12 s = wd (tl s) := by unfold wd12; rw [decide_eq_true (by have := of_decide_eq_true h; omega), Bool.true_and]
      rw [e] at q
      exact ⟨_, rfl, s, rfl, hn, tg, q⟩
    · have e : wd12 s = false := by unfold wd12; rw [decide_eq_false (fun z => h (decide_eq_true (by omega))), Bool.false_and]
      have q := q H Lk.refl tg
      rw [e] at q
      exact q
def sp_own_names (K : PySem.W.Frag) : Sp := fun vs H Q _ => ∃ (v : V) (p : Prt), vs = [v] ∧ PT K H v p ∧ BP p ∧ ∀ H' q, Same H H' → H q = none → SL H' q (ownNames p) → Q (.ref q) H'
theorem ok_own_names (T : Txt K mg) : FnOk P w K mg base CX0 1 T.own_names.a T.own_names.fd ["part"] (sp_own_names K) := by
  refine T.own_names.F.ok sc_own_names (fun vs H Q E h => ?_) (fun cdv A outer s H vs Q E hr h => ?_)
  · obtain ⟨v, p, rfl, _⟩ := h
    rfl
  · obtain ⟨v, p, rfl, ⟨a, po, inn, pl, la, jo, rfl, h0, h1, h2, ⟨ys, hy, hA⟩, _⟩, bp, q⟩ := h
    refine ⟨_, (pss_cons (ps_asg (pv 0) (pg_tup rfl (pgs_cons (pg_name (i := 1) sc_own_names.nd rfl (.inl rfl)) (pgs_cons (pg_name (i := 2) sc_own_names.nd rfl (.inl rfl)) (pgs_cons (pg_name (i := 3) sc_own_names.nd rfl (.inl rfl)) (pgs_cons (pg_name (i := 4) sc_own_names.nd rfl (.inl rfl)) (pgs_cons (pg_name (i := 1) sc_own_names.nd rfl (.inl rfl)) (pgs_cons (pg_name (i := 1) sc_own_names.nd rfl (.inl rfl)) pgs_nil))))))))
      (pss_one (ps_ret (pe_op op_cat (pe_op op_cat (pv 2) (pv 3)) (pe_lc (own := [("name", 5), ("_", 1)]) (g := gTup K 2 (gCons (gName 5) (gCons (gName 1) gNil))) rfl sc_own_names.nd (pi_list (pv 4)) (blkOk_by (N := ["part", "_", "ports", "inner", "places", "name"]) (sc := defScope s_own_names) (by decide +kernel)) (fun _ _ _ _ _ => (pg_tup rfl (pgs_cons (pg_name (i := 5) sc_own_names.nd rfl (.inl rfl)) (pgs_cons (pg_name (i := 1) sc_own_names.nd rfl (.inl rfl)) pgs_nil)))) (fun _ _ _ _ _ => pts_nil) (fun _ _ _ _ _ => (pv 5))))))), ?_⟩
    have b1 := bp.po.1
    have b2 := bp.inn.1
    have b3 := bp.pl.1
    refine ⟨.ref a, rfl, a, _, rfl, h0, rfl, _, _, rfl, _, _, rfl, _, _, rfl, _, _, rfl, _, _, rfl, _, _, rfl, rfl, ?_⟩
    refine ⟨_, rfl, _, rfl, po, inn, _, _, rfl, rfl, h1, h2, by rw [List.length_map, List.length_map]; exact small (by omega), fun z1 n1 => ?_⟩
    have s1 := same_upd n1 (o := .lst (p.po.map V.str ++ p.inn.map V.str))
    have e1 := upd_same (H := H) (a := z1) (o := HO.lst (p.po.map V.str ++ p.inn.map V.str))
    generalize upd H z1 _ = H1 at s1 e1
    refine ⟨_, rfl, pl, rfl, ⟨_, .of (s1 _ _ hy)⟩, fun D nD => ?_⟩
    refine lc_fm (walk_list (K := K) (a := pl) (xs := ys)) p.pl (fun x => some x.1) (fun _ v b => v = .str b) (fun _ _ _ _ _ z => z) hA.len.symm nD (fun H' s => .of (s _ _ (s1 _ _ hy))) (small' (by have := hA.len; omega)) (fun i x G Gx ys2 l el sm hD y Qt Qf qt qf => ?_) (fun G zs sm hD hR => ?_)
    · obtain ⟨rfl, hx⟩ := y
      obtain ⟨pr, hpr, t, rfl, hq⟩ := hA.get hx
      obtain rfl := Option.some.inj (el.symm.trans hpr)
      exact ⟨t, _, rfl, Same.seqT (s1.trans sm) hq, rfl, _, _, rfl, _, _, rfl, rfl, rfl, _, rfl, qt _ _ _ rfl (.refl _) rfl⟩
    · rw [fm_id] at hR
      rw [a2_eq (f := V.str) hR] at hD
      refine ⟨z1, D, _, _, rfl, rfl, sm _ _ e1, hD, by rw [List.length_append, List.length_map, List.length_map, List.length_map, List.length_map]; exact small (by omega), fun z nz => q _ z (s1.trans (sm.trans (same_upd nz))) ((s1.trans sm).free nz) ?_⟩
      show upd G z _ z = _
      rw [upd_same]
      unfold ownNames
      rw [List.map_append, List.map_append]
theorem sizes_len {ls : List Lw} (h : ∀ l ∈ ls, l.ts.length ≤ 8) : (ls.flatMap fun l => l.heads.map V.str).length ≤ 8 * ls.length := by
  induction ls with
  | nil => exact Nat.le_refl _
  | cons l r ih =>
    rw [List.flatMap_cons, List.length_append, List.length_map, List.length_cons]
    have a := ih fun x hx => h x (List.mem_cons_of_mem _ hx)
    have b : l.heads.length ≤ 8 := by
      have := h l List.mem_cons_self
      unfold Lw.heads
      split
      · exact Nat.zero_le _
      · rw [List.length_map]; exact this
    omega
theorem sizes_flat (ls : List Lw) : (ls.flatMap fun l => l.heads.map V.str) = (ls.flatMap Lw.heads).map V.str := by
  rw [List.map_flatMap]
def sp_part_sizes (K : PySem.W.Frag) : Sp := fun vs H Q _ => ∃ (v : V) (p : Prt), vs = [v] ∧ PT K H v p ∧ BP p ∧ ∀ H' q, Same H H' → H q = none → SL H' q (sizesOf p) → Q (.ref q) H'
theorem ok_part_sizes (T : Txt K mg) : FnOk P w K mg base CX0 3 T.part_sizes.a T.part_sizes.fd ["part"] (sp_part_sizes K) := by
  refine T.part_sizes.F.ok sc_part_sizes (fun vs H Q E h => ?_) (fun cdv A outer s H vs Q E hr h => ?_)
  · obtain ⟨v, p, rfl, _⟩ := h
    rfl
  · obtain ⟨v, pt, rfl, ⟨a, po, inn, pl, r, jo, rfl, h0, _, _, _, ⟨xs, h30, h4⟩, _⟩, bp, q⟩ := h
    refine ⟨_, (pss_one (ps_ret (pe_lc2 (wi1 := iList K _) (own := [("told", 1), ("size", 2)]) (vs1 := [2]) rfl sc_part_sizes.nd (pi_list (pe_ix ix_tup (pv 0) pe_int (fun _ _ => rfl))) (blkOk_by (N := ["part", "told", "size"]) (sc := defScope s_part_sizes) (by decide +kernel)) (by decide) (fun _ _ _ _ _ => (pg_name (i := 1) sc_part_sizes.nd rfl (.inl rfl))) (fun _ _ _ _ _ => pts_nil) (fun _ _ _ _ _ => (pi_list (pe_call (ok_sizes_in T) (hr.mono (by decide)) (by rfl) T.sizes_in.g T.sizes_in.F.kp T.sizes_in.b .nil pass0 (pa_cons (pv 1) pa_nil)))) (fun _ _ _ _ _ => (pg_name (i := 2) sc_part_sizes.nd rfl (.inl rfl))) (fun _ _ _ _ _ => pts_nil) (fun _ _ _ _ _ => (pv 2))))), ?_⟩
    refine ⟨.ref a, rfl, a, _, _, _, rfl, rfl, h0, rfl, r, rfl, ⟨xs, .of h30⟩, fun D nD => ?_⟩
    refine lc2_out (walk_list (K := K) (a := r) (xs := xs)) (fun i G => Same H G ∧ G D = some (.lst ((pt.ls.take i).flatMap fun l => l.heads.map V.str))) ⟨same_upd nD, upd_same⟩ (fun _ _ p => .of (p.1 _ _ h30)) (fun i x G Hx hi p y => ?_) (fun G p => ?_)
    · obtain ⟨sm, hD⟩ := p
      obtain ⟨rfl, hx⟩ := y
      obtain ⟨l, hl, rl⟩ := h4.get hx
      have vl := bp.ls.2 l (mem_at hl)
      have tk : (pt.ls.take (i + 1)).flatMap (fun l => l.heads.map V.str) = (pt.ls.take i).flatMap (fun l => l.heads.map V.str) ++ l.heads.map V.str := by rw [take_snoc hl, List.flatMap_append, List.flatMap_singleton]
      refine ⟨rfl, x, rfl, x, l, rfl, rl.same sm, vl, fun H5 p s5 np hp => ?_⟩
      refine ⟨p, rfl, ⟨_, .of hp⟩, ?_⟩
      have pD : p ≠ D := fun z => by rw [z, hD] at np; cases np
      refine lc2_in (walk_list (K := K) (a := p) (xs := l.heads.map V.str)) (fun j G => Same H G ∧ G p = some (.lst (l.heads.map V.str)) ∧ G D = some (.lst ((pt.ls.take i).flatMap (fun l => l.heads.map V.str) ++ (l.heads.map V.str).take j))) ⟨sm.trans s5, hp, by rw [List.take_zero, List.append_nil]; exact s5 _ _ hD⟩ (fun _ _ p => .of p.2.1) (fun j y G G' hj p yy => ?_) (fun G p => ?_)
      · obtain ⟨sg, hp, hD⟩ := p
        obtain ⟨rfl, hy⟩ := yy
        refine ⟨rfl, y, rfl, _, hD, ?_, same_over sg nD, (by rw [upd_ne pD]; exact hp), (by rw [upd_same, take_snoc hy, List.append_assoc])⟩
        have a1 : ((pt.ls.take i).flatMap fun l => l.heads.map V.str).length ≤ 8 * (pt.ls.take i).length := sizes_len fun l hl => (bp.ls.2 l (List.mem_of_mem_take hl)).many
        have a2 : (pt.ls.take i).length ≤ 64 := Nat.le_trans (by rw [List.length_take]; exact Nat.min_le_right _ _) bp.ls.1
        have a3 : l.heads.length ≤ 8 := by
          have := vl.many
          unfold Lw.heads
          split
          · exact Nat.zero_le _
          · rw [List.length_map]; exact this
        refine small' ?_
        rw [List.length_append, List.length_take, List.length_map]
        omega
      · obtain ⟨sg, _, hD⟩ := p
        rw [List.take_length] at hD
        exact ⟨sg, by rw [tk]; exact hD⟩
    · obtain ⟨sm, hD⟩ := p
      rw [List.take_of_length_le (by rw [h4.len]; exact Nat.le_refl _), sizes_flat] at hD
      exact q G D sm nD hD
def sp_own_quantities (K : PySem.W.Frag) : Sp := fun vs H Q _ => ∃ (v : V) (p : Prt), vs = [v] ∧ PT K H v p ∧ BP p ∧ ∀ H' q, Same H H' → H q = none → SL H' q (own p.po p.inn) → Q (.ref q) H'
theorem ok_own_quantities (T : Txt K mg) : FnOk P w K mg base CX0 1 T.own_quantities.a T.own_quantities.fd ["part"] (sp_own_quantities K) := by
  refine T.own_quantities.F.ok sc_own_quantities (fun vs H Q E h => ?_) (fun cdv A outer s H vs Q E hr h => ?_)
  · obtain ⟨v, p, rfl, _⟩ := h
    rfl
  · obtain ⟨v, pt, rfl, ⟨a, po, inn, pl, la, jo, rfl, h0, h1, h2, _⟩, bp, q⟩ := h
    refine ⟨_, (pss_cons (ps_asg (pv 0) (pg_tup rfl (pgs_cons (pg_name (i := 1) sc_own_quantities.nd rfl (.inl rfl)) (pgs_cons (pg_name (i := 2) sc_own_quantities.nd rfl (.inl rfl)) (pgs_cons (pg_name (i := 3) sc_own_quantities.nd rfl (.inl rfl)) (pgs_cons (pg_name (i := 1) sc_own_quantities.nd rfl (.inl rfl)) (pgs_cons (pg_name (i := 1) sc_own_quantities.nd rfl (.inl rfl)) (pgs_cons (pg_name (i := 1) sc_own_quantities.nd rfl (.inl rfl)) pgs_nil))))))))
      (pss_one (ps_ret (pe_op op_cat (pe_lc2 (wi1 := iTup K _) (own := [("port", 4), ("end", 5)]) (vs1 := [5]) rfl sc_own_quantities.nd (pi_list (pv 2)) (blkOk_by (N := ["part", "_", "ports", "inner", "port", "end"]) (sc := defScope s_own_quantities) (by decide +kernel)) (by decide) (fun _ _ _ _ _ => (pg_name (i := 4) sc_own_quantities.nd rfl (.inl rfl))) (fun _ _ _ _ _ => pts_nil) (fun _ _ _ _ _ => (pi_tup (pe_tup (pa_cons pe_str (pa_cons pe_str pa_nil))))) (fun _ _ _ _ _ => (pg_name (i := 5) sc_own_quantities.nd rfl (.inl rfl))) (fun _ _ _ _ _ => pts_nil) (fun _ _ _ _ _ => (pe_joined (.cons (pe_fmt (pv 4)) (.cons pe_str (.cons (pe_fmt (pv 5)) .nil)))))) (pv 3))))), ?_⟩
    have b1 := bp.po.1
    have b2 := bp.inn.1
    refine ⟨.ref a, rfl, a, _, rfl, h0, rfl, _, _, rfl, _, _, rfl, _, _, rfl, _, _, rfl, _, _, rfl, _, _, rfl, rfl, ?_⟩
    refine ⟨_, rfl, po, rfl, ⟨_, .of h1⟩, fun D nD => ?_⟩
    refine lc2_out (te := fun σ H Q => tJs [tFmt (tVar 4), tC (V.str ("." : Str)), tFmt (tVar 5)] Str.empty σ H fun out H1 => Q (V.str out) H1) (walk_list (K := K) (a := po) (xs := pt.po.map V.str)) (fun i G => Same H G ∧ G D = some (.lst (((pt.po.take i).flatMap fun x => [x ++ (".u" : Str), x ++ (".i" : Str)]).map V.str))) ⟨same_upd nD, upd_same⟩ (fun _ _ z => .of (z.1 _ _ h1)) (fun i x G Hx hi z y => ?_) (fun G z => ?_)
    · obtain ⟨sm, hD⟩ := z
      obtain ⟨rfl, hx⟩ := y
      rw [List.getElem?_map] at hx
      obtain ⟨s0, hs0, rfl⟩ := Option.map_eq_some_iff.mp hx
      have g0 := (bp.po.2 s0 (mem_at hs0)).1
      refine ⟨rfl, by show 2 ≤ sizeLine; decide, fun t nt => ⟨t, rfl, ⟨_, .of upd_same⟩, ?_⟩⟩
      have st := same_upd nt (o := .tup [.str ("u" : Str), .str ("i" : Str)])
      have ht := upd_same (H := Hx) (a := t) (o := HO.tup [.str ("u" : Str), .str ("i" : Str)])
      generalize upd Hx t _ = H5 at st ht
      have tD : t ≠ D := fun z => by rw [z, hD] at nt; cases nt
      have l2 : ((pt.po.take i).flatMap fun x => [x ++ (".u" : Str), x ++ (".i" : Str)]).length = 2 * (pt.po.take i).length := flat_two _
      have lt : (pt.po.take i).length ≤ 64 := by rw [List.length_take]; omega
      refine lc2_in (te := fun σ H Q => tJs [tFmt (tVar 4), tC (V.str ("." : Str)), tFmt (tVar 5)] Str.empty σ H fun out H1 => Q (V.str out) H1) (walk_tup (K := K) (a := t) (xs := [V.str ("u" : Str), V.str ("i" : Str)])) (fun j G => Same H G ∧ G t = some (.tup [.str ("u" : Str), .str ("i" : Str)]) ∧ G D = some (.lst ((((pt.po.take i).flatMap fun x => [x ++ (".u" : Str), x ++ (".i" : Str)]) ++ (([("u" : Str), ("i" : Str)]).take j).map fun e => s0 ++ ("." : Str) ++ e).map V.str)))
        ⟨sm.trans st, ht, by rw [List.take_zero, List.map_nil, List.append_nil]; exact st _ _ hD⟩ (fun _ _ z => .of z.2.1) (fun j y G G' hj z yy => ?_) (fun G z => ?_)
      · obtain ⟨sg, hT, hD⟩ := z
        obtain ⟨rfl, hy⟩ := yy
        have hy : ([("u" : Str), ("i" : Str)].map V.str)[j]? = some y := hy
        rw [List.getElem?_map] at hy
        obtain ⟨e, he, rfl⟩ := Option.map_eq_some_iff.mp hy
        have el : e.length = 1 := by
          rcases List.mem_cons.mp (mem_at he) with rfl | z
          · rfl
          · rw [List.mem_singleton.mp z]; rfl
        have hj2 : j < 2 := hj
        have es : ∀ x : Str, (Str.empty ++ x : Str) = x := str_empty
        refine ⟨rfl, _, rfl, .inl ⟨s0, rfl, small (by omega), _, rfl, ?_, _, rfl, ?_, _, rfl, .inl ⟨e, rfl, small (by omega), _, rfl, ?_, _, hD, ?_, same_over sg nD, ?_, ?_⟩⟩⟩
        · rw [es]; exact small (by omega)
        · rw [es, Str.length_append]; exact small (by show _ + 1 ≤ 60000; omega)
        · rw [es, Str.length_append, Str.length_append]; exact small (by show _ + 1 + _ ≤ 60000; omega)
        · rw [List.length_map, List.length_append, List.length_map, List.length_take]; exact small' (by omega)
        · rw [upd_ne tD]; exact hT
        · rw [upd_same, es, take_snoc he]
          simp only [List.map_append, List.append_assoc, List.map_cons, List.map_nil]
      · obtain ⟨sg, _, hD⟩ := z
        refine ⟨sg, ?_⟩
        rw [hD, take_snoc hs0, List.flatMap_append, List.flatMap_singleton]
        have du : ∀ e, (s0 ++ ("." : Str) ++ e : Str) = s0 ++ (("." : Str) ++ e) := fun e => str_assoc _ _ _
        show some (HO.lst ((_ ++ [s0 ++ ("." : Str) ++ ("u" : Str), s0 ++ ("." : Str) ++ ("i" : Str)]).map V.str)) = _
        rw [du, du]
        rfl
    · obtain ⟨sm, hD⟩ := z
      rw [List.length_map, List.take_length] at hD
      have l2 : (pt.po.flatMap fun x => [x ++ (".u" : Str), x ++ (".i" : Str)]).length = 2 * pt.po.length := flat_two _
      refine ⟨_, rfl, D, inn, _, _, rfl, rfl, hD, sm _ _ h2, by rw [List.length_map, List.length_map]; exact small (by omega), fun z nz => q _ z (sm.trans (same_upd nz)) (sm.free nz) ?_⟩
      show upd G z _ z = _
      rw [upd_same]
      unfold own
      rw [List.map_append]
end
end K07Z
-- R07
namespace K07Z
open PySem PySem.Spec PyProof.Rows L2 K07 TL
open K05 (wd)
/-! ### what may be wrong with a part -/
def srcs (p : Prt) : List Str := p.ls.filterMap fun l => if l.src = ("" : Str) then none else some l.src
def namesOf (p : Prt) : List Str := [p.nm] ++ ownNames p ++ p.pl.map (·.2) ++ sizesOf p ++ srcs p
def Named (p : Prt) : Prop := ∀ s ∈ namesOf p, wd12 s = true
def lens (p : Prt) (i : Nat) : Nat := [p.po.length, p.inn.length, p.pl.length, p.ls.length, p.jo.length].getD i 0
def mosts (i : Nat) : Int := [8, 12, 12, 20, 20].getD i 0
def TooLong (p : Prt) : Prop := ∃ i, i < 5 ∧ mosts i < (lens p i : Nat)
def Taken (bef : List Prt) (p : Prt) : Prop := (∃ q ∈ bef, q.nm = p.nm) ∨ ¬ (ownNames p ++ sizesOf p).Nodup
theorem heads_gs {l : Lw} (h : BL l) : ∀ s ∈ l.heads, GS 60 s := fun s hs => by
  unfold Lw.heads at hs
  cases e : l.ex with
  | true => rw [e] at hs; simp at hs
  | false =>
    rw [e] at hs
    obtain ⟨t, ht, rfl⟩ := List.mem_map.mp (by simpa using hs : s ∈ l.ts.map fun t => hS t.h)
    obtain ⟨s2, e2, g⟩ := h.nam e t ht
    rw [e2]
    exact g
theorem ownNames_gs {p : Prt} (h : BP p) : ∀ s ∈ ownNames p, GS 60 s := fun s hs => by
  unfold ownNames at hs
  rcases List.mem_append.mp hs with hs | hs
  · rcases List.mem_append.mp hs with hs | hs
    · exact h.po.2 s hs
    · exact h.inn.2 s hs
  · obtain ⟨x, hx, rfl⟩ := List.mem_map.mp hs
    exact (h.pl.2 x hx).1
theorem sizesOf_gs {p : Prt} (h : BP p) : ∀ s ∈ sizesOf p, GS 60 s := fun s hs => by
  obtain ⟨l, hl, hs⟩ := List.mem_flatMap.mp hs
  exact heads_gs (h.ls.2 l hl) s hs
theorem namesOf_gs {p : Prt} (h : BP p) : ∀ s ∈ namesOf p, GS 60 s := fun s hs => by
  unfold namesOf at hs
  rcases List.mem_append.mp hs with hs | hs
  · rcases List.mem_append.mp hs with hs | hs
    · rcases List.mem_append.mp hs with hs | hs
      · rcases List.mem_append.mp hs with hs | hs
        · rw [List.mem_singleton.mp hs]; exact h.nm
        · exact ownNames_gs h s hs
      · obtain ⟨x, hx, rfl⟩ := List.mem_map.mp hs
        exact (h.pl.2 x hx).2
    · exact sizesOf_gs h s hs
  · obtain ⟨l, hl, e⟩ := List.mem_filterMap.mp hs
    split at e
    · cases e
    · rw [← Option.some.inj e]; exact (h.ls.2 l hl).src
theorem sizesOf_len {p : Prt} (h : BP p) : (sizesOf p).length ≤ 512 := by
  have a := sizes_len fun l hl => (h.ls.2 l hl).many
  rw [sizes_flat, List.length_map] at a
  have := h.ls.1
  show (p.ls.flatMap Lw.heads).length ≤ 512
  omega
theorem ownNames_len {p : Prt} (h : BP p) : (ownNames p).length ≤ 192 := by
  unfold ownNames
  rw [List.length_append, List.length_append, List.length_map]
  have := h.po.1
  have := h.inn.1
  have := h.pl.1
  omega
theorem srcs_len {p : Prt} (h : BP p) : (srcs p).length ≤ 64 := Nat.le_trans (List.length_filterMap_le _ _) h.ls.1
section
variable {P : Program} {w : World} {K : PySem.W.Frag} {mg : Str → Option Value} {base : Heap} {Ps : List Addr}
def sp_is_named (K : PySem.W.Frag) (Ps : List Addr) : Sp := fun vs H Q _ => ∃ (v : V) (p : Prt), vs = [v] ∧ PT K H v p ∧ BP p ∧ TGs Ps H ∧ ∀ (b : Bool) H', (b = true ↔ Named p) → Lk H H' → TGs Ps H' → Q (.bl b) H'
theorem ok_is_named (T : Txt K mg) (TB : Tbs base T Ps) : FnOk P w K mg base CX0 5 T.is_named.a T.is_named.fd ["part"] (sp_is_named K Ps) := by
  refine T.is_named.ok sc_is_named (fun vs H Q E h => ?_) (fun A outer s H vs Q E hr h => ?_)
  · obtain ⟨v, p, rfl, _⟩ := h
    rfl
  · obtain ⟨v, p, rfl, hPT, bp, tg, q⟩ := h
    refine ⟨_, (pss_cons (ps_asg (pv 0) (pg_tup rfl (pgs_cons (pg_name (i := 1) sc_is_named.nd rfl (.inl rfl)) (pgs_cons (pg_name (i := 2) sc_is_named.nd rfl (.inl rfl)) (pgs_cons (pg_name (i := 2) sc_is_named.nd rfl (.inl rfl)) (pgs_cons (pg_name (i := 3) sc_is_named.nd rfl (.inl rfl)) (pgs_cons (pg_name (i := 4) sc_is_named.nd rfl (.inl rfl)) (pgs_cons (pg_name (i := 2) sc_is_named.nd rfl (.inl rfl)) pgs_nil))))))))
      (pss_cons (ps_setLc (i := 5) (own := [("told", 7)]) rfl sc_is_named.nd rfl rfl (sw_true rfl rfl rfl (by decide +kernel)) (pi_list (pv 4)) (blkOk_by (N := ["part", "name", "_", "places", "laws", "sources", "names", "told", "word", "there"]) (sc := defScope s_is_named) (by decide +kernel)) (fun _ _ _ _ _ => (pg_name (i := 7) sc_is_named.nd rfl (.inl rfl))) (fun _ _ _ _ _ => (pts_one (pt_cmpR op_ne (pe_call (ok_source_of T) (hr.mono (by decide)) (by rfl) T.source_of.g T.source_of.F.kp T.source_of.b .nil pass0 (pa_cons (pv 7) pa_nil)) pe_str (nomark _)))) (fun _ _ _ _ _ => (pe_call (ok_source_of T) (hr.mono (by decide)) (by rfl) T.source_of.g T.source_of.F.kp T.source_of.b .nil pass0 (pa_cons (pv 7) pa_nil))))
      (pss_cons (ps_set (i := 6) sc_is_named.nd rfl (.inl rfl) (pe_op op_cat (pe_op op_cat (pe_op op_cat (pe_op op_cat (pe_lst (pa_cons (pv 1) pa_nil)) (pe_call (ok_own_names T) (hr.mono (by decide)) (by rfl) T.own_names.g T.own_names.F.kp T.own_names.b .nil pass0 (pa_cons (pv 0) pa_nil))) (pe_lc (own := [("_", 2), ("there", 9)]) (g := gTup K 2 (gCons (gName 2) (gCons (gName 9) gNil))) rfl sc_is_named.nd (pi_list (pv 3)) (blkOk_by (N := ["part", "name", "_", "places", "laws", "sources", "names", "told", "word", "there"]) (sc := defScope s_is_named) (by decide +kernel)) (fun _ _ _ _ _ => (pg_tup rfl (pgs_cons (pg_name (i := 2) sc_is_named.nd rfl (.inl rfl)) (pgs_cons (pg_name (i := 9) sc_is_named.nd rfl (.inl rfl)) pgs_nil)))) (fun _ _ _ _ _ => pts_nil) (fun _ _ _ _ _ => (pv 9)))) (pe_call (ok_part_sizes T) (hr.mono (by decide)) (by rfl) T.part_sizes.g T.part_sizes.F.kp T.part_sizes.b .nil pass0 (pa_cons (pv 0) pa_nil))) (pv 5)))
      (pss_one (ps_ret (GN.pe_allG (own := [("word", 8)]) hr sc_is_named.nd (by rfl) T.m_all TB.is_named rfl (GN.nmOk_by (blkOk_by (N := ["part", "name", "_", "places", "laws", "sources", "names", "told", "word", "there"]) (sc := defScope s_is_named) (by decide +kernel))) (pi_list (pv 6)) (fun _ _ _ _ _ _ => (pg_name (i := 8) sc_is_named.nd rfl (.inl rfl))) (fun _ _ _ _ _ _ hr2 gd2 => (pe_call (ok_is_part_name T TB) (hr2.mono (by decide)) (by rfl) T.is_part_name.g T.is_part_name.F.kp T.is_part_name.b .nil pass0 (pa_cons (pv 8) pa_nil))))))))), ?_⟩
    obtain ⟨a, po, inn, pl, la, jo, rfl, h0, h1, h2, ⟨ys, hy, hA⟩, ⟨zs, hz, hL⟩, h5⟩ := id hPT
    refine ⟨.ref a, rfl, a, _, rfl, h0, rfl, _, _, rfl, _, _, rfl, _, _, rfl, _, _, rfl, _, _, rfl, _, _, rfl, rfl, ?_⟩
    refine ⟨_, rfl, la, rfl, ⟨zs, .of hz⟩, fun S nS => ?_⟩
    refine lc_fm (walk_list (K := K) (a := la) (xs := zs)) p.ls (fun l => if l.src = ("" : Str) then none else some l.src) (fun _ v b => v = .str b) (fun _ _ _ _ _ z => z) hL.len.symm nS (fun H' s => .of (s _ _ hz)) (small' (by have := hL.len; have := bp.ls.1; omega)) (fun i x G Gx zs2 l el sm hD y Qt Qf qt qf => ?_) (fun G zs2 sm hS hR => ?_)
    · obtain ⟨rfl, hx⟩ := y
      obtain ⟨l', hl', rl⟩ := hL.get hx
      obtain rfl := Option.some.inj (el.symm.trans hl')
      have rl := rl.same sm
      refine ⟨rfl, x, rfl, x, l, rfl, rl, rfl, _, rfl, ite2 (fun h => ?_) (fun h => ?_)⟩
      · have ne : l.src ≠ ("" : Str) := fun z => by
          rw [z] at h
          exact absurd h (by decide)
        exact ⟨x, rfl, x, l, rfl, rl, qt _ _ l.src (if_neg ne) (.refl _) rfl⟩
      · have e : l.src = ("" : Str) := Classical.byContradiction fun z => h (by
          show (!decide (V.str l.src = V.str "")) = true
          rw [decide_eq_false fun e => z (V.str.inj e)]; rfl)
        exact qf (if_pos e) _ (.refl _)
    · rw [a2_eq (f := V.str) hR] at hS
      have hS : G S = some (.lst ((srcs p).map V.str)) := hS
      refine ⟨_, rfl, by show 1 ≤ sizeLine; decide, fun z0 n0 => ?_⟩
      have s0 := sm.trans (same_upd n0 (o := .lst [.str p.nm]))
      refine ⟨.ref a, rfl, .ref a, p, rfl, hPT.same s0, bp, fun G1 q1 s1 n1 hq1 => ?_⟩
      have e0 := s1 _ _ (upd_same (H := G) (a := z0) (o := HO.lst [.str p.nm]))
      have b1 := ownNames_len bp
      have b2 := sizesOf_len bp
      have b3 := srcs_len bp
      have b4 := bp.pl.1
      refine ⟨z0, q1, _, _, rfl, rfl, e0, hq1, by rw [List.length_map]; exact small (by show 1 + _ ≤ 60000; omega), fun z1 nz1 => ?_⟩
      have s2 := (s0.trans s1).trans (same_upd nz1 (o := .lst ([.str p.nm] ++ (ownNames p).map V.str)))
      have e1 := upd_same (H := G1) (a := z1) (o := HO.lst ([.str p.nm] ++ (ownNames p).map V.str))
      have hS2 : upd G1 z1 (.lst ([.str p.nm] ++ (ownNames p).map V.str)) S = some (.lst ((srcs p).map V.str)) := (same_upd nz1) _ _ (s1 _ _ (same_upd n0 _ _ hS))
      generalize upd G1 z1 _ = G2 at s2 e1 hS2
      refine ⟨_, rfl, pl, rfl, ⟨_, .of (s2 _ _ hy)⟩, fun D nD => ?_⟩
      refine lc_fm (walk_list (K := K) (a := pl) (xs := ys)) p.pl (fun x => some x.2) (fun _ v b => v = .str b) (fun _ _ _ _ _ z => z) hA.len.symm nD (fun H' s => .of (s _ _ (s2 _ _ hy))) (small' (by have := hA.len; omega)) (fun i x G3 Gx ys2 l el sm3 hD y Qt Qf qt qf => ?_) (fun G3 zs3 sm3 hD hR => ?_)
      · obtain ⟨rfl, hx⟩ := y
        obtain ⟨pr, hpr, t, rfl, hq⟩ := hA.get hx
        obtain rfl := Option.some.inj (el.symm.trans hpr)
        exact ⟨t, _, rfl, Same.seqT (s2.trans sm3) hq, rfl, _, _, rfl, _, _, rfl, rfl, rfl, _, rfl, qt _ _ _ rfl (.refl _) rfl⟩
      · rw [fm_id] at hR
        rw [a2_eq (f := V.str) hR] at hD
        refine ⟨z1, D, _, _, rfl, rfl, sm3 _ _ e1, hD, by simp only [List.length_append, List.length_map, List.length_cons, List.length_nil]; exact small (by omega), fun z4 n4 => ?_⟩
        have s4 := (s2.trans sm3).trans (same_upd n4 (o := .lst (([.str p.nm] ++ (ownNames p).map V.str) ++ (p.pl.map (·.2)).map V.str)))
        have e4 := upd_same (H := G3) (a := z4) (o := HO.lst (([.str p.nm] ++ (ownNames p).map V.str) ++ (p.pl.map (·.2)).map V.str))
        have hS4 := (same_upd n4 (o := .lst (([.str p.nm] ++ (ownNames p).map V.str) ++ (p.pl.map (·.2)).map V.str))) _ _ (sm3 _ _ hS2)
        generalize upd G3 z4 _ = G4 at s4 e4 hS4
        refine ⟨.ref a, rfl, .ref a, p, rfl, hPT.same s4, bp, fun G5 q5 s5 n5 hq5 => ?_⟩
        refine ⟨z4, q5, _, _, rfl, rfl, s5 _ _ e4, hq5, by simp only [List.length_append, List.length_map, List.length_cons, List.length_nil]; exact small (by omega), fun z6 n6 => ?_⟩
        refine ⟨_, rfl, z6, S, _, _, rfl, rfl, upd_same, (same_upd n6) _ _ (s5 _ _ hS4), by simp only [List.length_append, List.length_map, List.length_cons, List.length_nil]; exact small (by omega), fun z7 n7 => ?_⟩
        have s7 := ((s4.trans s5).trans (same_upd n6 (o := .lst ((([.str p.nm] ++ (ownNames p).map V.str) ++ (p.pl.map (·.2)).map V.str) ++ (sizesOf p).map V.str)))).trans (same_upd n7 (o := .lst (((([.str p.nm] ++ (ownNames p).map V.str) ++ (p.pl.map (·.2)).map V.str) ++ (sizesOf p).map V.str) ++ (srcs p).map V.str)))
        have e7 := upd_same (H := upd G5 z6 (.lst ((([.str p.nm] ++ (ownNames p).map V.str) ++ (p.pl.map (·.2)).map V.str) ++ (sizesOf p).map V.str))) (a := z7) (o := HO.lst (((([.str p.nm] ++ (ownNames p).map V.str) ++ (p.pl.map (·.2)).map V.str) ++ (sizesOf p).map V.str) ++ (srcs p).map V.str))
        generalize upd _ z7 _ = G7 at s7 e7
        have e7 : SL G7 z7 (namesOf p) := by
          show G7 z7 = _
          rw [e7]
          unfold namesOf
          simp only [List.map_append, List.map_cons, List.map_nil]
        have t7 := tg.same s7
        refine ⟨_, rfl, z7, rfl, ⟨_, .of e7⟩, t7 _ TB.m3, ?_⟩
        refine GN.gn_it (walk_list (xs := (namesOf p).map V.str)) (fun i G => Lk G7 G ∧ TGs Ps G ∧ ∀ s ∈ (namesOf p).take i, wd12 s = true) (fun G t => ⟨lk_tab (t7 _ TB.m3) t, t7.tab t, fun s hs => by simp at hs⟩) (fun _ _ _ pv => pv.1.seqL (.of e7)) (fun i x G G' hi pv y => ?_) (fun G pv => ?_)
        · obtain ⟨lk, t, al⟩ := pv
          obtain ⟨rfl, hx⟩ := y
          rw [List.getElem?_map] at hx
          obtain ⟨s, hs, rfl⟩ := Option.map_eq_some_iff.mp hx
          have gs := namesOf_gs bp s (mem_at hs)
          refine ⟨rfl, _, rfl, s, rfl, by have := gs.1; omega, t, fun H6 l6 t6 => ⟨_, rfl, ?_⟩⟩
          cases e : wd12 s with
          | true => exact GN.on_t ⟨lk.trans l6, t6, take_all hs al e⟩
          | false => exact GN.end_f (q false _ ⟨fun z => (nomatch z), fun z => by rw [z s (mem_at hs)] at e; cases e⟩ ((lk_of s7).trans (lk.trans l6)) t6)
        · obtain ⟨lk, t, al⟩ := pv
          rw [List.length_map, List.take_length] at al
          exact q true G ⟨fun _ => al, fun _ => rfl⟩ ((lk_of s7).trans lk) t
end
end K07Z
-- S07
namespace K07Z
open PySem PySem.Spec PyProof.Rows L2 K07 TL
open K05 (wd)
/-! ### the parts by their names -/
theorem dget {H : Hp} {a : Addr} {kvs : List (Key × V)} {k : Key} {v : V} (h : H a = some (.dK kvs)) (e : valV kvs k = some v) : DGet H a (kV k) (some v) := by
  rw [← e]
  exact DGet.k h
/-- the dict of a book -/
def kvB (bk : List Prt) (xs : List V) : List (Key × V) := List.zipWith (fun p x => ((.inr p.nm : Key), x)) bk xs
theorem kvB_snoc {bk : List Prt} {xs : List V} {p : Prt} {x : V} (e : bk.length = xs.length) : kvB (bk ++ [p]) (xs ++ [x]) = kvB bk xs ++ [(.inr p.nm, x)] := by
  unfold kvB
  rw [List.zipWith_append e]; rfl
theorem kvB_none {nm : Str} : ∀ {bk : List Prt} {xs : List V}, (∀ p ∈ bk, p.nm ≠ nm) → valV (kvB bk xs) (.inr nm) = none
  | [], _, _ => rfl
  | _ :: _, [], _ => rfl
  | p :: bk, x :: xs, h => by
    show valV ((.inr p.nm, x) :: kvB bk xs) (.inr nm) = none
    rw [valV_neg (fun z => h p List.mem_cons_self (Sum.inr.inj z))]
    exact kvB_none fun q hq => h q (List.mem_cons_of_mem _ hq)
theorem kvB_some : ∀ {bk : List Prt} {xs : List V} {i : Nat} {p : Prt} {x : V}, (bk.map (·.nm)).Nodup → bk[i]? = some p → xs[i]? = some x → valV (kvB bk xs) (.inr p.nm) = some x
  | [], _, _, _, _, _, h, _ => by simp at h
  | _ :: _, [], _, _, _, _, _, h => by simp at h
  | q :: bk, y :: xs, 0, p, x, _, hp, hx => by
    simp at hp hx
    subst hp; subst hx
    exact valV_pos rfl
  | q :: bk, y :: xs, i + 1, p, x, nd, hp, hx => by
    have hp : bk[i]? = some p := by simpa using hp
    have hx : xs[i]? = some x := by simpa using hx
    obtain ⟨n1, n2⟩ := List.nodup_cons.mp (by simpa using nd : (q.nm :: bk.map (·.nm)).Nodup)
    show valV ((.inr q.nm, y) :: kvB bk xs) (.inr p.nm) = some x
    rw [valV_neg (fun z => n1 (by rw [Sum.inr.inj z]; exact List.mem_map_of_mem (mem_at hp)))]
    exact kvB_some n2 hp hx

def Known (bef : List Prt) (p : Prt) : Prop := ∀ x ∈ p.pl, ∃ q ∈ bef, q.nm = x.2
def noPrt : Prt := ⟨"", [], [], [], [], []⟩
def pkOf (bef : List Prt) (p : Prt) : List (Str × Prt) := p.pl.map fun x => (x.1, (bef.find? fun q => decide (q.nm = x.2)).getD noPrt)
theorem find_of {bef : List Prt} {s : Str} (h : ∃ q ∈ bef, q.nm = s) : ∃ q ∈ bef, q.nm = s ∧ (bef.find? fun q => decide (q.nm = s)).getD noPrt = q := by
  obtain ⟨q, hq, e⟩ := h
  cases z : bef.find? fun q => decide (q.nm = s) with
  | none =>
    have := List.find?_eq_none.mp z q hq
    exact absurd (decide_eq_true e) this
  | some r =>
    exact ⟨r, List.mem_of_find?_eq_some z, of_decide_eq_true (by have := List.find?_some z; simpa using this), rfl⟩
theorem pk_in {bef : List Prt} {p : Prt} (h : Known bef p) : ∀ x ∈ pkOf bef p, x.2 ∈ bef := fun x hx => by
  obtain ⟨y, hy, rfl⟩ := List.mem_map.mp hx
  obtain ⟨q, hq, _, e⟩ := find_of (h y hy)
  show (bef.find? fun q => decide (q.nm = y.2)).getD noPrt ∈ bef
  rw [e]
  exact hq
theorem pk_pl {bef : List Prt} {p : Prt} (h : Known bef p) : p.pl = (pkOf bef p).map fun x => (x.1, x.2.nm) := by
  unfold pkOf
  rw [List.map_map]
  refine ((List.map_congr_left fun y hy => ?_).trans (List.map_id _)).symm
  obtain ⟨q, hq, e2, e⟩ := find_of (h y hy)
  show (y.1, ((bef.find? fun q => decide (q.nm = y.2)).getD noPrt).nm) = y
  rw [e, e2]
/-- the port texts -/
def txt (bef : List Prt) (p : Prt) : List Str := p.po ++ (pkOf bef p).flatMap fun x => x.2.po.map fun q => x.1 ++ ("." : Str) ++ q
theorem txs64 : ∀ ks : List (Str × Prt), (∀ x ∈ ks, x.2.po.length ≤ 64) → (ks.flatMap fun x => x.2.po.map fun q => x.1 ++ ("." : Str) ++ q).length ≤ 64 * ks.length := by
  intro ks
  induction ks with
  | nil => exact fun _ => Nat.le_refl _
  | cons k r ih =>
    intro h
    rw [List.flatMap_cons, List.length_append, List.length_map, List.length_cons]
    have := h k List.mem_cons_self
    have := ih fun x hx => h x (List.mem_cons_of_mem _ hx)
    omega
/-- a dict of the parts before -/
def Kv (K : PySem.W.Frag) (H : Hp) (d : Addr) (bef : List Prt) : Prop := ∃ xs, H d = some (.dK (kvB bef xs)) ∧ A2 (PT K H) xs bef ∧ (bef.map (·.nm)).Nodup
theorem SqT.lk {K : PySem.W.Frag} {H H' : Hp} {a : Addr} {xs : List V} (s : Lk H H') (h : SqT K H a xs) : SqT K H' a xs := s.seqT h
section
variable {P : Program} {w : World} {K : PySem.W.Frag} {mg : Str → Option Value} {base : Heap} {Ps : List Addr}
theorem Kv.some {H : Hp} {d : Addr} {bef : List Prt} (h : Kv K H d bef) {s : Str} {q : Prt} (hq : q ∈ bef) (e : q.nm = s) : ∃ v, (∀ H', Same H H' → DGet H' d (.str s) (some v)) ∧ PT K H v q := by
  obtain ⟨xs, hd, hA, nd⟩ := h
  obtain ⟨i, hi, rfl⟩ := List.getElem_of_mem hq
  have e1 : bef[i]? = .some bef[i] := by simp [hi]
  have hl := hA.len
  have e2 : xs[i]? = .some (xs[i]'(by omega)) := by simp [show i < xs.length by omega]
  obtain ⟨p, hp, hP⟩ := hA.get e2
  cases e1.symm.trans hp
  refine ⟨_, fun H' s => ?_, hP⟩
  rw [← e]
  exact dget (s _ _ hd) (kvB_some nd e1 e2)
theorem Kv.none {H : Hp} {d : Addr} {bef : List Prt} (h : Kv K H d bef) {s : Str} (e : ∀ q ∈ bef, q.nm ≠ s) : DGet H d (.str s) none := by
  obtain ⟨xs, hd, hA, nd⟩ := h
  rw [← kvB_none (xs := xs) e]
  exact DGet.k (k := .inr s) hd
theorem Kv.same {H H' : Hp} {d : Addr} {bef : List Prt} (s : Same H H') (h : Kv K H d bef) : Kv K H' d bef := let ⟨xs, a, b, c⟩ := h; ⟨xs, s _ _ a, b.mono fun _ _ z => z.same s, c⟩
end
end K07Z
-- I07
namespace K07Z
open PySem PySem.Spec PyProof.Rows L2 K07 TL
open K05 (wd)
/-! ### too long, taken names -/
theorem vH_strs (ss : List Str) : (ss.map Sum.inr).map vH = ss.map V.str := by rw [List.map_map]; rfl
theorem nodup_inr {ss : List Str} : (ss.map Sum.inr : List Hd).Nodup ↔ ss.Nodup := by
  unfold List.Nodup
  rw [List.pairwise_map]
  exact ⟨fun h => h.imp fun n e => n (congrArg _ e), fun h => h.imp fun n e => n (Sum.inr.inj e)⟩
theorem most_at {i : Nat} (h : i < 5) : [V.int 8, V.int 12, V.int 12, V.int 20, V.int 20][i]? = some (.int (mosts i)) := by
  match i, h with
  | 0, _ => rfl
  | 1, _ => rfl
  | 2, _ => rfl
  | 3, _ => rfl
  | 4, _ => rfl
/-- the lists of a part have these lengths -/
theorem part_at {K : PySem.W.Frag} {H : Hp} {v : V} {p : Prt} (h : PT K H v p) : ∃ a xs, v = .ref a ∧ SqT K H a xs ∧ atI xs 0 = some (.str p.nm) ∧ ∀ i : Nat, i < 5 → ∃ r zs, atI xs ((i : Int) + 1) = some (.ref r) ∧ H r = some (.lst zs) ∧ zs.length = lens p i := by
  obtain ⟨a, po, inn, pl, la, jo, rfl, h0, h1, h2, ⟨ys, hy, hA⟩, ⟨zs, hz, hL⟩, ⟨us, hu, hJ⟩⟩ := h
  refine ⟨a, _, rfl, h0, rfl, fun i hi => ?_⟩
  match i, hi with
  | 0, _ => exact ⟨po, _, rfl, h1, by rw [List.length_map]; rfl⟩
  | 1, _ => exact ⟨inn, _, rfl, h2, by rw [List.length_map]; rfl⟩
  | 2, _ => exact ⟨pl, _, rfl, hy, hA.len⟩
  | 3, _ => exact ⟨la, _, rfl, hz, hL.len⟩
  | 4, _ => exact ⟨jo, _, rfl, hu, hJ.len⟩
section
variable {P : Program} {w : World} {K : PySem.W.Frag} {mg : Str → Option Value} {base : Heap} {Ps : List Addr}
def sp_is_too_long (K : PySem.W.Frag) (Ps : List Addr) : Sp := fun vs H Q _ => ∃ (v : V) (p : Prt), vs = [v] ∧ PT K H v p ∧ TGs Ps H ∧ ∀ (b : Bool) H', (b = true ↔ TooLong p) → Lk H H' → TGs Ps H' → Q (.bl b) H'
theorem ok_is_too_long (T : Txt K mg) (TB : Tbs base T Ps) : FnOk P w K mg base CX0 3 T.is_too_long.a T.is_too_long.fd ["part"] (sp_is_too_long K Ps) := by
  refine T.is_too_long.ok sc_is_too_long (fun vs H Q E h => ?_) (fun A outer s H vs Q E hr h => ?_)
  · obtain ⟨v, p, rfl, _⟩ := h
    rfl
  · obtain ⟨v, p, rfl, hPT, tg, q⟩ := h
    refine ⟨_, (pss_one (ps_ret (GN.pe_anyG (own := [("k", 1), ("most", 2)]) (g := gTup K 2 (gCons (gName 1) (gCons (gName 2) gNil))) hr sc_is_too_long.nd (by rfl) T.m_any TB.is_too_long rfl (GN.nmOk_by (blkOk_by (N := ["part", "k", "most"]) (sc := defScope s_is_too_long) (by decide +kernel))) (ET.pi_enumT (by rfl) T.m_enumerate (pa_cons (pe_glob (v := .ref T.aMP) rfl T.c_MOST_IN_PART rfl) pa_nil)) (fun _ _ _ _ _ _ => (pg_tup rfl (pgs_cons (pg_name (i := 1) sc_is_too_long.nd rfl (.inl rfl)) (pgs_cons (pg_name (i := 2) sc_is_too_long.nd rfl (.inl rfl)) pgs_nil)))) (fun _ _ _ _ _ _ hr2 gd2 => (pe_cmpR op_gt (pe_callB (id := "len") (r := rLenS K) call_lenC (by rfl) T.m_len (by decide +kernel) (pa_cons (pe_ix (r := rIxT K) ix_tup (pv 0) (pe_op op_add (pv 1) pe_int) (fun _ _ => rfl)) pa_nil)) (pv 2) (nomark _)))))), ?_⟩
    obtain ⟨a, xs, rfl, h0, -, hat⟩ := part_at hPT
    refine ⟨T.aMP, _, rfl, T.t_MOST_IN_PART H, tg _ TB.m4, ?_⟩
    refine GN.gn_it (ET.walk (K := K) (a := T.aMP)) (fun i G => Lk H G ∧ TGs Ps G ∧ ∀ j < i, ¬ mosts j < (lens p j : Nat)) (fun G t => ⟨lk_tab (tg _ TB.m4) t, tg.tab t, fun j hj => absurd hj (Nat.not_lt_zero _)⟩) (fun _ _ _ _ => T.t_MOST_IN_PART _) (fun i x G G' hi pv y => ?_) (fun G pv => ?_)
    · obtain ⟨lk, t, al⟩ := pv
      obtain ⟨t0, x0, x1, rfl, nT, rfl, e0, e1⟩ := y
      cases e0
      have e1 : [V.int 8, V.int 12, V.int 12, V.int 20, V.int 20][i]? = some x1 := e1
      have hi : i < 5 := hi
      rw [most_at hi] at e1
      obtain rfl := Option.some.inj e1
      have su := same_upd nT (o := .tup [V.int (i : Nat), V.int (mosts i)])
      obtain ⟨r, zs, ar, hr', lz⟩ := hat i hi
      have lk2 := lk.trans (lk_of su)
      refine ⟨t0, _, rfl, .of upd_same, rfl, _, _, rfl, _, _, rfl, rfl, rfl, _, rfl, _, rfl, _, _, rfl, rfl, a, _, _, _, rfl, rfl, lk2.seqT h0, ar, r, _, rfl, .inl (.of (lk2.lst hr')), _, rfl, _, _, rfl, rfl, _, rfl, ?_⟩
      rw [lz]
      by_cases h : mosts i < (lens p i : Nat)
      · rw [decide_eq_true h]
        exact GN.end_t (q true _ ⟨fun _ => ⟨i, hi, h⟩, fun _ => rfl⟩ lk2 (t.same su))
      · rw [decide_eq_false h]
        refine GN.on_f ⟨lk2, t.same su, fun j hj => ?_⟩
        rcases Nat.lt_or_eq_of_le (Nat.le_of_lt_succ hj) with z | rfl
        · exact al j z
        · exact h
    · obtain ⟨lk, t, al⟩ := pv
      exact q false G ⟨fun z => (nomatch z), fun ⟨i, hi, z⟩ => absurd z (al i hi)⟩ lk t
def sp_has_taken_name (K : PySem.W.Frag) : Sp := fun vs H Q _ => ∃ (v : V) (p : Prt) (d : Addr) (bef : List Prt), vs = [v, .ref d] ∧ PT K H v p ∧ Kv K H d bef ∧ BP p ∧ ∀ (b : Bool) H', (b = true ↔ Taken bef p) → Same H H' → Q (.bl b) H'
theorem ok_has_taken_name (T : Txt K mg) : FnOk P w K mg base CX0 4 T.has_taken_name.a T.has_taken_name.fd ["part", "before"] (sp_has_taken_name K) := by
  refine T.has_taken_name.F.ok sc_has_taken_name (fun vs H Q E h => ?_) (fun cdv A outer s H vs Q E hr h => ?_)
  · obtain ⟨v, p, d, bef, rfl, _⟩ := h
    rfl
  · obtain ⟨v, p, d, bef, rfl, hPT, hk, bp, q⟩ := h
    refine ⟨_, (pss_one (ps_ret (pe_or (pe_cmp (pc_din (r1 hr) (pe_ix ix_tup (pv 0) pe_int (fun _ _ => rfl)) (pv 1))) (pe_one (pe_call (ok_has_twice T) (hr.mono (by decide)) (by rfl) T.has_twice.g T.has_twice.F.kp T.has_twice.b .nil pass0 (pa_cons (pe_op op_cat (pe_call (ok_own_names T) (hr.mono (by decide)) (by rfl) T.own_names.g T.own_names.F.kp T.own_names.b .nil pass0 (pa_cons (pv 0) pa_nil)) (pe_call (ok_part_sizes T) (hr.mono (by decide)) (by rfl) T.part_sizes.g T.part_sizes.F.kp T.part_sizes.b .nil pass0 (pa_cons (pv 0) pa_nil))) pa_nil)))))), ?_⟩
    obtain ⟨a, po, inn, pl, la, jo, rfl, h0, h1, h2, _⟩ := id hPT
    have hd : ∃ r, DGet H d (.str p.nm) r ∧ (r.isSome = true ↔ ∃ q ∈ bef, q.nm = p.nm) := by
      by_cases e : ∃ q ∈ bef, q.nm = p.nm
      · obtain ⟨q, hq, e2⟩ := id e
        obtain ⟨v, g, _⟩ := hk.some hq e2
        exact ⟨_, g H (.refl _), fun _ => e, fun _ => rfl⟩
      · exact ⟨_, hk.none (fun q hq z => e ⟨q, hq, z⟩), (fun z => by cases z), fun z => absurd z e⟩
    obtain ⟨r, gr, er⟩ := hd
    refine ⟨.ref a, rfl, a, _, _, _, rfl, rfl, h0, rfl, _, rfl, d, _, rfl, gr, _, rfl, ite2 (fun h => ?_) (fun h => ?_)⟩
    · have := q true H ⟨fun _ => .inl (er.mp h), fun _ => rfl⟩ (.refl _)
      exact this
    · refine ⟨.ref a, rfl, .ref a, p, rfl, hPT, bp, fun G1 q1 s1 n1 hq1 => ?_⟩
      refine ⟨.ref a, rfl, .ref a, p, rfl, hPT.same s1, bp, fun G2 q2 s2 n2 hq2 => ?_⟩
      have b1 := ownNames_len bp
      have b2 := sizesOf_len bp
      refine ⟨q1, q2, _, _, rfl, rfl, s2 _ _ hq1, hq2, by rw [List.length_map, List.length_map]; exact small (by omega), fun z nz => ?_⟩
      refine ⟨z, (ownNames p ++ sizesOf p).map Sum.inr, rfl, .of (by rw [upd_same, vH_strs, List.map_append]), by rw [List.length_map, List.length_append]; omega, fun b H' hb s3 => ?_⟩
      rw [nodup_inr] at hb
      exact q b H' (hb.trans ⟨.inr, fun z => z.resolve_left fun z => h (er.mpr z)⟩) (s1.trans (s2.trans ((same_upd nz).trans s3)))
end
end K07Z
-- P07
namespace K07Z
open PySem PySem.Spec PyProof.Rows L2 K07 TL
open K05 (wd)
section
variable {P : Program} {w : World} {K : PySem.W.Frag} {mg : Str → Option Value} {base : Heap} {Ps : List Addr}
def sp_port_texts (K : PySem.W.Frag) : Sp := fun vs H Q _ => ∃ (v : V) (d : Addr) (p : Prt) (bef : List Prt), vs = [v, .ref d] ∧ PT K H v p ∧ Kv K H d bef ∧ Known bef p ∧ BP p ∧ (∀ x ∈ bef, BP x) ∧
  ∀ (H' : Hp) (q : Addr), Same H H' → H q = none → SL H' q (txt bef p) → Q (.ref q) H'
theorem ok_port_texts (T : Txt K mg) : FnOk P w K mg base CX0 1 T.port_texts.a T.port_texts.fd ["part", "before"] (sp_port_texts K) := by
  refine T.port_texts.F.ok sc_port_texts (fun vs H Q E h => ?_) (fun cdv A outer s H vs Q E hr h => ?_)
  · obtain ⟨v, d, p, bef, rfl, _⟩ := h
    rfl
  · obtain ⟨v, d, p, bef, rfl, ⟨a, po, inn, pl, la, jo, rfl, h0, h1, h2, ⟨ys, hy, hA⟩, _⟩, hd, kn, bp, bb, q⟩ := h
    unfold txt at q
    have hin := pk_in kn
    have many : (pkOf bef p).length ≤ 64 := by unfold pkOf; rw [List.length_map]; exact bp.pl.1
    have gpl : ∀ x ∈ pkOf bef p, GS 60 x.1 := fun x hx => by
      obtain ⟨y, hy, rfl⟩ := List.mem_map.mp hx
      exact (bp.pl.2 y hy).1
    rw [pk_pl kn] at hA
    generalize pkOf bef p = pk at q hA hin many gpl
    refine ⟨_, (pss_cons (ps_asg (pv 0) (pg_tup rfl (pgs_cons (pg_name (i := 2) sc_port_texts.nd rfl (.inl rfl)) (pgs_cons (pg_name (i := 3) sc_port_texts.nd rfl (.inl rfl)) (pgs_cons (pg_name (i := 2) sc_port_texts.nd rfl (.inl rfl)) (pgs_cons (pg_name (i := 4) sc_port_texts.nd rfl (.inl rfl)) (pgs_cons (pg_name (i := 2) sc_port_texts.nd rfl (.inl rfl)) (pgs_cons (pg_name (i := 2) sc_port_texts.nd rfl (.inl rfl)) pgs_nil))))))))
      (pss_one (ps_ret (pe_op op_cat (pv 3) (pe_lc2 (wi1 := iList K _) (own := [("name", 5), ("there", 6), ("port", 7)]) (vs1 := [7]) (g := gTup K 2 (gCons (gName 5) (gCons (gName 6) gNil))) rfl sc_port_texts.nd (pi_list (pv 4)) (blkOk_by (N := ["part", "before", "_", "ports", "places", "name", "there", "port"]) (sc := defScope s_port_texts) (by decide +kernel)) (by decide) (fun _ _ _ _ _ => (pg_tup rfl (pgs_cons (pg_name (i := 5) sc_port_texts.nd rfl (.inl rfl)) (pgs_cons (pg_name (i := 6) sc_port_texts.nd rfl (.inl rfl)) pgs_nil)))) (fun _ _ _ _ _ => pts_nil) (fun _ _ _ _ _ => (pi_list (pe_ix (r := rIxT K) ix_tup (pe_dget (r1 hr) (pv 1) (pv 6) (fun _ _ => rfl)) pe_int (fun _ _ => rfl)))) (fun _ _ _ _ _ => (pg_name (i := 7) sc_port_texts.nd rfl (.inl rfl))) (fun _ _ _ _ _ => pts_nil) (fun _ _ _ _ _ => (pe_joined (.cons (pe_fmt (pv 5)) (.cons pe_str (.cons (pe_fmt (pv 7)) .nil)))))))))), ?_⟩
    refine ⟨.ref a, rfl, a, _, rfl, h0, rfl, _, _, rfl, _, _, rfl, _, _, rfl, _, _, rfl, _, _, rfl, _, _, rfl, rfl, ?_⟩
    rw [show L2.start ["part", "before", "_", "ports", "places", "name", "there", "port"] [V.ref a, V.ref d] = [some (.ref a), some (.ref d), none, none, none, none, none, none] from rfl]
    dsimp only [List.set]
    refine ⟨_, rfl, _, rfl, pl, rfl, ⟨ys, .of hy⟩, fun D nD => ?_⟩
    refine lc2_out (te := fun σ H Q => tJs [tFmt (tVar 5), tC (V.str ("." : Str)), tFmt (tVar 7)] Str.empty σ H fun out H1 => Q (V.str out) H1) (walk_list (K := K) (a := pl) (xs := ys)) (fun i G => Same H G ∧ G D = some (.lst (((pk.take i).flatMap fun x => x.2.po.map fun q => x.1 ++ ("." : Str) ++ q).map V.str))) ⟨same_upd nD, upd_same⟩ (fun _ _ z => .of (z.1 _ _ hy)) (fun i x G Hx hi z y => ?_) (fun G z => ?_)
    · obtain ⟨sm, hD⟩ := z
      obtain ⟨rfl, hx⟩ := y
      obtain ⟨pr, hpr, t, rfl, hq⟩ := hA.get hx
      rw [List.getElem?_map] at hpr
      cases ek : pk[i]? with
      | none => rw [ek] at hpr; cases hpr
      | some kx =>
        rw [ek] at hpr
        obtain rfl := Option.some.inj hpr
        have mk := mem_at ek
        have bk := bb _ (hin kx mk)
        obtain ⟨v, hv, ka, kpo, kinn, kpl, kla, kjo, rfl, hkt, hkpo, _⟩ := hd.some (hin kx mk) rfl
        have tk : (pk.take (i + 1)).flatMap (fun x => x.2.po.map fun q => x.1 ++ ("." : Str) ++ q) = (pk.take i).flatMap (fun x => x.2.po.map fun q => x.1 ++ ("." : Str) ++ q) ++ kx.2.po.map fun q => kx.1 ++ ("." : Str) ++ q := by rw [take_snoc ek, List.flatMap_append, List.flatMap_singleton]
        have lp := bk.po.1
        have gp := bk.po.2
        have gn := gpl kx mk
        have hkpo' := sm _ _ hkpo
        have ll : ((pk.take i).flatMap fun x => x.2.po.map fun q => x.1 ++ ("." : Str) ++ q).length ≤ 64 * (pk.take i).length := by
          exact txs64 _ fun x hx => (bb _ (hin x (List.mem_of_mem_take hx))).po.1
        have l20 : (pk.take i).length ≤ 64 := by rw [List.length_take]; omega
        refine ⟨t, _, rfl, Same.seqT sm hq, rfl, _, _, rfl, _, _, rfl, rfl, rfl, _, rfl, _, rfl, d, _, rfl, hv _ sm, ka, _, _, _, rfl, rfl, Same.seqT sm hkt, rfl, kpo, rfl, ⟨_, .of hkpo'⟩, ?_⟩
        refine lc2_in (te := fun σ H Q => tJs [tFmt (tVar 5), tC (V.str ("." : Str)), tFmt (tVar 7)] Str.empty σ H fun out H1 => Q (V.str out) H1) (walk_list (K := K) (a := kpo) (xs := kx.2.po.map V.str)) (fun j G => Same H G ∧ G D = some (.lst ((((pk.take i).flatMap fun x => x.2.po.map fun q => x.1 ++ ("." : Str) ++ q) ++ (kx.2.po.take j).map fun q => kx.1 ++ ("." : Str) ++ q).map V.str))) ⟨sm, by rw [List.take_zero, List.map_nil, List.append_nil]; exact hD⟩ (fun _ _ z => .of (z.1 _ _ hkpo)) (fun j y G G' hj z yy => ?_) (fun G z => ?_)
        · obtain ⟨sg, hD⟩ := z
          obtain ⟨rfl, hy2⟩ := yy
          rw [List.getElem?_map] at hy2
          cases ej : kx.2.po[j]? with
          | none => rw [ej] at hy2; cases hy2
          | some qn =>
            rw [ej] at hy2
            obtain rfl := Option.some.inj hy2
            have g1 := gn.1
            have g2 := (gp qn (mem_at ej)).1
            have es : ∀ x : Str, (Str.empty ++ x : Str) = x := str_empty
            have lt := hj
            rw [List.length_map] at lt
            refine ⟨rfl, _, rfl, .inl ⟨kx.1, rfl, small (by omega), _, rfl, ?_, _, rfl, ?_, _, rfl, .inl ⟨qn, rfl, small (by omega), _, rfl, ?_, _, hD, ?_, same_over sg nD, ?_⟩⟩⟩
            · rw [es]; exact small (by omega)
            · rw [es, Str.length_append]; exact small (by show _ + 1 ≤ 60000; omega)
            · rw [es, Str.length_append, Str.length_append]; exact small (by show _ + 1 + _ ≤ 60000; omega)
            · rw [List.length_map, List.length_append, List.length_map, List.length_take]; exact small' (by omega)
            · rw [upd_same, es, take_snoc ej]
              simp only [List.map_append, List.append_assoc, List.map_cons, List.map_nil]
        · obtain ⟨sg, hD⟩ := z
          rw [List.length_map, List.take_length] at hD
          exact ⟨sg, by rw [tk]; exact hD⟩
    · obtain ⟨sm, hD⟩ := z
      have el := hA.len
      rw [List.length_map] at el
      rw [List.take_of_length_le (by omega)] at hD
      refine ⟨po, D, _, _, rfl, rfl, sm _ _ h1, hD, ?_, fun z nz => q _ z (sm.trans (same_upd nz)) (same_none sm nz) ?_⟩
      · have h2 : ((pk).flatMap fun x => x.2.po.map fun q => x.1 ++ ("." : Str) ++ q).length ≤ 64 * pk.length := txs64 _ fun x hx => (bb _ (hin x hx)).po.1
        have h3 := bp.po.1
        rw [List.length_map, List.length_map]
        exact small (by omega)
      · show upd G z _ z = _
        rw [upd_same, ← List.map_append]
end
end K07Z
-- U07
namespace K07Z
open PySem PySem.Spec PyProof.Rows L2 K07 TL
open K05 (wd)
/-! ### unknown names -/
/-- a dict comprehension over any walk -/
theorem dc_walk {J : It} {n : Nat} {GG : Hp → Prop} {Y : Nat → Hp → V → Hp → Prop} {g : TG} {tt : TT} {tk tv : TE} {vs : List Nat} {σ : L2.St} {H1 : Hp} {D : Addr} {Qd : Hp → Prop} (w : Walk J n GG Y) (Pv : Nat → Hp → Prop) (h0 : Pv 0 (upd H1 D (.dK []))) (hG : ∀ i G, Pv i G → GG G)
    (hs : ∀ i x G G', i < n → Pv i G → Y i G x G' → g x (wipe σ vs) G' fun σ2 H2 => wipe σ2 vs = wipe σ vs ∧ tt σ2 H2 fun b H3 => if b = true then tk σ2 H3 fun y H4 => tv σ2 H4 fun z H5 => ∃ (kvs : List (Key × V)) (k : Key), y = kV k ∧ H5 D = some (.dK kvs) ∧ kvs.length < sizeLine ∧ Pv (i + 1) (upd H5 D (.dK (putK kvs k z))) else Pv (i + 1) H3)
    (hd : ∀ G, Pv n G → Qd G) : ∃ W : Nat → Nat → Hp → Prop, (∃ m, W 0 m (upd H1 D (.dK []))) ∧ ∀ i m H, W i m H → (J.stop i H ∧ Qd H) ∨ (J.go i H ∧ ∃ Nx : Hp → Prop, (∀ H', Nx H' → ∃ m', m' < m ∧ W (i + 1) m' H') ∧
      ∀ x H', J.yld i H x H' → g x (wipe σ vs) H' fun σ2 H2 => wipe σ2 vs = wipe σ vs ∧ tt σ2 H2 fun b H3 => if b = true then tk σ2 H3 fun y H4 => tv σ2 H4 fun z H5 => ∃ (kvs : List (Key × V)) (k : Key), y = kV k ∧ H5 D = some (.dK kvs) ∧ kvs.length < sizeLine ∧ Nx (upd H5 D (.dK (putK kvs k z))) else Nx H3) := by
  refine ⟨fun j k H => k + j = n ∧ Pv j H, ⟨n, rfl, h0⟩, fun j k H ⟨e, p⟩ => ?_⟩
  rcases Nat.lt_or_ge j n with lt | ge
  · exact .inr ⟨w.goes j H lt (hG j H p), Pv (j + 1), fun H' p' => ⟨k - 1, by omega, by omega, p'⟩, fun x H' y => hs j x H H' lt p (w.yields j H x H' lt (hG j H p) y)⟩
  · obtain rfl : j = n := by omega
    exact .inl ⟨w.stops H (hG _ H p), hd H p⟩
theorem put_len (kvs : List (Key × V)) (k : Key) (v : V) : (putK kvs k v).length ≤ kvs.length + 1 := by
  unfold putK
  split
  · rw [List.length_map]; omega
  · rw [List.length_append]; exact Nat.le_refl _
/-- a dict tells which texts are known -/
def Ktx (H : Hp) (d : Addr) (ts : List Str) : Prop := ∃ kvs : List (Key × V), H d = some (.dK kvs) ∧ ∀ s, (valV kvs (.inr s)).isSome = true ↔ s ∈ ts
theorem Ktx.same {H H' : Hp} {d : Addr} {ts : List Str} (s : Same H H') (h : Ktx H d ts) : Ktx H' d ts := let ⟨k, a, b⟩ := h; ⟨k, s _ _ a, b⟩
theorem Ktx.lk {H H' : Hp} {d : Addr} {ts : List Str} (s : Lk H H') (h : Ktx H d ts) : Ktx H' d ts := let ⟨k, a, b⟩ := h; ⟨k, s _ _ a (fun q z => nomatch z), b⟩
theorem Ktx.get {H : Hp} {d : Addr} {ts : List Str} (h : Ktx H d ts) (s : Str) : ∃ r, DGet H d (.str s) r ∧ (r.isSome = true ↔ s ∈ ts) := by
  obtain ⟨k, a, b⟩ := h
  exact ⟨_, DGet.k (k := .inr s) a, b s⟩
theorem Kv.lk {K : PySem.W.Frag} {H H' : Hp} {d : Addr} {bef : List Prt} (s : Lk H H') (h : Kv K H d bef) : Kv K H' d bef := let ⟨xs, a, b, c⟩ := h; ⟨xs, s _ _ a (fun q z => nomatch z), b.mono fun _ _ z => z.lk s, c⟩
def LawsKnown (p : Prt) : Prop := ∀ l ∈ p.ls, ∀ x ∈ l.places, x.2 ∈ own p.po p.inn
def JosKnown (bef : List Prt) (p : Prt) : Prop := ∀ j ∈ p.jo, ∀ t ∈ j, t ∈ txt bef p
def Unk (bef : List Prt) (p : Prt) : Prop := ¬ (LawsKnown p ∧ JosKnown bef p)
theorem flat_len : ∀ xs : List Str, (xs.flatMap fun x => [x ++ (".u" : Str), x ++ (".i" : Str)]).length = 2 * xs.length := flat_two
theorem own_len {p : Prt} (h : BP p) : (own p.po p.inn).length ≤ 192 := by
  unfold own
  rw [List.length_append, flat_two]
  have := h.po.1
  have := h.inn.1
  omega
theorem txt_len {bef : List Prt} {p : Prt} (h : BP p) (hb : ∀ x ∈ bef, BP x) (kn : Known bef p) : (txt bef p).length ≤ 4160 := by
  unfold txt
  rw [List.length_append]
  have a := txs64 (pkOf bef p) fun x hx => (hb _ (pk_in kn x hx)).po.1
  have b : (pkOf bef p).length ≤ 64 := by unfold pkOf; rw [List.length_map]; exact h.pl.1
  have c := h.po.1
  omega
section
variable {P : Program} {w : World} {K : PySem.W.Frag} {mg : Str → Option Value} {base : Heap} {Ps : List Addr}
def sp_has_unknown_name (K : PySem.W.Frag) (Ps : List Addr) : Sp := fun vs H Q _ => ∃ (v : V) (p : Prt) (d : Addr) (bef : List Prt), vs = [v, .ref d] ∧ PT K H v p ∧ Kv K H d bef ∧ Known bef p ∧ BP p ∧ (∀ x ∈ bef, BP x) ∧ TGs Ps H ∧ ∀ (b : Bool) H', (b = true ↔ Unk bef p) → Lk H H' → TGs Ps H' → Q (.bl b) H'
theorem ok_has_unknown_name (T : Txt K mg) (TB : Tbs base T Ps) : FnOk P w K mg base CX0 5 T.has_unknown_name.a T.has_unknown_name.fd ["part", "before"] (sp_has_unknown_name K Ps) := by
  refine T.has_unknown_name.ok sc_has_unknown_name (fun vs H Q E h => ?_) (fun A outer s H vs Q E hr h => ?_)
  · obtain ⟨v, p, d, bef, rfl, _⟩ := h
    rfl
  · obtain ⟨v, p, d, bef, rfl, hPT, hk, kn, bp, bb, tg, q⟩ := h
    refine ⟨_, (pss_cons (ps_set (i := 2) sc_has_unknown_name.nd rfl (.inr rfl) (pe_dc (own := [("text", 4)]) rfl sc_has_unknown_name.nd (pi_list (pe_call (ok_own_quantities T) (hr.mono (by decide)) (by rfl) T.own_quantities.g T.own_quantities.F.kp T.own_quantities.b .nil pass0 (pa_cons (pv 0) pa_nil))) (blkOk_by (N := ["part", "before", "known", "texts", "text", "told", "_", "j", "joint"]) (sc := defScope s_has_unknown_name) (by decide +kernel)) (fun _ _ _ _ _ => (pg_name (i := 4) sc_has_unknown_name.nd rfl (.inl rfl))) (fun _ _ _ _ _ => pts_nil) (fun _ _ _ _ _ => (pv 4)) (fun _ _ _ _ _ => pe_bl)))
      (pss_cons (ps_if (pt_not (pt_val (GE.pe_allG2 (own := [("told", 5), ("_", 6), ("j", 7)]) (vs1 := [6, 7]) (wi1 := iList K _) (g1 := gTup K 2 (gCons (gName 6) (gCons (gName 7) gNil))) hr sc_has_unknown_name.nd (by rfl) T.m_all TB.has_unknown_name rfl (GN.nmOk_by (blkOk_by (N := ["part", "before", "known", "texts", "text", "told", "_", "j", "joint"]) (sc := defScope s_has_unknown_name) (by decide +kernel))) (pi_list (pe_ix ix_tup (pv 0) pe_int (fun _ _ => rfl))) (by decide) (fun _ _ _ _ _ _ => (pg_name (i := 5) sc_has_unknown_name.nd rfl (.inl rfl))) (fun _ _ _ _ _ _ hr2 gd2 => (pi_list (pe_call (ok_places_of T) (hr2.mono (by decide)) (by rfl) T.places_of.g T.places_of.F.kp T.places_of.b .nil pass0 (pa_cons (pv 5) pa_nil)))) (fun _ _ _ _ _ _ => (pg_tup rfl (pgs_cons (pg_name (i := 6) sc_has_unknown_name.nd rfl (.inl rfl)) (pgs_cons (pg_name (i := 7) sc_has_unknown_name.nd rfl (.inl rfl)) pgs_nil)))) (fun _ _ _ _ _ _ hr2 gd2 => (pe_cmp (pc_din (r1 hr2) (pv 7) (pv 2)))))))
        (pss_one (ps_ret pe_bl))
        pss_nil)
      (pss_cons (ps_set (i := 3) sc_has_unknown_name.nd rfl (.inr rfl) (pe_dc (own := [("text", 4)]) rfl sc_has_unknown_name.nd (pi_list (pe_call (ok_port_texts T) (hr.mono (by decide)) (by rfl) T.port_texts.g T.port_texts.F.kp T.port_texts.b .nil pass0 (pa_cons (pv 0) (pa_cons (pv 1) pa_nil)))) (blkOk_by (N := ["part", "before", "known", "texts", "text", "told", "_", "j", "joint"]) (sc := defScope s_has_unknown_name) (by decide +kernel)) (fun _ _ _ _ _ => (pg_name (i := 4) sc_has_unknown_name.nd rfl (.inl rfl))) (fun _ _ _ _ _ => pts_nil) (fun _ _ _ _ _ => (pv 4)) (fun _ _ _ _ _ => pe_bl)))
      (pss_one (ps_ret (pe_not (GE.pe_allG2 (own := [("joint", 8), ("text", 4)]) (vs1 := [4]) (wi1 := iList K _) (g1 := gName 4) hr sc_has_unknown_name.nd (by rfl) T.m_all TB.has_unknown_name rfl (GN.nmOk_by (blkOk_by (N := ["part", "before", "known", "texts", "text", "told", "_", "j", "joint"]) (sc := defScope s_has_unknown_name) (by decide +kernel))) (pi_list (pe_ix ix_tup (pv 0) pe_int (fun _ _ => rfl))) (by decide) (fun _ _ _ _ _ _ => (pg_name (i := 8) sc_has_unknown_name.nd rfl (.inl rfl))) (fun _ _ _ _ _ _ hr2 gd2 => (pi_list (pv 8))) (fun _ _ _ _ _ _ => (pg_name (i := 4) sc_has_unknown_name.nd rfl (.inl rfl))) (fun _ _ _ _ _ _ hr2 gd2 => (pe_cmp (pc_din (r1 hr2) (pv 4) (pv 3))))))))))), ?_⟩
    obtain ⟨a, po, inn, pl, la, jo, rfl, h0, h1, h2, h3, ⟨zs, hz, hL⟩, ⟨us, hu, hJ⟩⟩ := id hPT
    have lo := own_len bp
    refine ⟨.ref a, rfl, .ref a, p, rfl, hPT, bp, fun G1 q1 s1 n1 hq1 => ?_⟩
    refine ⟨q1, rfl, ⟨_, .of hq1⟩, fun D nD => ?_⟩
    refine dc_walk (walk_list (K := K) (a := q1) (xs := (own p.po p.inn).map V.str)) (fun i G => Same G1 G ∧ ∃ kvs : List (Key × V), G D = some (.dK kvs) ∧ kvs.length ≤ i ∧ ∀ s, (valV kvs (.inr s)).isSome = true ↔ s ∈ (own p.po p.inn).take i) ⟨same_upd nD, [], upd_same, Nat.le_refl _, fun s => by simp [valV]⟩ (fun _ _ z => .of (z.1 _ _ hq1)) (fun i x G Gx hi z y => ?_) (fun G z => ?_)
    · obtain ⟨sm, kvs, hD, hl, hv⟩ := z
      obtain ⟨rfl, hx⟩ := y
      rw [List.getElem?_map] at hx
      obtain ⟨t, ht, rfl⟩ := Option.map_eq_some_iff.mp hx
      have hi : i < (own p.po p.inn).length := by rw [List.length_map] at hi; exact hi
      refine ⟨rfl, _, rfl, kvs, .inr t, rfl, hD, small' (by omega), same_over sm nD, _, upd_same, Nat.le_trans (put_len _ _ _) (Nat.succ_le_succ hl), fun s => ?_⟩
      rw [valV_put, take_snoc ht, List.mem_append, List.mem_singleton]
      split
      · rename_i e
        exact ⟨fun _ => .inr (Sum.inr.inj e), fun _ => rfl⟩
      · rename_i e
        rw [hv s]
        exact ⟨.inl, fun z => z.resolve_right fun e2 => e (congrArg _ e2)⟩
    · obtain ⟨sm, kvs, hD, _, hv⟩ := z
      rw [List.length_map, List.take_length] at hv
      have kD : Ktx G D (own p.po p.inn) := ⟨kvs, hD, hv⟩
      have sG := s1.trans sm
      clear hv hD
      have tG := tg.same sG
      have lG := lk_of sG
      have noU : ∀ {b : Bool}, Unk bef p → b = true → (b = true ↔ Unk bef p) := fun n e => by
        rw [e]
        exact ⟨fun _ => n, fun _ => rfl⟩
      refine ⟨.ref a, rfl, a, _, _, _, rfl, rfl, lG.seqT h0, rfl, la, rfl, ⟨zs, .of (lG.lst hz)⟩, tG _ TB.m5, ?_⟩
      refine GE.gn2_it (walk_list (xs := zs)) 100 (fun i G2 => Lk G G2 ∧ TGs Ps G2 ∧ ∀ l ∈ p.ls.take i, ∀ x ∈ l.places, x.2 ∈ own p.po p.inn) (fun G2 t => ⟨lk_tab (tG _ TB.m5) t, tG.tab t, fun l hl => by simp at hl⟩) (fun _ _ _ pv => pv.1.seqL (.of (lG.lst hz))) (fun i x G2 Gx hi pv y => ?_) (fun G2 pv => ?_)
      · obtain ⟨lk2, t2, al⟩ := pv
        obtain ⟨rfl, hx⟩ := y
        obtain ⟨l, hl, rl⟩ := hL.get hx
        have bl := bp.ls.2 l (mem_at hl)
        have pl9 := places_len bl
        refine ⟨rfl, x, rfl, x, l, rfl, rl.lk (lG.trans lk2), by have := bl.many; omega, fun G5 q5 s5 n5 ⟨xs5, hp5, hA5⟩ => ⟨q5, rfl, ⟨_, .of hp5⟩, ?_⟩⟩
        have el5 := hA5.len
        refine GE.gi_it (walk_list (xs := xs5)) (by omega) (fun j G6 => Lk G5 G6 ∧ TGs Ps G6 ∧ ∀ x ∈ l.places.take j, x.2 ∈ own p.po p.inn) ⟨Lk.refl, t2.same s5, fun x hx => by simp at hx⟩ (fun _ _ _ pv => pv.1.seqL (.of hp5)) (fun j y G6 G7 hj pv yy => ?_) (fun G6 pv => ?_)
        · obtain ⟨lk6, t6, al6⟩ := pv
          obtain ⟨rfl, hy⟩ := yy
          obtain ⟨r, hr3, b, rfl, hb⟩ := hA5.get hy
          have lk7 := (lk2.trans (lk_of s5)).trans lk6
          obtain ⟨g, gg, eg⟩ := (kD.lk lk7).get r.2
          refine ⟨b, _, rfl, .of (lk6.tup hb), rfl, _, _, rfl, _, _, rfl, rfl, rfl, _, rfl, _, rfl, D, g, rfl, gg, _, rfl, ?_⟩
          by_cases m : g.isSome = true
          · rw [m]
            exact GN.on_t ⟨lk6, t6, take_all hr3 al6 (eg.mp m)⟩
          · rw [Bool.eq_false_iff.mpr m]
            exact GN.end_f ⟨_, rfl, iteT (q true _ (noU (fun z => m (eg.mpr (z.1 l (mem_at hl) r (mem_at hr3)))) rfl) (lG.trans lk7) t6)⟩
        · obtain ⟨lk6, t6, al6⟩ := pv
          rw [el5, List.take_length] at al6
          exact ⟨(lk2.trans (lk_of s5)).trans lk6, t6, take_all hl al al6⟩
      · obtain ⟨lk2, t2, al⟩ := pv
        rw [hL.len, List.take_length] at al
        have lk3 := lG.trans lk2
        refine ⟨_, rfl, iteF ?_⟩
        refine ⟨.ref a, rfl, .ref d, rfl, .ref a, d, p, bef, rfl, hPT.lk lk3, hk.lk lk3, kn, bp, bb, fun G5 q5 s5 n5 hq5 => ⟨q5, rfl, ⟨_, .of hq5⟩, fun D2 nD2 => ?_⟩⟩
        have lt := txt_len bp bb kn
        refine dc_walk (walk_list (K := K) (a := q5) (xs := (txt bef p).map V.str)) (fun i G => Same G5 G ∧ ∃ kvs : List (Key × V), G D2 = some (.dK kvs) ∧ kvs.length ≤ i ∧ ∀ s, (valV kvs (.inr s)).isSome = true ↔ s ∈ (txt bef p).take i) ⟨same_upd nD2, [], upd_same, Nat.le_refl _, fun s => by simp [valV]⟩ (fun _ _ z => .of (z.1 _ _ hq5)) (fun i x G Gx hi z y => ?_) (fun G6 z => ?_)
        · obtain ⟨sm, kvs, hD, hl, hv⟩ := z
          obtain ⟨rfl, hx⟩ := y
          rw [List.getElem?_map] at hx
          obtain ⟨t, ht, rfl⟩ := Option.map_eq_some_iff.mp hx
          have hi : i < (txt bef p).length := by rw [List.length_map] at hi; exact hi
          refine ⟨rfl, _, rfl, kvs, .inr t, rfl, hD, small' (by omega), same_over sm nD2, _, upd_same, Nat.le_trans (put_len _ _ _) (Nat.succ_le_succ hl), fun s => ?_⟩
          rw [valV_put, take_snoc ht, List.mem_append, List.mem_singleton]
          split
          · rename_i e
            exact ⟨fun _ => .inr (Sum.inr.inj e), fun _ => rfl⟩
          · rename_i e
            rw [hv s]
            exact ⟨.inl, fun z => z.resolve_right fun e2 => e (congrArg _ e2)⟩
        · obtain ⟨sm, kvs, hD, _, hv⟩ := z
          rw [List.length_map, List.take_length] at hv
          have kD2 : Ktx G6 D2 (txt bef p) := ⟨kvs, hD, hv⟩
          have lk6 := lk3.trans (lk_of (s5.trans sm))
          clear hv hD
          have t6 := t2.same (s5.trans sm)
          refine ⟨.ref a, rfl, a, _, _, _, rfl, rfl, lk6.seqT h0, rfl, jo, rfl, ⟨us, .of (lk6.lst hu)⟩, t6 _ TB.m5, ?_⟩
          refine GE.gn2_it (walk_list (xs := us)) 100 (fun i G2 => Lk G6 G2 ∧ TGs Ps G2 ∧ ∀ j ∈ p.jo.take i, ∀ x ∈ j, x ∈ txt bef p) (fun G2 t => ⟨lk_tab (t6 _ TB.m5) t, t6.tab t, fun l hl => by simp at hl⟩) (fun _ _ _ pv => pv.1.seqL (.of (lk6.lst hu))) (fun i x G2 Gx hi pv y => ?_) (fun G2 pv => ?_)
          · obtain ⟨lk2', t2', al'⟩ := pv
            obtain ⟨rfl, hx⟩ := y
            obtain ⟨j0, hj0, ja, rfl, hja⟩ := hJ.get hx
            have bj := (bp.jo.2 j0 (mem_at hj0)).1
            have hja := SL.lk (lk6.trans lk2') hja
            refine ⟨rfl, _, rfl, ja, rfl, ⟨_, .of hja⟩, ?_⟩
            refine GE.gi_it (walk_list (xs := j0.map V.str)) (by rw [List.length_map]; omega) (fun j G7 => Lk Gx G7 ∧ TGs Ps G7 ∧ ∀ x ∈ j0.take j, x ∈ txt bef p) ⟨Lk.refl, t2', fun x hx => by simp at hx⟩ (fun _ _ _ pv => pv.1.seqL (.of hja)) (fun j y G7 G8 hj pv yy => ?_) (fun G7 pv => ?_)
            · obtain ⟨lk7, t7, al7⟩ := pv
              obtain ⟨rfl, hy⟩ := yy
              rw [List.getElem?_map] at hy
              obtain ⟨t, ht, rfl⟩ := Option.map_eq_some_iff.mp hy
              obtain ⟨g, gg, eg⟩ := (kD2.lk (lk2'.trans lk7)).get t
              refine ⟨rfl, _, rfl, _, rfl, D2, g, rfl, gg, _, rfl, ?_⟩
              by_cases m : g.isSome = true
              · rw [m]
                exact GN.on_t ⟨lk7, t7, take_all ht al7 (eg.mp m)⟩
              · rw [Bool.eq_false_iff.mpr m]
                exact GN.end_f ⟨_, rfl, q true _ (noU (fun z => m (eg.mpr (z.2 j0 (mem_at hj0) t (mem_at ht)))) rfl) (lk6.trans (lk2'.trans lk7)) t7⟩
            · obtain ⟨lk7, t7, al7⟩ := pv
              rw [List.length_map, List.take_length] at al7
              exact ⟨lk2'.trans lk7, t7, take_all hj0 al' al7⟩
          · obtain ⟨lk2', t2', al'⟩ := pv
            rw [hJ.len, List.take_length] at al'
            exact ⟨_, rfl, q false _ ⟨fun z => (nomatch z), fun z => absurd ⟨al, al'⟩ z⟩ (lk6.trans lk2') t2'⟩
end
end K07Z
-- V07
namespace K07Z
open PySem PySem.Spec PyProof.Rows L2 K07 TL
open K05 (wd)
/-! ### what the law asks of a part -/
section
theorem cut3 {xs : List V} {L : Nat} (h : L ≤ xs.length) : cutV xs none (some (L : Int)) = xs.take L := by
  unfold cutV
  rw [HT.sIx_none, HT.sIx_nat, List.drop_zero, Nat.min_eq_left h, Nat.sub_zero]
def dP5 (p : Int × Str) : PyData := .tuple [.int p.1, .str p.2]
theorem eqv_dP (p q : Int × Str) : PyData.eqv (dP5 p) (dP5 q) = decide (p = q) := by
  show ((p.1 == q.1) && ((p.2 == q.2) && true)) = _
  rw [Bool.and_true, Bool.eq_iff_iff, Bool.and_eq_true, beq_iff_eq, beq_iff_eq, decide_eq_true_eq, Prod.ext_iff]
theorem lay_dP {p : Int × Str} (h : GS 60 p.2) : (dP5 p).canLay0 = true := by
  show (true && ((PyData.str p.2).canLay0 && true)) = true
  rw [str_ok h]; rfl
theorem shaped_dP {p : Int × Str} (h : GS 60 p.2) : SeqAt.shaped (dP5 p) = true := shaped_of (lay_dP h) (by simp [dP5, PyData.depth, PyData.depthAll])
theorem lay_all {α : Type} {f : α → PyData} : ∀ ps : List α, (∀ p ∈ ps, (f p).canLay0 = true) → PyData.canLayAll0 (ps.map f) = true
  | [], _ => rfl
  | p :: r, h => by
    show ((f p).canLay0 && PyData.canLayAll0 (r.map f)) = true
    rw [h p List.mem_cons_self, lay_all r fun x hx => h x (List.mem_cons_of_mem _ hx)]; rfl
theorem depth_all {α : Type} {f : α → PyData} {n : Nat} (h : ∀ p, (f p).depth ≤ n) : ∀ ps : List α, PyData.depthAll (ps.map f) ≤ n
  | [] => Nat.zero_le _
  | p :: r => by
    show max (f p).depth (PyData.depthAll (r.map f)) ≤ n
    exact Nat.max_le.mpr ⟨h p, depth_all h r⟩
theorem shaped_dPs {ps : List (Int × Str)} (h : ∀ p ∈ ps, GS 60 p.2) : SeqAt.shaped (.list (ps.map dP5)) = true := shaped_of (lay_all ps fun p hp => lay_dP (h p hp))
  (Nat.le_trans (Nat.succ_le_succ (depth_all (n := 1) (fun p => by simp [dP5, PyData.depth, PyData.depthAll]) ps)) (by decide))
theorem any_dP (p : Int × Str) (ps : List (Int × Str)) : ((ps.map dP5).any fun z => PyData.eqv z (dP5 p)) = decide (p ∈ ps) := by
  rw [List.any_map, Bool.eq_iff_iff, List.any_eq_true, decide_eq_true_eq]
  constructor
  · rintro ⟨q, hq, e⟩
    have e : PyData.eqv (dP5 q) (dP5 p) = true := e
    rw [eqv_dP] at e
    have e := of_decide_eq_true e
    exact e ▸ hq
  · intro h
    refine ⟨p, h, ?_⟩
    show PyData.eqv (dP5 p) (dP5 p) = true
    rw [eqv_dP]
    exact decide_eq_true rfl
theorem dp_pt5 {K : PySem.W.Frag} {H : Hp} {v : V} {p : Int × Str} (h : PT5 H v p) : Dp K H v (dP5 p) := by
  obtain ⟨a, rfl, e⟩ := h
  exact .tup (.of e) (.cons (.int _) (.cons (.str _) .nil))
theorem A2.take {α β : Type} {R : α → β → Prop} : ∀ {as : List α} {bs : List β} (n : Nat), A2 R as bs → A2 R (as.take n) (bs.take n)
  | _, _, 0, _ => .nil
  | _, _, _ + 1, .nil => .nil
  | _, _, n + 1, .cons h t => .cons h (A2.take n t)
theorem all_iff {α : Type} {p : α → Prop} : ∀ {xs : List α} {bs : List Bool}, A2 (fun b x => b = true ↔ p x) bs xs → (bs.all id = true ↔ ∀ x ∈ xs, p x)
  | _, _, .nil => ⟨fun _ _ z => (nomatch z), fun _ => rfl⟩
  | x :: xs, b :: bs, .cons h t => by
    rw [List.all_cons, Bool.and_eq_true, all_iff t, List.forall_mem_cons]
    exact and_congr h Iff.rfl
/-- a new list of truth values, item by item -/
theorem bools {α : Type} {p : α → Prop} : ∀ {ys : List V} {xs : List α}, A2 (fun v x => ∃ b : Bool, v = .bl b ∧ (b = true ↔ p x)) ys xs → ∃ bs : List Bool, ys = bs.map V.bl ∧ A2 (fun b x => b = true ↔ p x) bs xs
  | _, _, .nil => ⟨[], rfl, .nil⟩
  | _, _, .cons ⟨b, e, h⟩ t => by
    obtain ⟨bs, e2, r⟩ := bools t
    exact ⟨b :: bs, by rw [e, e2]; rfl, .cons h r⟩
/-- twice is: an item among those before it -/
theorem nodup_take {κ : Type} [DecidableEq κ] {xs : List κ} : xs.Nodup ↔ ∀ k, k < xs.length → ¬ ∃ x, xs[k]? = some x ∧ x ∈ xs.take k := by
  constructor
  · intro nd k hk ⟨x, hx, m⟩
    exact twice_at hx m nd
  · intro h
    have : ∀ i, i ≤ xs.length → (xs.take i).Nodup := fun i => by
      induction i with
      | zero => exact fun _ => by simp
      | succ i ih =>
        intro hi
        have hx : xs[i]? = some xs[i] := by simp
        exact once_at hx (ih (by omega)) fun m => h i (by omega) ⟨_, hx, m⟩
    have := this xs.length (Nat.le_refl _)
    rwa [List.take_length] at this
theorem any_iff {α : Type} {p : α → Prop} : ∀ {xs : List α} {bs : List Bool}, A2 (fun b x => b = true ↔ p x) bs xs → (bs.any id = true ↔ ∃ x ∈ xs, p x)
  | _, _, .nil => ⟨fun z => (nomatch z), fun ⟨_, z, _⟩ => (nomatch z)⟩
  | x :: xs, b :: bs, .cons h t => by
    rw [List.any_cons, Bool.or_eq_true, any_iff t]
    constructor
    · rintro (z | ⟨y, hy, z⟩)
      · exact ⟨x, List.mem_cons_self, h.mp z⟩
      · exact ⟨y, List.mem_cons_of_mem _ hy, z⟩
    · rintro ⟨y, hy, z⟩
      rcases List.mem_cons.mp hy with rfl | hy
      · exact .inl (h.mpr z)
      · exact .inr ⟨y, hy, z⟩
end
open K05 (ltr sgn in_letters in_signs)
section
variable {P : Program} {w : World} {K : PySem.W.Frag} {mg : Str → Option Value} {base : Heap} {Ps : List Addr}
def sp_law_ownG (K : PySem.W.Frag) : Sp := fun vs H Q _ => ∃ (a po inn : Addr) (xs : List V) (p : Prt), vs = [.ref a] ∧ SqT K H a xs ∧ atI xs 1 = some (.ref po) ∧ atI xs 2 = some (.ref inn) ∧ SL H po p.po ∧ SL H inn p.inn ∧ p.po.length ≤ 100 ∧ p.inn.length ≤ 1000 ∧ (∀ x ∈ p.po, x.length ≤ 1000) ∧
  ∀ (H' : Hp) (q : Addr), Same H H' → H q = none → SL H' q (own p.po p.inn) → Q (.ref q) H'
theorem ok_law_ownG (T : Txt K mg) : FnOk P w K mg base CX0 1 T.law_own.a T.law_own.fd ["part"] (sp_law_ownG K) := by
  refine T.law_own.F.ok sc_law_own (fun vs H Q E h => ?_) (fun cdv A outer s H vs Q E hr h => ?_)
  · obtain ⟨a, po, inn, xs, p, rfl, _⟩ := h
    rfl
  · obtain ⟨a, po, inn, xs, p, rfl, h0, at1, at2, h1, h2, l1, l2, l3, q⟩ := h
    refine ⟨_, (pss_cons (ps_set (i := 1) sc_law_own.nd rfl (.inl rfl) (pe_lst pa_nil))
      (pss_cons (ps_for PassesOwn.never rfl (pi_list (pe_ix ix_tup (pv 0) pe_int (fun _ _ => rfl))) (pg_name (i := 2) sc_law_own.nd rfl (.inl rfl))
        (pss_one (ps_set (i := 1) sc_law_own.nd rfl (.inl rfl) (pe_op op_cat (pv 1) (pe_lst (pa_cons (pe_op op_add_str (pv 2) pe_str) (pa_cons (pe_op op_add_str (pv 2) pe_str) pa_nil)))))))
      (pss_one (ps_ret (pe_op op_cat (pv 1) (pe_ix ix_tup (pv 0) pe_int (fun _ _ => rfl))))))), ?_⟩
    refine ⟨by show 0 ≤ sizeLine; decide, fun f nf => ⟨.ref a, rfl, _, _, _, _, rfl, rfl, Same.seqT (same_upd nf) h0, at1, po, rfl, ⟨_, .of ((same_upd nf) _ _ h1)⟩, ?_⟩⟩
    have len : ∀ i : Nat, ((p.po.take i).flatMap fun x => [x ++ (".u" : Str), x ++ (".i" : Str)]).length = 2 * (p.po.take i).length := fun i => by
      generalize p.po.take i = xs
      induction xs with
      | nil => rfl
      | cons x r ih => rw [List.flatMap_cons, List.length_append, ih]; show 2 + _ = 2 * (_ + 1); omega
    refine for_it (walk_list (K := K) (a := po) (xs := p.po.map V.str)) (fun i σ G => Same H G ∧ ∃ (v2 : Option V) (f : Addr), H f = none ∧ σ = [some (.ref a), some (.ref f), v2] ∧ SL G f ((p.po.take i).flatMap fun x => [x ++ (".u" : Str), x ++ (".i" : Str)])) ⟨same_upd nf, none, f, nf, rfl, upd_same⟩ (fun _ _ G _ pv => .of (pv.1 _ _ h1)) (fun i x σ G G' hi pv y => ?_) (fun σ G pv => ?_)
    · obtain ⟨sm, v2, f, nf, rfl, hf⟩ := pv
      obtain ⟨rfl, hx⟩ := y
      have hi' : i < p.po.length := by rw [List.length_map] at hi; exact hi
      have ex : p.po[i]? = some p.po[i] := by simp [hi']
      rw [List.getElem?_map, ex] at hx
      have hx : V.str p.po[i] = x := Option.some.inj hx
      subst hx
      have lx := l3 _ (mem_at ex)
      generalize p.po[i] = x at lx ex
      refine ⟨.ref f, rfl, _, rfl, _, _, rfl, rfl, small (by show _ + 2 ≤ 60000; omega), _, rfl, _, _, rfl, rfl, small (by show _ + 2 ≤ 60000; omega), by show 2 ≤ sizeLine; decide, fun t nt => ?_⟩
      have ll : (((p.po.take i).flatMap fun x => [x ++ (".u" : Str), x ++ (".i" : Str)]).map V.str).length + 2 ≤ sizeLine := by
        have := len i
        rw [List.length_map, this, List.length_take]
        exact small (by omega)
      refine ⟨f, t, _, _, rfl, rfl, (same_upd nt) _ _ hf, upd_same, ll, fun z nz => ?_⟩
      refine ⟨same_over (sm.trans (same_upd nt)) (same_none (sm.trans (same_upd nt)) nz), _, z, same_none (sm.trans (same_upd nt)) nz, rfl, ?_⟩
      show upd _ z _ z = _
      rw [upd_same, take_snoc ex, List.flatMap_append, List.map_append]; rfl
    · obtain ⟨sm, v2, f, nf, rfl, hf⟩ := pv
      rw [List.length_map, List.take_length] at hf
      refine ⟨.ref f, rfl, .ref a, rfl, _, _, _, _, rfl, rfl, Same.seqT sm h0, at2, f, inn, _, _, rfl, rfl, hf, sm _ _ h2, ?_, fun z nz => q _ z (same_over sm (same_none sm nz)) (same_none sm nz) ?_⟩
      · have := len p.po.length
        rw [List.take_length] at this
        rw [List.length_map, List.length_map, this]
        exact small (by omega)
      · show upd G z _ z = _
        rw [upd_same, ← List.map_append]; rfl

def sp_law_is_simple : Sp := fun vs H Q _ => ∃ s : Str, vs = [.str s] ∧ s.length ≤ 60000 ∧ ∀ H', Same H H' → Q (.bl (wd12 s)) H'
theorem ok_law_is_simple (T : Txt K mg) : FnOk P w K mg base CX0 1 T.law_is_simple.a T.law_is_simple.fd ["text"] sp_law_is_simple := by
  refine T.law_is_simple.F.ok sc_law_is_simple (fun vs H Q E h => ?_) (fun cdv A outer s H vs Q E hr h => ?_)
  · obtain ⟨s, rfl, _⟩ := h
    rfl
  · obtain ⟨s, rfl, hn, q⟩ := h
    refine ⟨_, (pss_cons (ps_if (PW.pt (pw_or (pt_cmpR op_lt (pe_callB call_len_str (by rfl) T.m_len (by decide +kernel) (pa_cons (pv 0) pa_nil)) pe_int (nomark _)) (pw_or (pt_cmpR op_gt (pe_callB call_len_str (by rfl) T.m_len (by decide +kernel) (pa_cons (pv 0) pa_nil)) pe_int (nomark _)) (pw_or1 (pt_cmpR op_notin_str (pe_ix ix_str (pv 0) pe_int (fun _ _ => rfl)) pe_str rfl)))))
        (pss_one (ps_ret pe_bl))
        pss_nil)
      (pss_one (ps_ret (pe_callB (cr_all rfl) (by rfl) T.m_all (by decide +kernel) (pa_cons (pe_lc (own := [("char", 1)]) rfl sc_law_is_simple.nd (pi_str (pv 0)) (blkOk_by (N := ["text", "char"]) (sc := defScope s_law_is_simple) (by decide +kernel)) (fun _ _ _ _ _ => (pg_name (i := 1) sc_law_is_simple.nd rfl (.inl rfl))) (fun _ _ _ _ _ => pts_nil) (fun _ _ _ _ _ => (pe_cmpR op_in_str (pv 1) pe_str rfl))) pa_nil))))), ?_⟩
    refine ⟨_, rfl, s, rfl, small (by omega), _, _, rfl, rfl, _, rfl, ite2 (fun h => ?_) (fun h => ?_)⟩
    · have e : wd12 s = false := by
        have h := of_decide_eq_true h
        unfold wd12
        rw [show s = ("" : Str) from ext_tl (List.eq_nil_of_length_eq_zero (by rw [← len_tl]; omega))]
        rfl
      rw [e] at q
      exact iteT (q H (.refl _))
    · refine ⟨_, rfl, s, rfl, small (by omega), _, _, rfl, rfl, _, rfl, ite2 (fun h2 => ?_) (fun h2 => ?_)⟩
      · have e : wd12 s = false := by
          unfold wd12
          rw [decide_eq_false (by have := of_decide_eq_true h2; omega), Bool.false_and]
        rw [e] at q
        exact iteT (q H (.refl _))
      · have h1 : 1 ≤ s.length := by
          have := of_decide_eq_false (Bool.eq_false_iff.mpr h)
          omega
        have h12 : s.length ≤ 12 := by
          have := of_decide_eq_false (Bool.eq_false_iff.mpr h2)
          omega
        obtain ⟨c, r, ec⟩ : ∃ c r, tl s = c :: r := by
          cases e : tl s with
          | nil => rw [len_tl, e] at h1; exact absurd h1 (by decide)
          | cons c r => exact ⟨c, r, rfl⟩
        have c0 : atI s.cps.toList 0 = some c := by rw [show s.cps.toList = c :: r from ec]; exact atI_nat (xs := c :: r) (j := 0) rfl
        have ew : wd12 s = wd (c :: r) := by unfold wd12; rw [decide_eq_true h12, Bool.true_and, ec]
        rw [ew, show wd (c :: r) = (ltr c && (c :: r).all sgn) from rfl, ← ec] at q
        refine ⟨_, rfl, s, 0, c, rfl, rfl, small hn, c0, _, _, rfl, rfl, ?_⟩
        rw [StrLaws.found_one, in_letters]
        refine ⟨_, rfl, ?_⟩
        cases hc : ltr c with
        | false =>
          rw [hc, Bool.false_and] at q
          exact iteT (q H (.refl _))
        | true =>
          rw [hc, Bool.true_and] at q
          refine iteF ⟨_, rfl, s, rfl, fun D nD => ?_⟩
          refine lc_inv walk_str (fun i G ys => A2 (fun v c => ∃ b : Bool, v = .bl b ∧ (b = true ↔ sgn c = true)) ys ((tl s).take i)) nD (fun _ _ => trivial) (small' (show s.length < 60000 by omega)) .nil (fun i x G Hx ys hi sm hD hR y Qt Qf qt qf => ?_) (fun G ys sm hD hR => ?_)
          · obtain ⟨rfl, d, hd, rfl⟩ := y
            have hd' : (tl s)[i]? = some d := by rw [show tl s = s.cps.toList from rfl, Array.getElem?_toList]; exact hd
            refine ⟨rfl, _, rfl, _, _, rfl, rfl, ?_⟩
            rw [StrLaws.found_one, in_signs]
            refine qt _ _ (.refl _) ?_
            rw [take_snoc hd']
            exact A2.snoc ⟨_, rfl, Iff.rfl⟩ hR
          · rw [List.take_of_length_le (by rw [← len_tl]; exact Nat.le_refl _)] at hR
            obtain ⟨bs, rfl, hb⟩ := bools hR
            refine ⟨D, bs, rfl, .of hD, ?_⟩
            have e : bs.all id = (tl s).all sgn := by
              rw [Bool.eq_iff_iff, all_iff hb, List.all_eq_true]
            rw [e]
            exact q G sm
theorem str_sz (b : Bool) : decide (V.str (if b then "exact" else "sized") = V.str "sized") = !b := by
  cases b <;> decide +kernel
def sp_law_sizes (K : PySem.W.Frag) : Sp := fun vs H Q _ => ∃ (v : V) (p : Prt), vs = [v] ∧ PT K H v p ∧ BP p ∧ ∀ H' q, Same H H' → H q = none → SL H' q (sizesOf p) → Q (.ref q) H'
theorem ok_law_sizes (T : Txt K mg) : FnOk P w K mg base CX0 1 T.law_sizes.a T.law_sizes.fd ["part"] (sp_law_sizes K) := by
  refine T.law_sizes.F.ok sc_law_sizes (fun vs H Q E h => ?_) (fun cdv A outer s H vs Q E hr h => ?_)
  · obtain ⟨v, p, rfl, _⟩ := h
    rfl
  · obtain ⟨v, p, rfl, ⟨a, po, inn, pl, r, jo, rfl, h0, _, _, _, ⟨xs, h30, h4⟩, _⟩, bp, q⟩ := h
    refine ⟨_, (pss_cons (ps_set (i := 1) sc_law_sizes.nd rfl (.inl rfl) (pe_lst pa_nil))
      (pss_cons (ps_for PassesOwn.never rfl (pi_list (pe_ix ix_tup (pv 0) pe_int (fun _ _ => rfl))) (pg_name (i := 2) sc_law_sizes.nd rfl (.inl rfl))
        (pss_one (ps_if (pt_cmpR op_eq (pe_ix ix_tup (pv 2) pe_int (fun _ _ => rfl)) pe_str (nomark _))
          (pss_one (ps_set (i := 1) sc_law_sizes.nd rfl (.inl rfl) (pe_op op_cat (pv 1) (pe_lc (own := [("term", 3)]) rfl sc_law_sizes.nd (pi_list (pe_ix ix_tup (pv 2) pe_int (fun _ _ => rfl))) (blkOk_by (N := ["part", "found", "law", "term"]) (sc := defScope s_law_sizes) (by decide +kernel)) (fun _ _ _ _ _ => (pg_name (i := 3) sc_law_sizes.nd rfl (.inl rfl))) (fun _ _ _ _ _ => pts_nil) (fun _ _ _ _ _ => (pe_ix (r := rIxT K) ix_tup (pv 3) pe_int (fun _ _ => rfl)))))))
          pss_nil)))
      (pss_one (ps_ret (pv 1))))), ?_⟩
    refine ⟨by show 0 ≤ sizeLine; decide, fun f nf => ?_⟩
    have s0 := same_upd nf (o := .lst [])
    refine ⟨.ref a, rfl, a, _, _, _, rfl, rfl, Same.seqT s0 h0, rfl, r, rfl, ⟨xs, .of (s0 _ _ h30)⟩, ?_⟩
    refine for_it (walk_list (K := K) (a := r) (xs := xs)) (fun i σ G => Same H G ∧ ∃ (v2 v3 : Option V) (f : Addr), H f = none ∧ σ = [some (.ref a), some (.ref f), v2, v3] ∧ SL G f ((p.ls.take i).flatMap Lw.heads)) ⟨s0, none, none, f, nf, rfl, upd_same⟩ (fun _ _ G _ pv => .of (pv.1 _ _ h30)) (fun i x σ G G' hi pv y => ?_) (fun σ G pv => ?_)
    · obtain ⟨sm, v2, v3, f, nf, rfl, hf⟩ := pv
      obtain ⟨rfl, hx⟩ := y
      obtain ⟨l, hl, rl⟩ := h4.get hx
      have bl := bp.ls.2 l (mem_at hl)
      have rl := rl.same sm
      obtain ⟨a3, xs3, e3, ht3, h03⟩ := ex_eq rl
      subst e3
      refine ⟨_, rfl, a3, xs3, _, _, rfl, rfl, ht3, h03, rfl, _, rfl, ?_⟩
      rw [str_sz]
      obtain ⟨a4, tp, e4, ⟨zs, hz, hT⟩, hd⟩ := rl
      injection e4 with e4
      subst e4
      have bm := bl.many
      have len1 : ((p.ls.take i).flatMap Lw.heads).length ≤ 512 := by
        have a := sizes_len (ls := p.ls.take i) fun l hl => (bp.ls.2 l (List.mem_of_mem_take hl)).many
        rw [sizes_flat, List.length_map, List.length_take] at a
        have := bp.ls.1
        omega
      rcases hd with ⟨ex, hd⟩ | ⟨ex, hd⟩
      · rw [ex]
        refine iteF ⟨sm, _, _, f, nf, rfl, ?_⟩
        rw [take_snoc hl, List.flatMap_append, List.flatMap_singleton, show l.heads = [] by unfold Lw.heads; rw [ex]; rfl, List.append_nil]
        exact hf
      · rw [ex]
        refine iteT ⟨.ref f, rfl, _, rfl, a3, _, _, _, rfl, rfl, hd, rfl, tp, rfl, ⟨zs, .of hz⟩, fun D nD => ?_⟩
        refine lc_fm (walk_list (xs := zs)) l.ts (fun t => some t.h) (fun _ v b => v = vH b) (fun _ _ _ _ _ z => z) hT.len.symm nD (fun H' s => .of (s _ _ hz)) (small' (by have := hT.len; omega)) (fun i x H' Hx ys t ht sm hD y Qt Qf qt qf => ?_) (fun H' ys sm2 hD hR => ?_)
        · obtain ⟨rfl, hx⟩ := y
          obtain ⟨t', ht', r⟩ := hT.get hx
          obtain rfl := Option.some.inj (ht.symm.trans ht')
          obtain ⟨b, rfl, rb⟩ := r.same sm
          exact ⟨rfl, _, rfl, b, _, _, _, rfl, rfl, rb, rfl, qt _ _ _ rfl (Same.refl _) rfl⟩
        · have hD : H' D = some (.lst (l.heads.map V.str)) := by
            rw [hD, a2_eq hR]
            unfold Lw.heads
            rw [ex, fm_id, List.map_map, if_neg (by decide), List.map_map]
            exact congrArg (fun x => some (HO.lst x)) (List.map_congr_left fun t ht => by
              obtain ⟨s, e, _⟩ := bl.nam ex t ht
              show vH t.h = V.str (hS t.h)
              rw [e]; rfl)
          have lh : l.heads.length ≤ 8 := by
            unfold Lw.heads
            split
            · exact Nat.zero_le _
            · rw [List.length_map]; exact bm
          refine ⟨f, D, _, _, rfl, rfl, sm2 _ _ hf, hD, by rw [List.length_map, List.length_map]; exact small (by omega), fun z nz => ?_⟩
          refine ⟨same_over (sm.trans sm2) ((sm.trans sm2).free nz), _, _, z, (sm.trans sm2).free nz, rfl, ?_⟩
          show upd H' z _ z = _
          rw [upd_same, take_snoc hl, List.flatMap_append, List.flatMap_singleton, List.map_append]
    · obtain ⟨sm, v2, v3, f, nf, rfl, hf⟩ := pv
      rw [List.take_of_length_le (by rw [h4.len]; exact Nat.le_refl _)] at hf
      exact ⟨.ref f, rfl, q G f sm nf hf⟩
def sp_law_places_of (K : PySem.W.Frag) : Sp := fun vs H Q _ => ∃ (v : V) (l : Lw), vs = [v] ∧ LW K H v l ∧ l.ts.length ≤ 1000 ∧ ∀ H' p, Same H H' → H p = none → PL5 H' p l.places → Q (.ref p) H'
theorem ok_law_places_of (T : Txt K mg) : FnOk P w K mg base CX0 1 T.law_places_of.a T.law_places_of.fd ["law"] (sp_law_places_of K) := by
  refine T.law_places_of.F.ok sc_law_places_of (fun vs H Q E h => ?_) (fun cdv A outer s H vs Q E hr h => ?_)
  · obtain ⟨v, l, rfl, _⟩ := h
    rfl
  · obtain ⟨v, l, rfl, hl, hn, q⟩ := h
    refine ⟨_, (pss_cons (ps_if (pt_cmpR op_eq (pe_ix ix_tup (pv 0) pe_int (fun _ _ => rfl)) pe_str (nomark _))
        (pss_one (ps_ret (pe_lc (own := [("number", 1), ("k", 2), ("j", 3)]) (g := gTup K 3 (gCons (gName 1) (gCons (gName 2) (gCons (gName 3) gNil)))) rfl sc_law_places_of.nd (pi_list (pe_ix ix_tup (pv 0) pe_int (fun _ _ => rfl))) (blkOk_by (N := ["law", "number", "k", "j", "size"]) (sc := defScope s_law_places_of) (by decide +kernel)) (fun _ _ _ _ _ => (pg_tup rfl (pgs_cons (pg_name (i := 1) sc_law_places_of.nd rfl (.inl rfl)) (pgs_cons (pg_name (i := 2) sc_law_places_of.nd rfl (.inl rfl)) (pgs_cons (pg_name (i := 3) sc_law_places_of.nd rfl (.inl rfl)) pgs_nil))))) (fun _ _ _ _ _ => pts_nil) (fun _ _ _ _ _ => (pe_tup (pa_cons (pv 2) (pa_cons (pv 3) pa_nil)))))))
        pss_nil)
      (pss_one (ps_ret (pe_op op_cat (pe_lst (pa_cons (pe_tup (pa_cons (pe_ix ix_tup (pv 0) pe_int (fun _ _ => rfl)) (pa_cons (pe_ix ix_tup (pv 0) pe_int (fun _ _ => rfl)) pa_nil))) pa_nil)) (pe_lc (own := [("size", 4), ("k", 2), ("j", 3)]) (g := gTup K 3 (gCons (gName 4) (gCons (gName 2) (gCons (gName 3) gNil)))) rfl sc_law_places_of.nd (pi_list (pe_ix ix_tup (pv 0) pe_int (fun _ _ => rfl))) (blkOk_by (N := ["law", "number", "k", "j", "size"]) (sc := defScope s_law_places_of) (by decide +kernel)) (fun _ _ _ _ _ => (pg_tup rfl (pgs_cons (pg_name (i := 4) sc_law_places_of.nd rfl (.inl rfl)) (pgs_cons (pg_name (i := 2) sc_law_places_of.nd rfl (.inl rfl)) (pgs_cons (pg_name (i := 3) sc_law_places_of.nd rfl (.inl rfl)) pgs_nil))))) (fun _ _ _ _ _ => pts_nil) (fun _ _ _ _ _ => (pe_tup (pa_cons (pv 2) (pa_cons (pv 3) pa_nil))))))))), ?_⟩
    obtain ⟨a3, xs3, e3, ht3, h03⟩ := ex_eq hl
    obtain ⟨a, p, rfl, ⟨xs, hx0, hr2⟩, hd⟩ := hl
    injection e3 with e3
    subst e3
    refine ⟨_, rfl, a, xs3, _, _, rfl, rfl, ht3, h03, rfl, _, rfl, ?_⟩
    rw [str_ex]
    have hx : SqL K H p xs := .of hx0
    rcases hd with ⟨ex, hd⟩ | ⟨ex, hd⟩
    · rw [ex]
      refine iteT ⟨_, rfl, a, _, _, _, rfl, rfl, hd, rfl, p, rfl, ⟨xs, hx⟩, fun D nD => ?_⟩
      refine lc_fm (walk_list (xs := xs)) l.ts (fun t => some (t.k, t.q)) (PX5 D) PX5.mono hr2.len.symm nD (fun H' s => s.seq hx) (small' (by have := hr2.len; omega)) (fun i x H' Hx ys t ht sm hD y Qt Qf qt qf => ?_) (fun H' ys sm hD hR => ?_)
      · obtain ⟨rfl, hx⟩ := y
        obtain ⟨t', ht', r⟩ := hr2.get hx
        obtain rfl := Option.some.inj (ht.symm.trans ht')
        obtain ⟨b, rfl, rb⟩ := r.same sm
        refine ⟨b, _, rfl, rb, rfl, _, _, rfl, _, _, rfl, _, _, rfl, rfl, rfl, _, rfl, _, rfl, by show 2 ≤ sizeLine; decide, fun c hc => ?_⟩
        exact qt _ _ _ rfl (same_upd hc) ⟨c, rfl, (fun z => by rw [z, hD] at hc; cases hc), upd_same⟩
      · rw [fm_id] at hR
        refine q H' D sm nD ⟨ys, hD, ?_⟩
        unfold Lw.places
        rw [ex]
        exact hR.mono fun _ _ => PX5.pt
    · rw [ex]
      refine iteF ?_
      refine ⟨_, rfl, a, _, _, _, rfl, rfl, hd, rfl, _, rfl, a, _, _, _, rfl, rfl, hd, rfl, by show 2 ≤ sizeLine; decide, fun t nt => ?_⟩
      refine ⟨by show 1 ≤ sizeLine; decide, fun u nu => ?_⟩
      have st := same_upd nt (o := .tup [.int l.k, .str l.q])
      have su := same_upd nu (o := .lst [V.ref t])
      have s1 := st.trans su
      have htt := su _ _ (upd_same (H := H) (a := t) (o := .tup [.int l.k, .str l.q]))
      have huu := upd_same (H := upd H t (.tup [.int l.k, .str l.q])) (a := u) (o := HO.lst [V.ref t])
      generalize upd (upd H t _) u _ = G1 at s1 htt huu
      refine ⟨_, rfl, a, _, _, _, rfl, rfl, Same.seqT s1 hd, rfl, p, rfl, ⟨xs, s1.seq hx⟩, fun D nD => ?_⟩
      refine lc_fm (walk_list (xs := xs)) l.ts (fun t => some (t.k, t.q)) (PX5 D) PX5.mono hr2.len.symm nD (fun H' s => (s1.trans s).seq hx) (small' (by have := hr2.len; omega)) (fun i x H' Hx ys t ht sm hD y Qt Qf qt qf => ?_) (fun H' ys sm hD hR => ?_)
      · obtain ⟨rfl, hx⟩ := y
        obtain ⟨t', ht', r⟩ := hr2.get hx
        obtain rfl := Option.some.inj (ht.symm.trans ht')
        obtain ⟨b, rfl, rb⟩ := r.same (s1.trans sm)
        refine ⟨b, _, rfl, rb, rfl, _, _, rfl, _, _, rfl, _, _, rfl, rfl, rfl, _, rfl, _, rfl, by show 2 ≤ sizeLine; decide, fun c hc => ?_⟩
        exact qt _ _ _ rfl (same_upd hc) ⟨c, rfl, (fun z => by rw [z, hD] at hc; cases hc), upd_same⟩
      · rw [fm_id] at hR
        refine ⟨u, D, _, _, rfl, rfl, sm _ _ huu, hD, ?_, fun r nr => ?_⟩
        · have := hR.len
          simp at this
          exact small (by simp; omega)
        · have s2 := sm.trans (same_upd nr (o := .lst ([V.ref t] ++ ys)))
          refine q _ r (s1.trans s2) ((s1.trans sm).free nr) ⟨_, upd_same, ?_⟩
          unfold Lw.places
          rw [ex]
          exact .cons ⟨t, rfl, s2 _ _ htt⟩ (hR.mono fun _ _ z => (PX5.pt z).same (same_upd nr))
def sp_law_doubles (K : PySem.W.Frag) : Sp := fun vs H Q _ => ∃ (p : Addr) (ss : List Str), vs = [.ref p] ∧ SL H p ss ∧ ss.length ≤ 50000 ∧ ∀ (b : Bool) H', (b = true ↔ ¬ ss.Nodup) → Same H H' → Q (.bl b) H'
theorem ok_law_doubles (T : Txt K mg) : FnOk P w K mg base CX0 1 T.law_doubles.a T.law_doubles.fd ["names"] (sp_law_doubles K) := by
  refine T.law_doubles.F.ok sc_law_doubles (fun vs H Q E h => ?_) (fun cdv A outer s H vs Q E hr h => ?_)
  · obtain ⟨p, ss, rfl, _⟩ := h
    rfl
  · obtain ⟨p, ss, rfl, hp, hn, q⟩ := h
    refine ⟨_, (pss_one (ps_ret (pe_callB (cr_any rfl) (by rfl) T.m_any (by decide +kernel) (pa_cons (pe_lc (own := [("k", 1)]) rfl sc_law_doubles.nd (pi_range1 (by rfl) T.m_range (pa_cons (pe_callB call_len_seq (by rfl) T.m_len (by decide +kernel) (pa_cons (pv 0) pa_nil)) pa_nil)) (blkOk_by (N := ["names", "k"]) (sc := defScope s_law_doubles) (by decide +kernel)) (fun _ _ _ _ _ => (pg_name (i := 1) sc_law_doubles.nd rfl (.inl rfl))) (fun _ _ _ _ _ => pts_nil) (fun _ _ _ _ _ => (pe_cmpR (r := rIn K false) op_in_seq (pe_ix (r := rIxL K) ix_list (pv 0) (pv 1) (fun _ _ => rfl)) (pe_slice (r := rSlL K) sl_list (pv 0) po_none (po_some (pv 1))) rfl))) pa_nil)))), ?_⟩
    refine ⟨.ref p, rfl, p, _, rfl, .inl (.of hp), ((ss.map V.str).length : Nat), rfl, by omega, ?_, fun D nD => ?_⟩
    · rw [List.length_map]; omega
    have hs := small' (show ss.length < 60000 by omega)
    rw [Int.toNat_natCast, List.length_map]
    refine lc_inv (walk_range (lo := 0) (n := ss.length)) (fun i G ys => A2 (fun v k => ∃ b : Bool, v = .bl b ∧ (b = true ↔ ∃ x, ss[k]? = some x ∧ x ∈ ss.take k)) ys (List.range i)) nD (fun _ _ => trivial) hs .nil (fun i x G Hx ys hi sm hD hR y Qt Qf qt qf => ?_) (fun G ys sm hD hR => ?_)
    · obtain ⟨rfl, rfl⟩ := y
      have ex : ss[i]? = some ss[i] := by simp [hi]
      have at0 : atI (ss.map V.str) (0 + (i : Int)) = some (.str ss[i]) := by rw [Int.zero_add]; exact atI_nat (by rw [List.getElem?_map, ex]; rfl)
      have hp3 := sm _ _ hp
      refine ⟨rfl, .ref p, rfl, _, rfl, p, _, _, _, rfl, rfl, .of hp3, at0, .ref p, rfl, _, rfl, _, rfl, p, _, rfl, .of hp3, fun S nS => ?_⟩
      rw [Int.zero_add, cut3 (by rw [List.length_map]; omega), ← List.map_take]
      refine ⟨S, _, rfl, .inl (.of upd_same), rfl, K07.flat_strs _, ?_⟩
      rw [K07.in_strs]
      refine qt _ _ (same_upd nS) ?_
      rw [List.range_succ]
      refine A2.snoc ⟨_, rfl, ?_⟩ hR
      rw [if_neg (by decide), decide_eq_true_eq]
      exact ⟨fun z => ⟨_, ex, z⟩, fun ⟨x, hx, z⟩ => by rw [ex] at hx; cases hx; exact z⟩
    · obtain ⟨bs, rfl, hb⟩ := bools hR
      refine ⟨D, bs, rfl, .of hD, q _ G ?_ sm⟩
      rw [any_iff hb, nodup_take]
      exact ⟨fun ⟨k, hk, z⟩ y => y k (List.mem_range.mp hk) z, fun z => by
        refine Classical.byContradiction fun n => z fun k hk e => n ⟨k, List.mem_range.mpr hk, e⟩⟩
end
end K07Z
-- Y07
namespace K07Z
open PySem PySem.Spec PyProof.Rows L2 K07 TL
open K05 (wd)
/-! ### the first fault of a part -/
def RangeOk (p : Prt) : Prop := (∀ l ∈ p.ls, InR l) ∧ ∀ j ∈ p.jo, 2 ≤ j.length
def Doubled (p : Prt) : Prop := (∃ l ∈ p.ls, ¬ l.places.Nodup) ∨ ∃ j ∈ p.jo, ¬ j.Nodup
open Classical in
noncomputable def fault (bef : List Prt) (at_ : Nat) (p : Prt) : Option Nat :=
  if ¬ Named p then some 0 else if 12 ≤ at_ ∨ TooLong p then some 1 else if Taken bef p then some 2 else if ¬ Known bef p then some 3 else if Unk bef p then some 4 else if ¬ RangeOk p then some 5 else if Doubled p then some 6 else none
section
variable {bef : List Prt} {n : Nat} {p : Prt}
theorem fault0 (h : ¬ Named p) : fault bef n p = some 0 := by unfold fault; rw [if_pos h]
theorem fault1 (h0 : Named p) (h : 12 ≤ n ∨ TooLong p) : fault bef n p = some 1 := by unfold fault; rw [if_neg (fun z => z h0), if_pos h]
theorem fault2 (h0 : Named p) (h1 : ¬ (12 ≤ n ∨ TooLong p)) (h : Taken bef p) : fault bef n p = some 2 := by unfold fault; rw [if_neg (fun z => z h0), if_neg h1, if_pos h]
theorem fault3 (h0 : Named p) (h1 : ¬ (12 ≤ n ∨ TooLong p)) (h2 : ¬ Taken bef p) (h : ¬ Known bef p) : fault bef n p = some 3 := by unfold fault; rw [if_neg (fun z => z h0), if_neg h1, if_neg h2, if_pos h]
theorem fault4 (h0 : Named p) (h1 : ¬ (12 ≤ n ∨ TooLong p)) (h2 : ¬ Taken bef p) (h3 : Known bef p) (h : Unk bef p) : fault bef n p = some 4 := by unfold fault; rw [if_neg (fun z => z h0), if_neg h1, if_neg h2, if_neg (fun z => z h3), if_pos h]
theorem fault5 (h0 : Named p) (h1 : ¬ (12 ≤ n ∨ TooLong p)) (h2 : ¬ Taken bef p) (h3 : Known bef p) (h4 : ¬ Unk bef p) (h : ¬ RangeOk p) : fault bef n p = some 5 := by unfold fault; rw [if_neg (fun z => z h0), if_neg h1, if_neg h2, if_neg (fun z => z h3), if_neg h4, if_pos h]
theorem fault6 (h0 : Named p) (h1 : ¬ (12 ≤ n ∨ TooLong p)) (h2 : ¬ Taken bef p) (h3 : Known bef p) (h4 : ¬ Unk bef p) (h5 : RangeOk p) (h : Doubled p) : fault bef n p = some 6 := by unfold fault; rw [if_neg (fun z => z h0), if_neg h1, if_neg h2, if_neg (fun z => z h3), if_neg h4, if_neg (fun z => z h5), if_pos h]
theorem fault7 (h0 : Named p) (h1 : ¬ (12 ≤ n ∨ TooLong p)) (h2 : ¬ Taken bef p) (h3 : Known bef p) (h4 : ¬ Unk bef p) (h5 : RangeOk p) (h : ¬ Doubled p) : fault bef n p = none := by unfold fault; rw [if_neg (fun z => z h0), if_neg h1, if_neg h2, if_neg (fun z => z h3), if_neg h4, if_neg (fun z => z h5), if_neg h]
end
theorem _root_.K07.DefT.okN {P : Program} {w : World} {K : PySem.W.Frag} {mg : Str → Option Value} {base : Heap} {x : Str} {st : Stmt} {N ps : List Str} {k : Nat} {sp : Sp} (T : DefT K mg x st ps) (S : FnScope N ps (defScope st)) (len : ∀ vs H Q E, sp vs H Q E → vs.length = ps.length)
    (hbody : ∀ (A : Around) (outer : List Env) (s : Shared) (H : Hp) (vs : List V) (Q : VK) (E : XK), Room k (A.deeper (envOfC x (defScope st) s.heap.objs.size T.a (.ref T.c))) → sp vs H Q E →
      ∃ t, PSs (cxOf (L2N.CX P w) P w K mg base N x (defScope st) T.a (.ref T.c) A outer s H E) (defBody st) t ∧ t { nx := fun _ H' => Q .non H', rt := Q } (L2.start N vs) H) : FnOk P w K mg base (L2N.CX P w) (k + 1) T.a T.fd ps sp := by
  obtain ⟨a, c, fd, ⟨oc, od, dV, kV, doc, pm, an, ct, osl, rfl, lk, hcd⟩, kp, b, g⟩ := T
  exact fn_of lk hcd S len fun A outer s H vs Q E hr hsp => hbody A outer s H vs Q E hr hsp
/-- the class of each fault -/
def Fc {K : PySem.W.Frag} {mg : Str → Option Value} (X : Errs K mg) : Nat → Addr
  | 0 => X.BadName.C
  | 1 => X.TooMany.C
  | 2 => X.TakenName.C
  | 3 => X.NoPart.C
  | 4 => X.NoName.C
  | 5 => X.OutOfRange.C
  | _ => X.SamePlace.C
section
variable {P : Program} {w : World} {K : PySem.W.Frag} {mg : Str → Option Value} {base : Heap} {Ps : List Addr}
theorem len_app (a b : Str) : (a ++ b).length = a.length + b.length := by
  show (a.cps ++ b.cps).size = a.cps.size + b.cps.size
  exact Array.size_append
theorem small2 {x : Nat} (h : x ≤ 2000) : x ≤ sizeLine := Nat.le_trans h (by decide)
def sp_wording : Sp := fun vs H Q _ => ∃ (nm : Str) (i : Int), vs = [.str nm, .int i] ∧ nm.length ≤ 1000 ∧ i.natAbs < 10 ^ 12 ∧ ∀ t : Str, Q (.str t) H
theorem ok_wording (T : Txt K mg) : FnOk P w K mg base CX0 1 T.wording.a T.wording.fd ["name", "at"] sp_wording := by
  refine T.wording.F.ok sc_wording (fun vs H Q E h => ?_) (fun cdv A outer s H vs Q E hr h => ?_)
  · obtain ⟨nm, i, rfl, _⟩ := h
    rfl
  · obtain ⟨nm, i, rfl, hn, h1, q⟩ := h
    refine ⟨_, (pss_cons (ps_if (pt_cmpR op_gt (pe_bits (pv 1)) pe_int (nomark _))
        (pss_one (ps_ret (pe_joined (.cons (pe_fmt (pv 0)) (.cons pe_str (.cons (pe_fmt (pe_bits (pv 1))) (.cons pe_str .nil)))))))
        pss_nil)
      (pss_one (ps_ret (pe_joined (.cons (pe_fmt (pv 0)) (.cons pe_str (.cons (pe_fmt (pv 1)) .nil))))))), ?_⟩
    have e : i.natAbs < 2 ^ 40 := Nat.lt_of_lt_of_le h1 (by decide)
    have hb := LX.bits_le e
    refine ⟨_, rfl, i, rfl, _, _, rfl, rfl, _, rfl, ?_⟩
    rw [decide_eq_false (by omega)]
    have lt : (Str.ofString (toString i)).length ≤ 13 := LX.text_len (by decide) h1
    refine iteF ⟨_, rfl, .inl ⟨nm, rfl, small2 (by omega), nm, rfl, ?_, _, rfl, ?_, _, rfl, .inr ⟨i, rfl, ?_, _, rfl, ?_, q _⟩⟩⟩
    · rw [len_app]; exact small2 (by show 0 + _ ≤ _; omega)
    · rw [len_app, len_app]; exact small2 (by show 0 + _ + 4 ≤ _; omega)
    · exact Nat.lt_of_lt_of_le (PySem.Flt.log2_lt_of (by decide) e) (by decide)
    · rw [len_app, len_app, len_app]; exact small2 (by show 0 + _ + 4 + _ ≤ _; omega)
theorem ok_init (T : Txt K mg) (X : Errs K mg) : FnOk P w K mg base CX0 2 X.e0.f X.e0.fd ["self", "at"] (LX.sp_init K) := by
  refine X.e0.F.ok sc_init (fun vs H Q E h => ?_) (fun cdv A outer s H vs Q E hr h => ?_)
  · obtain ⟨e, C, nm, i, rfl, _⟩ := h
    rfl
  · obtain ⟨e, C, nm, i, rfl, he, hn, ho, na, h1, q⟩ := h
    refine ⟨_, pss_cons (ps_expr (pe_veinit (by rfl) X.e0.mV X.e0.vV (pa_cons (pv 0) (pa_cons (pe_call (ok_wording T) (hr.mono (by decide)) (by rfl) T.wording.g T.wording.F.kp T.wording.b .nil pass0 (pa_cons (LX.pe_cn (pv 0)) (pa_cons (pv 1) pa_nil))) pa_nil))))
      (pss_one (ps_ost (pv 0) (pv 1))), ?_⟩
    refine ⟨.ref e, rfl, .ref e, rfl, e, C, nm, rfl, he, hn, _, rfl, nm, i, rfl, hn.sz, h1, fun t => ⟨e, C, _, rfl, by show 1 ≤ 1000; decide, ho, he, ?_⟩⟩
    exact ⟨_, rfl, .ref e, rfl, e, C, rfl, ho, na, .inl ⟨he, fun d hd ne => q d hd ne⟩⟩
def sp_check_part (K : PySem.W.Frag) (X : Errs K mg) (Ps : List Addr) : Sp := fun vs H Q E => ∃ (v : V) (p : Prt) (d : Addr) (bef : List Prt) (n : Nat), vs = [v, .ref d, .int (n : Nat)] ∧ PT K H v p ∧ Kv K H d bef ∧ BP p ∧ (∀ x ∈ bef, BP x) ∧ TGs Ps H ∧ n ≤ 1000 ∧
  (∀ f, fault bef n p = some f → ∀ H1, Lk H H1 → TGs Ps H1 → ∀ dd, H1 dd = none → E (.ref (Fc X f)) (some dd) (upd H1 dd (.xd [("at", .int (n : Nat))]))) ∧
  (fault bef n p = none → ∀ H', Lk H H' → TGs Ps H' → Q .non H')
theorem ok_check_part (T : Txt K mg) (X : Errs K mg) (TB : Tbs base T Ps) : FnOk P w K mg base (L2N.CX P w) 7 T.check_part.a T.check_part.fd ["part", "before", "at"] (sp_check_part K X Ps) := by
  refine T.check_part.okN sc_check_part (fun vs H Q E h => ?_) (fun A outer s H vs Q E hr h => ?_)
  · obtain ⟨v, p, d, bef, n, rfl, _⟩ := h
    rfl
  · obtain ⟨v, p, d, bef, n, rfl, hPT, hk, bp, bb, tg, hn, qE, q⟩ := h
    refine ⟨_, (pss_cons (ps_asg (pv 0) (pg_tup rfl (pgs_cons (pg_name (i := 3) sc_check_part.nd rfl (.inl rfl)) (pgs_cons (pg_name (i := 3) sc_check_part.nd rfl (.inl rfl)) (pgs_cons (pg_name (i := 3) sc_check_part.nd rfl (.inl rfl)) (pgs_cons (pg_name (i := 4) sc_check_part.nd rfl (.inl rfl)) (pgs_cons (pg_name (i := 5) sc_check_part.nd rfl (.inl rfl)) (pgs_cons (pg_name (i := 6) sc_check_part.nd rfl (.inl rfl)) pgs_nil))))))))
      (pss_cons (ps_if (pt_not (pt_val (pe_call (ok_is_named T TB) (hr.mono (by decide)) (by rfl) T.is_named.g T.is_named.kp T.is_named.b .nil pass0 (pa_cons (pv 0) pa_nil))))
        (pss_one (L2N.ps_raise rfl (L2N.takes_of rfl rfl rfl rfl) (HX.pmk_oexN X.BadName.oex X.BadName.iC X.e0.tI (ok_init T X) (hr.mono (by decide)) X.e0.b .nil pass0 (by rfl) X.BadName.g (pa_cons (pv 2) pa_nil))))
        pss_nil)
      (pss_cons (ps_if (PW.pt (pw_or (pt_cmpR op_ge (pv 2) (pe_glob (v := .int 12) rfl T.c_MOST_PARTS ⟨_, rfl⟩) (nomark _)) (pw_or1 (pt_val (pe_call (ok_is_too_long T TB) (hr.mono (by decide)) (by rfl) T.is_too_long.g T.is_too_long.kp T.is_too_long.b .nil pass0 (pa_cons (pv 0) pa_nil))))))
        (pss_one (L2N.ps_raise rfl (L2N.takes_of rfl rfl rfl rfl) (HX.pmk_oexN X.TooMany.oex X.TooMany.iC X.e0.tI (ok_init T X) (hr.mono (by decide)) X.e0.b .nil pass0 (by rfl) X.TooMany.g (pa_cons (pv 2) pa_nil))))
        pss_nil)
      (pss_cons (ps_if (pt_val (pe_call (ok_has_taken_name T) (hr.mono (by decide)) (by rfl) T.has_taken_name.g T.has_taken_name.F.kp T.has_taken_name.b .nil pass0 (pa_cons (pv 0) (pa_cons (pv 1) pa_nil))))
        (pss_one (L2N.ps_raise rfl (L2N.takes_of rfl rfl rfl rfl) (HX.pmk_oexN X.TakenName.oex X.TakenName.iC X.e0.tI (ok_init T X) (hr.mono (by decide)) X.e0.b .nil pass0 (by rfl) X.TakenName.g (pa_cons (pv 2) pa_nil))))
        pss_nil)
      (pss_cons (ps_if (pt_not (pt_val (GN.pe_allG (own := [("_", 3), ("there", 7)]) (g := gTup K 2 (gCons (gName 3) (gCons (gName 7) gNil))) hr sc_check_part.nd (by rfl) T.m_all TB.check_part rfl (GN.nmOk_by (blkOk_by (N := ["part", "before", "at", "_", "places", "laws", "joints", "there", "joint", "told"]) (sc := defScope s_check_part) (by decide +kernel))) (pi_list (pv 4)) (fun _ _ _ _ _ _ => (pg_tup rfl (pgs_cons (pg_name (i := 3) sc_check_part.nd rfl (.inl rfl)) (pgs_cons (pg_name (i := 7) sc_check_part.nd rfl (.inl rfl)) pgs_nil)))) (fun _ _ _ _ _ _ hr2 gd2 => (pe_cmp (pc_din (r1 hr2) (pv 7) (pv 1)))))))
        (pss_one (L2N.ps_raise rfl (L2N.takes_of rfl rfl rfl rfl) (HX.pmk_oexN X.NoPart.oex X.NoPart.iC X.e0.tI (ok_init T X) (hr.mono (by decide)) X.e0.b .nil pass0 (by rfl) X.NoPart.g (pa_cons (pv 2) pa_nil))))
        pss_nil)
      (pss_cons (ps_if (pt_val (pe_call (ok_has_unknown_name T TB) (hr.mono (by decide)) (by rfl) T.has_unknown_name.g T.has_unknown_name.kp T.has_unknown_name.b .nil pass0 (pa_cons (pv 0) (pa_cons (pv 1) pa_nil))))
        (pss_one (L2N.ps_raise rfl (L2N.takes_of rfl rfl rfl rfl) (HX.pmk_oexN X.NoName.oex X.NoName.iC X.e0.tI (ok_init T X) (hr.mono (by decide)) X.e0.b .nil pass0 (by rfl) X.NoName.g (pa_cons (pv 2) pa_nil))))
        pss_nil)
      (pss_cons (ps_if (PW.pt (pw_or (pt_not (pt_val (GN.pe_allG (own := [("told", 9)]) hr sc_check_part.nd (by rfl) T.m_all TB.check_part rfl (GN.nmOk_by (blkOk_by (N := ["part", "before", "at", "_", "places", "laws", "joints", "there", "joint", "told"]) (sc := defScope s_check_part) (by decide +kernel))) (pi_list (pv 5)) (fun _ _ _ _ _ _ => (pg_name (i := 9) sc_check_part.nd rfl (.inl rfl))) (fun _ _ _ _ _ _ hr2 gd2 => (pe_call (ok_is_in_range T TB) (hr2.mono (by decide)) (by rfl) T.is_in_range.g T.is_in_range.kp T.is_in_range.b .nil pass0 (pa_cons (pv 9) pa_nil)))))) (pw_or1 (pt_val (GN.pe_anyG (own := [("joint", 8)]) hr sc_check_part.nd (by rfl) T.m_any TB.check_part rfl (GN.nmOk_by (blkOk_by (N := ["part", "before", "at", "_", "places", "laws", "joints", "there", "joint", "told"]) (sc := defScope s_check_part) (by decide +kernel))) (pi_list (pv 6)) (fun _ _ _ _ _ _ => (pg_name (i := 8) sc_check_part.nd rfl (.inl rfl))) (fun _ _ _ _ _ _ hr2 gd2 => (pe_cmpR op_lt (pe_callB (id := "len") (r := rLenS K) call_lenC (by rfl) T.m_len (by decide +kernel) (pa_cons (pv 8) pa_nil)) pe_int (nomark _))))))))
        (pss_one (L2N.ps_raise rfl (L2N.takes_of rfl rfl rfl rfl) (HX.pmk_oexN X.OutOfRange.oex X.OutOfRange.iC X.e0.tI (ok_init T X) (hr.mono (by decide)) X.e0.b .nil pass0 (by rfl) X.OutOfRange.g (pa_cons (pv 2) pa_nil))))
        pss_nil)
      (pss_one (ps_if (PW.pt (pw_or (pt_val (GN.pe_anyG (own := [("told", 9)]) hr sc_check_part.nd (by rfl) T.m_any TB.check_part rfl (GN.nmOk_by (blkOk_by (N := ["part", "before", "at", "_", "places", "laws", "joints", "there", "joint", "told"]) (sc := defScope s_check_part) (by decide +kernel))) (pi_list (pv 5)) (fun _ _ _ _ _ _ => (pg_name (i := 9) sc_check_part.nd rfl (.inl rfl))) (fun _ _ _ _ _ _ hr2 gd2 => (pe_call (ok_has_twiceP T) (hr2.mono (by decide)) (by rfl) T.has_twice.g T.has_twice.F.kp T.has_twice.b .nil pass0 (pa_cons (pe_call (ok_places_of T) (hr2.mono (by decide)) (by rfl) T.places_of.g T.places_of.F.kp T.places_of.b .nil pass0 (pa_cons (pv 9) pa_nil)) pa_nil))))) (pw_or1 (pt_val (GN.pe_anyG (own := [("joint", 8)]) hr sc_check_part.nd (by rfl) T.m_any TB.check_part rfl (GN.nmOk_by (blkOk_by (N := ["part", "before", "at", "_", "places", "laws", "joints", "there", "joint", "told"]) (sc := defScope s_check_part) (by decide +kernel))) (pi_list (pv 6)) (fun _ _ _ _ _ _ => (pg_name (i := 8) sc_check_part.nd rfl (.inl rfl))) (fun _ _ _ _ _ _ hr2 gd2 => (pe_call (ok_has_twice T) (hr2.mono (by decide)) (by rfl) T.has_twice.g T.has_twice.F.kp T.has_twice.b .nil pass0 (pa_cons (pv 8) pa_nil))))))))
        (pss_one (L2N.ps_raise rfl (L2N.takes_of rfl rfl rfl rfl) (HX.pmk_oexN X.SamePlace.oex X.SamePlace.iC X.e0.tI (ok_init T X) (hr.mono (by decide)) X.e0.b .nil pass0 (by rfl) X.SamePlace.g (pa_cons (pv 2) pa_nil))))
        pss_nil))))))))), ?_⟩
    obtain ⟨a, po, inn, pl, la, jo, rfl, h0, h1, h2, h3, h4, h5⟩ := id hPT
    refine ⟨.ref a, rfl, a, _, rfl, h0, rfl, _, _, rfl, _, _, rfl, _, _, rfl, _, _, rfl, _, _, rfl, _, _, rfl, rfl, ?_⟩
    refine ⟨.ref a, rfl, .ref a, p, rfl, hPT, bp, tg, fun b0 G0 hb0 lk0 t0 => ⟨_, rfl, ?_⟩⟩
    cases b0 with
    | false =>
      refine iteT ⟨_, rfl, by show 1 ≤ 1000; decide, LX.raised X.BadName (by omega) fun dd hdd => qE 0 (fault0 fun z => by cases hb0.mpr z) G0 lk0 t0 dd hdd⟩
    | true =>
    have f0 := hb0.mp rfl
    refine iteF ⟨_, rfl, _, _, rfl, rfl, _, rfl, ?_⟩
    refine ite2 (fun c1 => iteT ⟨_, rfl, by show 1 ≤ 1000; decide, LX.raised X.TooMany (by omega) fun dd hdd => qE 1 (fault1 f0 (.inl (by have := of_decide_eq_true c1; omega))) G0 lk0 t0 dd hdd⟩) (fun c1 => ?_)
    have n12 : ¬ 12 ≤ n := fun z => c1 (decide_eq_true (by omega))
    refine ⟨.ref a, rfl, .ref a, p, rfl, hPT.lk lk0, t0, fun b1 G1 hb1 lk1 t1 => ⟨_, rfl, ?_⟩⟩
    have lk1 := lk0.trans lk1
    cases b1 with
    | true =>
      exact iteT ⟨_, rfl, by show 1 ≤ 1000; decide, LX.raised X.TooMany (by omega) fun dd hdd => qE 1 (fault1 f0 (.inr (hb1.mp rfl))) G1 lk1 t1 dd hdd⟩
    | false =>
    have f1 : ¬ (12 ≤ n ∨ TooLong p) := fun z => z.elim n12 fun z => by cases hb1.mpr z
    refine iteF ⟨.ref a, rfl, .ref d, rfl, .ref a, p, d, bef, rfl, hPT.lk lk1, hk.lk lk1, bp, fun b2 G2 hb2 s2 => ⟨_, rfl, ?_⟩⟩
    have lk2 := lk1.trans (lk_of s2)
    have t2 := t1.same s2
    cases b2 with
    | true =>
      exact iteT ⟨_, rfl, by show 1 ≤ 1000; decide, LX.raised X.TakenName (by omega) fun dd hdd => qE 2 (fault2 f0 f1 (hb2.mp rfl)) G2 lk2 t2 dd hdd⟩
    | false =>
    have f2 : ¬ Taken bef p := fun z => by cases hb2.mpr z
    obtain ⟨ys, hy, hA⟩ := id h3
    refine iteF ⟨_, rfl, pl, rfl, ⟨_, .of (lk2.lst hy)⟩, t2 _ TB.m6, ?_⟩
    refine GN.gn_it (walk_list (xs := ys)) (fun i G => Lk G2 G ∧ TGs Ps G ∧ ∀ x ∈ p.pl.take i, ∃ q ∈ bef, q.nm = x.2) (fun G t => ⟨lk_tab (t2 _ TB.m6) t, t2.tab t, fun x hx => by simp at hx⟩) (fun _ _ _ pv => pv.1.seqL (.of (lk2.lst hy))) (fun i x G G' hi pv y => ?_) (fun G3 pv => ?_)
    · obtain ⟨lk, t, al⟩ := pv
      obtain ⟨rfl, hx⟩ := y
      obtain ⟨r, hr3, b, rfl, hb⟩ := hA.get hx
      have lkG := lk2.trans lk
      have hd : ∃ g, DGet G' d (.str r.2) g ∧ (g.isSome = true ↔ ∃ q ∈ bef, q.nm = r.2) := by
        by_cases e : ∃ q ∈ bef, q.nm = r.2
        · obtain ⟨q, hq, e2⟩ := id e
          obtain ⟨v, g, _⟩ := (hk.lk lkG).some hq e2
          exact ⟨_, g _ (.refl _), fun _ => e, fun _ => rfl⟩
        · exact ⟨_, (hk.lk lkG).none (fun q hq z => e ⟨q, hq, z⟩), (fun z => by cases z), fun z => absurd z e⟩
      obtain ⟨g, gg, eg⟩ := hd
      refine ⟨b, _, rfl, lkG.seqT hb, rfl, _, _, rfl, _, _, rfl, rfl, rfl, _, rfl, _, rfl, d, g, rfl, gg, _, rfl, ?_⟩
      by_cases m : g.isSome = true
      · rw [m]
        exact GN.on_t ⟨lk, t, take_all hr3 al (eg.mp m)⟩
      · rw [Bool.eq_false_iff.mpr m]
        exact GN.end_f ⟨_, rfl, iteT ⟨_, rfl, by show 1 ≤ 1000; decide, LX.raised X.NoPart (by omega) fun dd hdd => qE 3 (fault3 f0 f1 f2 fun z => m (eg.mpr (z r (mem_at hr3)))) G' lkG t dd hdd⟩⟩
    obtain ⟨lk3, t3, al⟩ := pv
    rw [hA.len, List.take_length] at al
    have f3 : Known bef p := al
    have lk3 := lk2.trans lk3
    refine ⟨_, rfl, iteF ⟨.ref a, rfl, .ref d, rfl, .ref a, p, d, bef, rfl, hPT.lk lk3, hk.lk lk3, f3, bp, bb, t3, fun b4 G4 hb4 lk4 t4 => ⟨_, rfl, ?_⟩⟩⟩
    have lk4 := lk3.trans lk4
    cases b4 with
    | true =>
      exact iteT ⟨_, rfl, by show 1 ≤ 1000; decide, LX.raised X.NoName (by omega) fun dd hdd => qE 4 (fault4 f0 f1 f2 f3 (hb4.mp rfl)) G4 lk4 t4 dd hdd⟩
    | false =>
    have f4 : ¬ Unk bef p := fun z => by cases hb4.mpr z
    obtain ⟨zs, hz, hL⟩ := id h4
    obtain ⟨us, hu, hJ⟩ := id h5
    refine iteF ⟨_, rfl, la, rfl, ⟨_, .of (lk4.lst hz)⟩, t4 _ TB.m6, ?_⟩
    refine GN.gn_it (walk_list (xs := zs)) (fun i G => Lk G4 G ∧ TGs Ps G ∧ ∀ l ∈ p.ls.take i, InR l) (fun G t => ⟨lk_tab (t4 _ TB.m6) t, t4.tab t, fun x hx => by simp at hx⟩) (fun _ _ _ pv => pv.1.seqL (.of (lk4.lst hz))) (fun i x G G' hi pv y => ?_) (fun G5 pv => ?_)
    · obtain ⟨lk, t, al⟩ := pv
      obtain ⟨rfl, hx⟩ := y
      obtain ⟨l, hl, rl⟩ := hL.get hx
      have lkG := lk4.trans lk
      refine ⟨rfl, x, rfl, x, l, rfl, rl.lk lkG, bp.ls.2 l (mem_at hl), t, fun b5 G6 hb5 lk5 t5 => ⟨_, rfl, ?_⟩⟩
      cases b5 with
      | true => exact GN.on_t ⟨lk.trans lk5, t5, take_all hl al (hb5.mp rfl)⟩
      | false => exact GN.end_f ⟨_, rfl, iteT (iteT ⟨_, rfl, by show 1 ≤ 1000; decide, LX.raised X.OutOfRange (by omega) fun dd hdd => qE 5 (fault5 f0 f1 f2 f3 f4 fun z => by cases hb5.mpr (z.1 l (mem_at hl))) G6 (lkG.trans lk5) t5 dd hdd⟩)⟩
    obtain ⟨lk5, t5, alr⟩ := pv
    rw [hL.len, List.take_length] at alr
    have lk5 := lk4.trans lk5
    refine ⟨_, rfl, iteF ⟨_, rfl, jo, rfl, ⟨_, .of (lk5.lst hu)⟩, t5 _ TB.m6, ?_⟩⟩
    refine GN.gn_it (walk_list (xs := us)) (fun i G => Lk G5 G ∧ TGs Ps G ∧ ∀ j ∈ p.jo.take i, 2 ≤ j.length) (fun G t => ⟨lk_tab (t5 _ TB.m6) t, t5.tab t, fun x hx => by simp at hx⟩) (fun _ _ _ pv => pv.1.seqL (.of (lk5.lst hu))) (fun i x G G' hi pv y => ?_) (fun G6 pv => ?_)
    · obtain ⟨lk, t, al⟩ := pv
      obtain ⟨rfl, hx⟩ := y
      obtain ⟨j0, hj0, ja, rfl, hja⟩ := hJ.get hx
      have lkG := lk5.trans lk
      have hja := SL.lk lkG hja
      refine ⟨rfl, _, rfl, ja, _, rfl, .inl (.of hja), _, _, rfl, rfl, _, rfl, ?_⟩
      rw [List.length_map]
      by_cases c : ((j0.length : Nat) : Int) < 2
      · rw [decide_eq_true c]
        exact GN.end_t ⟨_, rfl, iteT ⟨_, rfl, by show 1 ≤ 1000; decide, LX.raised X.OutOfRange (by omega) fun dd hdd => qE 5 (fault5 f0 f1 f2 f3 f4 fun z => by have := z.2 j0 (mem_at hj0); omega) G' lkG t dd hdd⟩⟩
      · rw [decide_eq_false c]
        exact GN.on_f ⟨lk, t, take_all hj0 al (by omega)⟩
    obtain ⟨lk6, t6, alj⟩ := pv
    rw [hJ.len, List.take_length] at alj
    have lk6 := lk5.trans lk6
    have f5 : RangeOk p := ⟨alr, alj⟩
    refine ⟨_, rfl, iteF ⟨_, rfl, la, rfl, ⟨_, .of (lk6.lst hz)⟩, t6 _ TB.m6, ?_⟩⟩
    refine GN.gn_it (walk_list (xs := zs)) (fun i G => Lk G6 G ∧ TGs Ps G ∧ ∀ l ∈ p.ls.take i, l.places.Nodup) (fun G t => ⟨lk_tab (t6 _ TB.m6) t, t6.tab t, fun x hx => by simp at hx⟩) (fun _ _ _ pv => pv.1.seqL (.of (lk6.lst hz))) (fun i x G G' hi pv y => ?_) (fun G7 pv => ?_)
    · obtain ⟨lk, t, al⟩ := pv
      obtain ⟨rfl, hx⟩ := y
      obtain ⟨l, hl, rl⟩ := hL.get hx
      have lkG := lk6.trans lk
      have bl := bp.ls.2 l (mem_at hl)
      refine ⟨rfl, x, rfl, x, l, rfl, rl.lk lkG, by have := bl.many; omega, fun G8 q8 s8 n8 hq8 => ⟨q8, l.places, rfl, hq8, by have := places_len bl; omega, fun b G9 hb s9 => ⟨_, rfl, ?_⟩⟩⟩
      have lk9 := lk.trans ((lk_of s8).trans (lk_of s9))
      have t9 := (t.same s8).same s9
      cases b with
      | true => exact GN.end_t ⟨_, rfl, iteT (iteT ⟨_, rfl, by show 1 ≤ 1000; decide, LX.raised X.SamePlace (by omega) fun dd hdd => qE 6 (fault6 f0 f1 f2 f3 f4 f5 (.inl ⟨l, mem_at hl, hb.mp rfl⟩)) G9 (lk6.trans lk9) t9 dd hdd⟩)⟩
      | false => exact GN.on_f ⟨lk9, t9, take_all hl al (Classical.byContradiction fun z => by cases hb.mpr z)⟩
    obtain ⟨lk7, t7, ald⟩ := pv
    rw [hL.len, List.take_length] at ald
    have lk7 := lk6.trans lk7
    refine ⟨_, rfl, iteF ⟨_, rfl, jo, rfl, ⟨_, .of (lk7.lst hu)⟩, t7 _ TB.m6, ?_⟩⟩
    refine GN.gn_it (walk_list (xs := us)) (fun i G => Lk G7 G ∧ TGs Ps G ∧ ∀ j ∈ p.jo.take i, j.Nodup) (fun G t => ⟨lk_tab (t7 _ TB.m6) t, t7.tab t, fun x hx => by simp at hx⟩) (fun _ _ _ pv => pv.1.seqL (.of (lk7.lst hu))) (fun i x G G' hi pv y => ?_) (fun G8 pv => ?_)
    · obtain ⟨lk, t, al⟩ := pv
      obtain ⟨rfl, hx⟩ := y
      obtain ⟨j0, hj0, ja, rfl, hja⟩ := hJ.get hx
      have lkG := lk7.trans lk
      have hja := SL.lk lkG hja
      have bj := (bp.jo.2 j0 (mem_at hj0)).1
      refine ⟨rfl, _, rfl, ja, j0.map Sum.inr, rfl, .of (by rw [vH_strs]; exact hja), by rw [List.length_map]; omega, fun b G9 hb s9 => ⟨_, rfl, ?_⟩⟩
      rw [nodup_inr] at hb
      have lk9 := lk.trans (lk_of s9)
      cases b with
      | true => exact GN.end_t ⟨_, rfl, iteT ⟨_, rfl, by show 1 ≤ 1000; decide, LX.raised X.SamePlace (by omega) fun dd hdd => qE 6 (fault6 f0 f1 f2 f3 f4 f5 (.inr ⟨j0, mem_at hj0, hb.mp rfl⟩)) G9 (lk7.trans lk9) (t.same s9) dd hdd⟩⟩
      | false => exact GN.on_f ⟨lk9, t.same s9, take_all hj0 al (Classical.byContradiction fun z => by cases hb.mpr z)⟩
    obtain ⟨lk8, t8, alj2⟩ := pv
    rw [hJ.len, List.take_length] at alj2
    refine ⟨_, rfl, iteF (q (fault7 f0 f1 f2 f3 f4 f5 ?_) G8 (lk7.trans lk8) t8)⟩
    rintro (⟨l, hl, z⟩ | ⟨j, hj, z⟩)
    · exact z (ald l hl)
    · exact z (alj2 j hj)
end
end K07Z
-- W07
namespace K07Z
open PySem PySem.Spec PyProof.Rows L2 K07 TL
open K05 (wd)
/-! ### a book is checked -/
def NoFault (bk : List Prt) (i : Nat) : Prop := ∀ j p, j < i → bk[j]? = some p → fault (bk.take j) j p = none
def FirstF (bk : List Prt) (f n : Nat) : Prop := ∃ p, bk[n]? = some p ∧ fault (bk.take n) n p = some f ∧ NoFault bk n
theorem untaken {bef : List Prt} {n : Nat} {p : Prt} (h : fault bef n p = none) : ¬ Taken bef p := by
  intro z
  unfold fault at h
  split at h
  · cases h
  · split at h
    · cases h
    · first | cases h | (rw [if_pos z] at h; cases h)
theorem NoFault.nodup {bk : List Prt} : ∀ {i : Nat}, NoFault bk i → i ≤ bk.length → ((bk.take i).map (·.nm)).Nodup
  | 0, _, _ => by simp
  | i + 1, h, hi => by
    have e : bk[i]? = some bk[i] := by simp
    have ih := NoFault.nodup (i := i) (fun j p hj => h j p (by omega)) (by omega)
    have n := untaken (h i _ (by omega) e)
    rw [take_snoc e, List.map_append, List.nodup_append]
    refine ⟨ih, by simp, fun a ha b hb z => ?_⟩
    obtain ⟨q, hq, rfl⟩ := List.mem_map.mp ha
    rw [List.map_cons, List.map_nil, List.mem_singleton] at hb
    exact n (.inl ⟨q, hq, z.trans hb⟩)
theorem lk_over {H G : Hp} {d : Addr} {o : HO} (s : Lk H G) (n : H d = none) : Lk H (upd G d o) := fun b x e t => by
  rw [upd_ne (fun z => by rw [z, n] at e; cases e)]
  exact s b x e t
theorem TGs.put {Ps : List Addr} {G : Hp} {d : Addr} {o : HO} {kvs : List (Key × V)} (h : TGs Ps G) (hd : G d = some (.dK kvs)) : TGs Ps (upd G d o) := fun P hP => by
  obtain ⟨ps, e, t⟩ := h P hP
  exact ⟨ps, by rw [upd_ne (fun z => by rw [z, hd] at e; cases e)]; exact e, t⟩
theorem kvB_len {bk : List Prt} {xs : List V} : (kvB bk xs).length ≤ bk.length := by
  unfold kvB
  rw [List.length_zipWith]
  exact Nat.min_le_left _ _
section
variable {P : Program} {w : World} {K : PySem.W.Frag} {mg : Str → Option Value} {base : Heap} {Ps : List Addr}
def sp_check_book (K : PySem.W.Frag) (X : Errs K mg) (Ps : List Addr) : Sp := fun vs H Q E => ∃ (b : Addr) (bk : List Prt), vs = [.ref b] ∧ BK K H b bk ∧ BB bk ∧ TGs Ps H ∧
  (∀ f n, FirstF bk f n → ∀ H1, Lk H H1 → TGs Ps H1 → ∀ dd, H1 dd = none → E (.ref (Fc X f)) (some dd) (upd H1 dd (.xd [("at", .int (n : Nat))]))) ∧
  (NoFault bk bk.length → ∀ H', Lk H H' → TGs Ps H' → Q .non H')
theorem ok_check_book (T : Txt K mg) (X : Errs K mg) (TB : Tbs base T Ps) : FnOk P w K mg base (L2N.CX P w) 8 T.check_book.a T.check_book.fd ["book"] (sp_check_book K X Ps) := by
  refine HX.okN T.check_book.F sc_check_book (fun vs H Q E h => ?_) (fun cdv A outer s H vs Q E hr h => ?_)
  · obtain ⟨b, bk, rfl, _⟩ := h
    rfl
  · obtain ⟨b, bk, rfl, ⟨xs, hb, hA⟩, bb, tg, qE, q⟩ := h
    refine ⟨_, (pss_cons (ps_set (i := 1) sc_check_book.nd rfl (.inl rfl) pe_dnewK)
      (pss_one (ps_for (passes_of rfl) rfl (pi_enum (by rfl) T.m_enumerate (pa_cons (pv 0) pa_nil)) (pg_tup rfl (pgs_cons (pg_name (i := 2) sc_check_book.nd rfl (.inl rfl)) (pgs_cons (pg_name (i := 3) sc_check_book.nd rfl (.inl rfl)) pgs_nil)))
        (pss_cons (ps_expr (pe_call (ok_check_part T X TB) (hr.mono (by decide)) (by rfl) T.check_part.g T.check_part.kp T.check_part.b .nil (L2N.passes_call (L2N.takes_of rfl rfl rfl rfl) fun _ _ _ _ h => h) (pa_cons (pv 3) (pa_cons (pv 1) (pa_cons (pv 2) pa_nil)))))
        (pss_one (ps_asg (pv 3) (pg_sub (pv 1) (pe_ix ix_tup (pv 3) pe_int (fun _ _ => rfl)) (set_dict (r1 hr))))))))), ?_⟩
    intro d nd
    have s0 := same_upd nd (o := .dK [])
    have el := hA.len
    refine ⟨_, rfl, b, _, rfl, .of (s0 _ _ hb), ?_⟩
    refine for_it (walk_enum (K := K) (a := b) (xs := xs)) (fun i σ G => Lk H G ∧ TGs Ps G ∧ NoFault bk i ∧ ∃ v2 v3 : Option V, σ = [some (.ref b), some (.ref d), v2, v3] ∧ G d = some (.dK (kvB (bk.take i) (xs.take i)))) ⟨lk_of s0, tg.same s0, fun j p hj => absurd hj (Nat.not_lt_zero _), none, none, rfl, upd_same⟩ (fun i σ G _ pv => pv.1.seqL (.of hb)) (fun i x σ G G' hi pv y => ?_) (fun σ G pv => ?_)
    · obtain ⟨lk, t, nf, v2, v3, rfl, hd⟩ := pv
      obtain ⟨t0, x0, x1, rfl, nT, rfl, e0, hx⟩ := y
      cases e0
      have hx : xs[i]? = some x1 := hx
      have su := same_upd nT (o := .tup [V.int (i : Nat), x1])
      have hT := upd_same (H := G) (a := t0) (o := HO.tup [V.int (i : Nat), x1])
      generalize upd G t0 _ = G1 at su hT
      obtain ⟨p, hp, hP⟩ := hA.get hx
      have hi' : i < bk.length := by omega
      have lk1 := lk.trans (lk_of su)
      have hd1 := su _ _ hd
      have nd2 := nf.nodup (by omega)
      have kv : Kv K G1 d (bk.take i) := ⟨_, hd1, (hA.mono fun _ _ z => z.lk lk1).take i, nd2⟩
      have bp := bb.2 p (mem_at hp)
      have bb1 := bb.1
      refine ⟨t0, _, rfl, .of hT, rfl, _, _, rfl, _, _, rfl, rfl, _, rfl, _, rfl, _, rfl, x1, p, d, bk.take i, i, rfl, hP.lk lk1, kv, bp, fun x hx => bb.2 x (List.mem_of_mem_take hx), t.same su, by omega, fun f hf H1 lk2 t2 dd hdd => qE f i ⟨p, hp, hf, nf⟩ H1 (lk1.trans lk2) t2 dd hdd, fun hf H2 lk2 t2 => ?_⟩
      have hP2 := hP.lk (lk1.trans lk2)
      obtain ⟨a, zs, rfl, h0, e0, -⟩ := part_at hP2
      have hd2 := lk2 _ _ hd1 (fun q z => nomatch z)
      refine ⟨_, rfl, _, rfl, _, rfl, a, zs, _, _, rfl, rfl, h0, e0, d, _, rfl, DPut.k (k := .inr p.nm) hd2 ?_, ?_⟩
      · exact small' (Nat.lt_of_le_of_lt kvB_len (by rw [List.length_take]; omega))
      · have nn : valV (kvB (bk.take i) (xs.take i)) (.inr p.nm) = none := kvB_none fun q hq e => untaken hf (.inl ⟨q, hq, e⟩)
        refine ⟨lk_over (lk1.trans lk2) nd, TGs.put t2 hd2, fun j q hj hq => ?_, _, _, rfl, ?_⟩
        · rcases Nat.lt_or_eq_of_le (Nat.le_of_lt_succ hj) with z | rfl
          · exact nf j q z hq
          · cases hp.symm.trans hq
            exact hf
        · rw [upd_same, putK_new _ nn, take_snoc hp, take_snoc hx, kvB_snoc (by rw [List.length_take, List.length_take]; omega)]
    · obtain ⟨lk, t, nf, _⟩ := pv
      rw [el] at nf
      exact q nf G lk t
end
end K07Z
-- A07
namespace K07Z
open PySem PySem.Spec PyProof.Rows L2 K07 TL
open K05 (wd)
/-! ### ranges and doubles as the law asks -/
section
variable {P : Program} {w : World} {K : PySem.W.Frag} {mg : Str → Option Value} {base : Heap} {Ps : List Addr}
def sp_law_doublesP (K : PySem.W.Frag) : Sp := fun vs H Q _ => ∃ (p : Addr) (ps : List (Int × Str)), vs = [.ref p] ∧ PL5 H p ps ∧ ps.length ≤ 50000 ∧ (∀ x ∈ ps, GS 60 x.2) ∧ ∀ (b : Bool) H', (b = true ↔ ¬ ps.Nodup) → Same H H' → Q (.bl b) H'
theorem ok_law_doublesP (T : Txt K mg) : FnOk P w K mg base CX0 1 T.law_doubles.a T.law_doubles.fd ["names"] (sp_law_doublesP K) := by
  refine T.law_doubles.F.ok sc_law_doubles (fun vs H Q E h => ?_) (fun cdv A outer s H vs Q E hr h => ?_)
  · obtain ⟨p, ps, rfl, _⟩ := h
    rfl
  · obtain ⟨p, ps, rfl, ⟨xs, hp, hA⟩, hn, gs, q⟩ := h
    refine ⟨_, (pss_one (ps_ret (pe_callB (cr_any rfl) (by rfl) T.m_any (by decide +kernel) (pa_cons (pe_lc (own := [("k", 1)]) rfl sc_law_doubles.nd (pi_range1 (by rfl) T.m_range (pa_cons (pe_callB call_len_seq (by rfl) T.m_len (by decide +kernel) (pa_cons (pv 0) pa_nil)) pa_nil)) (blkOk_by (N := ["names", "k"]) (sc := defScope s_law_doubles) (by decide +kernel)) (fun _ _ _ _ _ => (pg_name (i := 1) sc_law_doubles.nd rfl (.inl rfl))) (fun _ _ _ _ _ => pts_nil) (fun _ _ _ _ _ => (pe_cmpR (r := rInD K) (op_inD (r65 hr)) (pe_ix (r := rIxL K) ix_list (pv 0) (pv 1) (fun _ _ => rfl)) (pe_slice (r := rSlL K) sl_list (pv 0) po_none (po_some (pv 1))) rfl))) pa_nil)))), ?_⟩
    have el := hA.len
    refine ⟨.ref p, rfl, p, _, rfl, .inl (.of hp), (xs.length : Nat), rfl, by omega, by omega, fun D nD => ?_⟩
    rw [Int.toNat_natCast]
    have hs := small' (show xs.length < 60000 by omega)
    refine lc_inv (walk_range (lo := 0) (n := xs.length)) (fun i G ys => A2 (fun v k => ∃ b : Bool, v = .bl b ∧ (b = true ↔ ∃ x, ps[k]? = some x ∧ x ∈ ps.take k)) ys (List.range i)) nD (fun _ _ => trivial) hs .nil (fun i x G Hx ys hi sm hD hR y Qt Qf qt qf => ?_) (fun G ys sm hD hR => ?_)
    · obtain ⟨rfl, rfl⟩ := y
      have hi' : i < ps.length := by omega
      have ex : ps[i]? = some ps[i] := by simp [hi']
      obtain ⟨u, hu, ru⟩ := hA.get' ex
      have at0 : atI xs (0 + (i : Int)) = some u := by rw [Int.zero_add]; exact atI_nat hu
      have hp3 := sm _ _ hp
      refine ⟨rfl, .ref p, rfl, _, rfl, p, _, _, _, rfl, rfl, .of hp3, at0, .ref p, rfl, _, rfl, _, rfl, p, _, rfl, .of hp3, fun S nS => ?_⟩
      rw [Int.zero_add, cut3 (by omega)]
      have sS := same_upd nS (o := .lst (xs.take i))
      refine ⟨dP5 ps[i], (ps.take i).map dP5, dp_pt5 ((ru.lk (lk_of sm)).lk (lk_of sS)), .lst (.of upd_same) (dpAll_of (f := dP5) (fun _ _ z => dp_pt5 ((PT5.lk (lk_of sm) z).lk (lk_of sS))) (A2.take i hA)), shaped_dP (gs _ (mem_at ex)), shaped_dPs fun x hx => gs x (List.mem_of_mem_take hx), ?_⟩
      rw [any_dP]
      refine qt _ _ sS ?_
      rw [List.range_succ]
      refine A2.snoc ⟨_, rfl, ?_⟩ hR
      rw [decide_eq_true_eq]
      exact ⟨fun z => ⟨_, ex, z⟩, fun ⟨x, hx, z⟩ => by rw [ex] at hx; cases hx; exact z⟩
    · obtain ⟨bs, rfl, hb⟩ := bools hR
      refine ⟨D, bs, rfl, .of hD, q _ G ?_ sm⟩
      rw [any_iff hb, nodup_take, el]
      exact ⟨fun ⟨k, hk, z⟩ y => y k (List.mem_range.mp hk) z, fun z => by
        refine Classical.byContradiction fun n => z fun k hk e => n ⟨k, List.mem_range.mpr hk, e⟩⟩
def sp_law_range (K : PySem.W.Frag) : Sp := fun vs H Q _ => ∃ (v : V) (p : Prt), vs = [v] ∧ PT K H v p ∧ BP p ∧ ∀ (b : Bool) H', (b = true ↔ RangeOk p) → Same H H' → Q (.bl b) H'
theorem ok_law_range (T : Txt K mg) : FnOk P w K mg base CX0 2 T.law_range.a T.law_range.fd ["part"] (sp_law_range K) := by
  refine T.law_range.F.ok sc_law_range (fun vs H Q E h => ?_) (fun cdv A outer s H vs Q E hr h => ?_)
  · obtain ⟨v, p, rfl, _⟩ := h
    rfl
  · obtain ⟨v, p, rfl, hPT, bp, q⟩ := h
    refine ⟨_, (pss_cons (ps_for PassesOwn.never rfl (pi_list (pe_ix ix_tup (pv 0) pe_int (fun _ _ => rfl))) (pg_name (i := 1) sc_law_range.nd rfl (.inl rfl))
        (pss_cons (ps_if (pt_not (pt_val (pe_callB (cr_all rfl) (by rfl) T.m_all (by decide +kernel) (pa_cons (pe_lc (own := [("k", 3), ("j", 4)]) (g := gTup K 2 (gCons (gName 3) (gCons (gName 4) gNil))) rfl sc_law_range.nd (pi_list (pe_call (ok_law_places_of T) (hr.mono (by decide)) (by rfl) T.law_places_of.g T.law_places_of.F.kp T.law_places_of.b .nil pass0 (pa_cons (pv 1) pa_nil))) (blkOk_by (N := ["part", "law", "joint", "k", "j", "number"]) (sc := defScope s_law_range) (by decide +kernel)) (fun _ _ _ _ _ => (pg_tup rfl (pgs_cons (pg_name (i := 3) sc_law_range.nd rfl (.inl rfl)) (pgs_cons (pg_name (i := 4) sc_law_range.nd rfl (.inl rfl)) pgs_nil)))) (fun _ _ _ _ _ => pts_nil) (fun _ _ _ _ _ => (pe_chain op_le op_le pe_int (pv 3) pe_int))) pa_nil))))
          (pss_one (ps_ret pe_bl))
          pss_nil)
        (pss_cons (ps_if (PW.pt (pw_and (pt_cmpR op_eq (pe_ix ix_tup (pv 1) pe_int (fun _ _ => rfl)) pe_str (nomark _)) (pw_and1 (pt_not (pt_val (pe_callB (cr_all rfl) (by rfl) T.m_all (by decide +kernel) (pa_cons (pe_lc (own := [("number", 5), ("k", 3), ("j", 4)]) (g := gTup K 3 (gCons (gName 5) (gCons (gName 3) (gCons (gName 4) gNil)))) rfl sc_law_range.nd (pi_list (pe_ix ix_tup (pv 1) pe_int (fun _ _ => rfl))) (blkOk_by (N := ["part", "law", "joint", "k", "j", "number"]) (sc := defScope s_law_range) (by decide +kernel)) (fun _ _ _ _ _ => (pg_tup rfl (pgs_cons (pg_name (i := 5) sc_law_range.nd rfl (.inl rfl)) (pgs_cons (pg_name (i := 3) sc_law_range.nd rfl (.inl rfl)) (pgs_cons (pg_name (i := 4) sc_law_range.nd rfl (.inl rfl)) pgs_nil))))) (fun _ _ _ _ _ => pts_nil) (fun _ _ _ _ _ => (pe_and (pe_cmpR op_ne (pv 5) pe_int (nomark _)) (pe_one (pe_cmpR op_le (pe_callB call_abs (by rfl) T.m_abs (by decide +kernel) (pa_cons (pv 5) pa_nil)) pe_int (nomark _)))))) pa_nil)))))))
          (pss_one (ps_ret pe_bl))
          pss_nil)
        (pss_one (ps_if (PW.pt (pw_and (pt_cmpR op_eq (pe_ix ix_tup (pv 1) pe_int (fun _ _ => rfl)) pe_str (nomark _)) (pw_and1 (pt_cmpR (op_eqD hr.units) (pe_ix ix_tup (pv 1) pe_int (fun _ _ => rfl)) (pe_lst pa_nil) (nomark _)))))
          (pss_one (ps_ret pe_bl))
          pss_nil)))))
      (pss_one (ps_ret (pe_callB (cr_all rfl) (by rfl) T.m_all (by decide +kernel) (pa_cons (pe_lc (own := [("joint", 2)]) rfl sc_law_range.nd (pi_list (pe_ix ix_tup (pv 0) pe_int (fun _ _ => rfl))) (blkOk_by (N := ["part", "law", "joint", "k", "j", "number"]) (sc := defScope s_law_range) (by decide +kernel)) (fun _ _ _ _ _ => (pg_name (i := 2) sc_law_range.nd rfl (.inl rfl))) (fun _ _ _ _ _ => pts_nil) (fun _ _ _ _ _ => (pe_cmpR op_gt (pe_callB (id := "len") (r := rLenS K) call_lenC (by rfl) T.m_len (by decide +kernel) (pa_cons (pv 2) pa_nil)) pe_int (nomark _)))) pa_nil))))), ?_⟩
    obtain ⟨a, po, inn, pl, la, jo, rfl, h0, h1, h2, h3, ⟨zs, hz, hL⟩, ⟨us, hu, hJ⟩⟩ := id hPT
    have no : ∀ {b : Bool}, ¬ RangeOk p → b = false → (b = true ↔ RangeOk p) := fun n e => by
      rw [e]
      exact ⟨fun z => (nomatch z), fun z => absurd z n⟩
    refine ⟨.ref a, rfl, a, _, _, _, rfl, rfl, h0, rfl, la, rfl, ⟨zs, .of hz⟩, ?_⟩
    refine for_it (walk_list (K := K) (a := la) (xs := zs)) (fun i σ G => Same H G ∧ (∀ l ∈ p.ls.take i, InR l) ∧ ∃ v1 v2 v3 v4 v5 : Option V, σ = [some (.ref a), v1, v2, v3, v4, v5]) ⟨.refl _, fun l hl => by simp at hl, none, none, none, none, none, rfl⟩ (fun _ _ G _ pv => .of (pv.1 _ _ hz)) (fun i x σ G G' hi pv y => ?_) (fun σ G pv => ?_)
    · obtain ⟨sm, al, v1, v2, v3, v4, v5, rfl⟩ := pv
      obtain ⟨rfl, hx⟩ := y
      obtain ⟨l, hl, rl⟩ := hL.get hx
      have bl := bp.ls.2 l (mem_at hl)
      have pl9 := places_len bl
      have rl := rl.same sm
      refine ⟨x, rfl, x, l, rfl, rl, by have := bl.many; omega, fun G1 q1 s1 n1 ⟨xs, hq1, hA⟩ => ⟨q1, rfl, ⟨_, .of hq1⟩, fun D nD => ?_⟩⟩
      have el := hA.len
      refine lc_inv (walk_list (K := K) (a := q1) (xs := xs)) (fun i G2 ys => A2 (fun v (x : Int × Str) => ∃ b : Bool, v = .bl b ∧ (b = true ↔ 0 ≤ x.1 ∧ x.1 ≤ 3)) ys (l.places.take i)) nD (fun H' s => .of (s _ _ hq1)) (small' (by omega)) .nil (fun i x G2 Hx ys hi sm2 hD hR y Qt Qf qt qf => ?_) (fun G2 ys sm2 hD hR => ?_)
      · obtain ⟨rfl, hx⟩ := y
        obtain ⟨r, hr3, b, rfl, hb⟩ := hA.get hx
        refine ⟨b, _, rfl, .of (sm2 _ _ hb), rfl, _, _, rfl, _, _, rfl, rfl, rfl, _, rfl, ?_⟩
        have fin : ∀ c : Bool, (c = true ↔ 0 ≤ r.1 ∧ r.1 ≤ 3) → Qt (.bl c) Hx := fun c hc => qt _ _ (.refl _) (by rw [take_snoc hr3]; exact A2.snoc ⟨c, rfl, hc⟩ hR)
        refine ⟨_, _, rfl, rfl, _, rfl, ite2 (fun h => ⟨_, _, rfl, rfl, fin _ ?_⟩) (fun h => fin false ⟨fun z => (nomatch z), fun z => absurd (decide_eq_true z.1) h⟩)⟩
        rw [decide_eq_true_eq]
        exact ⟨fun z => ⟨of_decide_eq_true h, z⟩, fun z => z.2⟩
      · rw [el, List.take_length] at hR
        obtain ⟨bs, rfl, hb⟩ := bools hR
        refine ⟨D, bs, rfl, .of hD, ⟨_, rfl, ?_⟩⟩
        have e := all_iff hb
        cases hbs : bs.all id with
        | false => exact iteT (q false G2 (no (fun z => by rw [hbs] at e; cases e.mpr (z.1 l (mem_at hl)).1) rfl) (sm.trans (s1.trans sm2)))
        | true =>
        have r1 := e.mp hbs
        have sm3 := sm.trans (s1.trans sm2)
        have rl3 := rl.same (s1.trans sm2)
        refine iteF ?_
        obtain ⟨a3, xs3, e3, ht3, h03⟩ := ex_eq rl3
        obtain ⟨a4, tp, e4, ⟨ts, hts, hT⟩, hd⟩ := id rl3
        rw [e3] at e4
        injection e4 with e4
        subst e4
        subst e3
        have bm := bl.many
        refine ⟨_, rfl, a3, xs3, _, _, rfl, rfl, ht3, h03, rfl, _, rfl, ?_⟩
        rw [str_ex]
        rcases hd with ⟨ex, hd⟩ | ⟨ex, hd⟩
        · rw [ex]
          refine iteT ⟨_, rfl, a3, _, _, _, rfl, rfl, hd, rfl, tp, rfl, ⟨ts, .of hts⟩, fun D2 nD2 => ?_⟩
          refine lc_inv (walk_list (K := K) (a := tp) (xs := ts)) (fun i G3 ys => A2 (fun v t => ∃ b : Bool, v = .bl b ∧ (b = true ↔ NumOk t)) ys (l.ts.take i)) nD2 (fun H' s => .of (s _ _ hts)) (small' (by have := hT.len; omega)) .nil (fun i x G3 Hx ys hi sm4 hD hR y Qt Qf qt qf => ?_) (fun G3 ys sm4 hD hR => ?_)
          · obtain ⟨rfl, hx⟩ := y
            obtain ⟨tm, htm, b, rfl, hb⟩ := hT.get hx
            obtain ⟨n, en, bn⟩ := bl.num ex tm (mem_at htm)
            rw [en] at hb
            have nk : NumOk tm ↔ n ≠ 0 ∧ n.natAbs ≤ 1000000 := ⟨fun z => z n en, fun z m e => by
              rw [en] at e
              injection e with e
              exact e ▸ z⟩
            refine ⟨b, _, rfl, Same.seqT sm4 hb, rfl, _, _, rfl, _, _, rfl, _, _, rfl, rfl, rfl, _, rfl, rfl, _, rfl, ?_⟩
            have fin : ∀ c : Bool, (c = true ↔ NumOk tm) → Qt (.bl c) Hx := fun c hc => qt _ _ (Same.refl _) (by rw [take_snoc htm]; exact A2.snoc ⟨c, rfl, hc⟩ hR)
            refine ite2 (fun h1 => ?_) (fun h1 => ?_)
            · have h1 : n ≠ 0 := by
                intro z
                rw [z] at h1
                exact absurd h1 (by decide)
              refine ⟨_, rfl, n, rfl, _, _, rfl, rfl, fin _ ?_⟩
              rw [decide_eq_true_eq, nk]
              refine ⟨fun z => ⟨h1, ?_⟩, fun z => ?_⟩
              · by_cases c : n < 0
                · rw [if_pos c] at z; omega
                · rw [if_neg c] at z; omega
              · split <;> omega
            · refine fin false ⟨fun z => (nomatch z), fun z => absurd ?_ h1⟩
              show (!decide (V.int n = V.int 0)) = true
              rw [decide_eq_false fun e => (nk.mp z).1 (V.int.inj e)]; rfl
          · rw [hT.len, List.take_length] at hR
            obtain ⟨bs2, rfl, hb2⟩ := bools hR
            refine ⟨D2, bs2, rfl, .of hD, ⟨_, rfl, ?_⟩⟩
            have e2 := all_iff hb2
            cases hbs2 : bs2.all id with
            | false => exact iteT (q false G3 (no (fun z => by rw [hbs2] at e2; cases e2.mpr ((z.1 l (mem_at hl)).2.1 ex)) rfl) (sm3.trans sm4))
            | true =>
            have r2 := e2.mp hbs2
            refine iteF ⟨_, rfl, a3, _, _, _, rfl, rfl, Same.seqT sm4 hd, rfl, rfl, _, rfl, ?_⟩
            rw [decide_eq_false (by decide)]
            exact iteF ⟨sm3.trans sm4, take_all hl al ⟨r1, fun _ => r2, fun z => by rw [ex] at z; cases z⟩, _, _, _, _, _, rfl⟩
        · rw [ex]
          refine iteF (iteF ⟨_, rfl, a3, _, _, _, rfl, rfl, hd, rfl, rfl, _, rfl, ?_⟩)
          rw [decide_eq_true (by decide)]
          refine iteT ⟨_, rfl, a3, _, _, _, rfl, rfl, hd, rfl, by show 0 ≤ sizeLine; decide, fun u nu => ?_⟩
          have su := same_upd nu (o := .lst [])
          have dt : Dp K (upd G2 u (.lst [])) (.ref tp) (.list (l.ts.map dTm)) := .lst (.of (su _ _ hts)) (dpAll_of (f := dTm) (fun _ _ z => dp_tm (z.same su)) hT)
          refine ⟨_, .list [], dt, .lst (.of upd_same) .nil, (gd_tms bl).shp (by decide), rfl, ?_⟩
          rw [eqv_nil]
          refine ⟨_, rfl, ite2 (fun h1 => ?_) (fun h1 => ?_)⟩
          · refine q false _ (no (fun z => ?_) rfl) (sm3.trans su)
            have h1 := of_decide_eq_true h1
            exact (z.1 l (mem_at hl)).2.2 ex (List.map_eq_nil_iff.mp h1)
          · refine ⟨sm3.trans su, take_all hl al ⟨r1, fun z => (by rw [ex] at z; cases z), fun _ z => h1 ?_⟩, _, _, _, _, _, rfl⟩
            rw [z]
            exact decide_eq_true rfl
    · obtain ⟨sm, al, v1, v2, v3, v4, v5, rfl⟩ := pv
      rw [hL.len, List.take_length] at al
      refine ⟨_, rfl, a, _, _, _, rfl, rfl, Same.seqT sm h0, rfl, jo, rfl, ⟨us, .of (sm _ _ hu)⟩, fun D nD => ?_⟩
      have bj := bp.jo.1
      refine lc_inv (walk_list (K := K) (a := jo) (xs := us)) (fun i G2 ys => A2 (fun v (j : List Str) => ∃ b : Bool, v = .bl b ∧ (b = true ↔ 2 ≤ j.length)) ys (p.jo.take i)) nD (fun H' s => .of (s _ _ (sm _ _ hu))) (small' (by have := hJ.len; omega)) .nil (fun i x G2 Hx ys hi sm2 hD hR y Qt Qf qt qf => ?_) (fun G2 ys sm2 hD hR => ?_)
      · obtain ⟨rfl, hx⟩ := y
        obtain ⟨j0, hj0, ja, rfl, hja⟩ := hJ.get hx
        have hja := SL.same (sm.trans sm2) hja
        refine ⟨rfl, _, rfl, ja, _, rfl, .inl (.of hja), _, _, rfl, rfl, ?_⟩
        refine qt _ _ (.refl _) ?_
        rw [take_snoc hj0]
        refine A2.snoc ⟨_, rfl, ?_⟩ hR
        rw [decide_eq_true_eq, List.length_map]
        omega
      · rw [hJ.len, List.take_length] at hR
        obtain ⟨bs, rfl, hb⟩ := bools hR
        refine ⟨D, bs, rfl, .of hD, q _ G2 ?_ (sm.trans sm2)⟩
        rw [all_iff hb]
        exact ⟨fun z => ⟨al, z⟩, fun z => z.2⟩
end
end K07Z
-- M07
namespace K07Z
open PySem PySem.Spec PyProof.Rows L2 K07 TL
open K05 (wd)
/-! ### the first fault of a part as the law asks for it -/
def wordOf : Nat → Str
  | 0 => "name"
  | 1 => "many"
  | 2 => "taken"
  | 3 => "part"
  | 4 => "text"
  | 5 => "range"
  | _ => "same"
def wv : Option Nat → V
  | none => .non
  | some f => .str (wordOf f)
theorem places_gs {l : Lw} (h : BL l) : ∀ x ∈ l.places, GS 60 x.2 := fun x hx => by
  have a : ∀ x ∈ l.ts.map (fun t => (t.k, t.q)), GS 60 x.2 := fun x hx => by
    obtain ⟨t, ht, rfl⟩ := List.mem_map.mp hx
    exact (h.ts t ht).2
  unfold Lw.places at hx
  cases e : l.ex with
  | true => rw [e] at hx; exact a x hx
  | false =>
    rw [e] at hx
    rcases List.mem_cons.mp hx with rfl | hx
    · exact h.own.2
    · exact a x hx
/-- a list of texts put behind another one -/
theorem cat_at {G : Hp} {z : Addr} (ss ts : List Str) : SL (upd G z (.lst (ss.map V.str ++ ts.map V.str))) z (ss ++ ts) := by
  show upd G z _ z = _
  rw [upd_same, List.map_append]
theorem names_eq (p : Prt) : ((((([p.nm] ++ p.po) ++ p.inn) ++ p.pl.map (·.1)) ++ p.pl.map (·.2)) ++ sizesOf p) ++ srcs p = namesOf p := by
  unfold namesOf ownNames
  simp only [List.append_assoc]
theorem kv_of {bk : List Prt} {n : Nat} {xs : List V} {K : PySem.W.Frag} {H : Hp} {d : Addr} (hd : H d = some (.dK (kvB (bk.take n) (xs.take n)))) (hA : A2 (PT K H) xs bk) (nd : ((bk.take n).map (·.nm)).Nodup) : Kv K H d (bk.take n) := ⟨_, hd, hA.take n, nd⟩
section
variable {P : Program} {w : World} {K : PySem.W.Frag} {mg : Str → Option Value} {base : Heap} {Ps : List Addr}
/-- a column of the places -/
theorem pl_lc {c : Int} {f : Str × Str → Str} (hc : ∀ x : Str × Str, atI [V.str x.1, V.str x.2] c = some (.str (f x))) {o0 o1 o2 o3 o4 o5 o6 o7 o8 o9 o10 o11 o12 o13 o14 o15 : Option V} {H1 : Hp} {pl D : Addr} {ys : List V} {ps : List (Str × Str)} {Qd : Hp → Prop}
    (nD : H1 D = none) (hy : H1 pl = some (.lst ys)) (hP : A2 (PlV K H1) ys ps) (hl : ps.length ≤ 64) (hd : ∀ G, Same H1 G → SL G D (ps.map f) → Qd G) :
    LcW (Itl K pl) (gName 5) tYes (tOp (rIxT K) (tVar 5) (tC (V.int c))) [5] [o0, o1, o2, o3, o4, o5, o6, o7, o8, o9, o10, o11, o12, o13, o14, o15] H1 D Qd := by
  refine lc_fm (walk_list (K := K) (a := pl) (xs := ys)) ps (fun x => some (f x)) (fun _ v b => v = .str b) (fun _ _ _ _ _ z => z) hP.len.symm nD (fun H' s => .of (s _ _ hy)) (small' (by have := hP.len; omega)) (fun i x G3 Gx ys2 l el sm3 hD y Qt Qf qt qf => ?_) (fun G3 zs3 sm3 hD hR => ?_)
  · obtain ⟨rfl, hx⟩ := y
    obtain ⟨pr, hpr, t, rfl, hq⟩ := hP.get hx
    obtain rfl := Option.some.inj (el.symm.trans hpr)
    exact ⟨rfl, _, rfl, t, _, _, _, rfl, rfl, Same.seqT sm3 hq, hc _, qt _ _ _ rfl (.refl _) rfl⟩
  · rw [fm_id] at hR
    rw [a2_eq (f := V.str) hR] at hD
    exact hd G3 sm3 hD
def sp_law_part_fault (K : PySem.W.Frag) : Sp := fun vs H Q _ => ∃ (b : Addr) (bk : List Prt) (n : Nat) (p : Prt), vs = [.ref b, .int (n : Nat)] ∧ BK K H b bk ∧ BB bk ∧ bk[n]? = some p ∧ ((bk.take n).map (·.nm)).Nodup ∧
  ∀ H', Same H H' → Q (wv (fault (bk.take n) n p)) H'
theorem ok_law_part_fault (T : Txt K mg) : FnOk P w K mg base CX0 3 T.law_part_fault.a T.law_part_fault.fd ["book", "at"] (sp_law_part_fault K) := by
  refine T.law_part_fault.F.ok sc_law_part_fault (fun vs H Q E h => ?_) (fun cdv A outer s H vs Q E hr h => ?_)
  · obtain ⟨b, bk, n, p, rfl, _⟩ := h
    rfl
  · obtain ⟨b, bk, n, p, rfl, ⟨xs, hb, hA⟩, bb, hp, nd, q⟩ := h
    refine ⟨_, (pss_cons (ps_set (i := 2) sc_law_part_fault.nd rfl (.inr rfl) (pe_ix ix_list (pv 0) (pv 1) (fun _ _ => rfl)))
      (pss_cons (ps_set (i := 3) sc_law_part_fault.nd rfl (.inr rfl) pe_dnewK)
      (pss_cons (ps_for PassesOwn.never rfl (pi_list (pe_slice sl_list (pv 0) po_none (po_some (pv 1)))) (pg_name (i := 4) sc_law_part_fault.nd rfl (.inl rfl))
        (pss_one (ps_asg (pv 4) (pg_sub (pv 3) (pe_ix ix_tup (pv 4) pe_int (fun _ _ => rfl)) (set_dict (r1 hr))))))
      (pss_cons (ps_set (i := 6) sc_law_part_fault.nd rfl (.inl rfl) (pe_op op_cat (pe_op op_cat (pe_op op_cat (pe_op op_cat (pe_op op_cat (pe_lst (pa_cons (pe_ix ix_tup (pv 2) pe_int (fun _ _ => rfl)) pa_nil)) (pe_ix ix_tup (pv 2) pe_int (fun _ _ => rfl))) (pe_ix ix_tup (pv 2) pe_int (fun _ _ => rfl))) (pe_lc (own := [("place", 5)]) rfl sc_law_part_fault.nd (pi_list (pe_ix ix_tup (pv 2) pe_int (fun _ _ => rfl))) (blkOk_by (N := ["book", "at", "part", "before", "other", "place", "names", "known", "texts", "law", "name", "port", "joint", "k", "j", "text"]) (sc := defScope s_law_part_fault) (by decide +kernel)) (fun _ _ _ _ _ => (pg_name (i := 5) sc_law_part_fault.nd rfl (.inl rfl))) (fun _ _ _ _ _ => pts_nil) (fun _ _ _ _ _ => (pe_ix (r := rIxT K) ix_tup (pv 5) pe_int (fun _ _ => rfl))))) (pe_lc (own := [("place", 5)]) rfl sc_law_part_fault.nd (pi_list (pe_ix ix_tup (pv 2) pe_int (fun _ _ => rfl))) (blkOk_by (N := ["book", "at", "part", "before", "other", "place", "names", "known", "texts", "law", "name", "port", "joint", "k", "j", "text"]) (sc := defScope s_law_part_fault) (by decide +kernel)) (fun _ _ _ _ _ => (pg_name (i := 5) sc_law_part_fault.nd rfl (.inl rfl))) (fun _ _ _ _ _ => pts_nil) (fun _ _ _ _ _ => (pe_ix (r := rIxT K) ix_tup (pv 5) pe_int (fun _ _ => rfl))))) (pe_call (ok_law_sizes T) (hr.mono (by decide)) (by rfl) T.law_sizes.g T.law_sizes.F.kp T.law_sizes.b .nil pass0 (pa_cons (pv 2) pa_nil))))
      (pss_cons (ps_set (i := 6) sc_law_part_fault.nd rfl (.inl rfl) (pe_op op_cat (pv 6) (pe_lc (own := [("law", 9)]) rfl sc_law_part_fault.nd (pi_list (pe_ix ix_tup (pv 2) pe_int (fun _ _ => rfl))) (blkOk_by (N := ["book", "at", "part", "before", "other", "place", "names", "known", "texts", "law", "name", "port", "joint", "k", "j", "text"]) (sc := defScope s_law_part_fault) (by decide +kernel)) (fun _ _ _ _ _ => (pg_name (i := 9) sc_law_part_fault.nd rfl (.inl rfl))) (fun _ _ _ _ _ => (pts_one (pt_cmpR op_ne (pe_ix (r := rIxT K) ix_tup (pv 9) (pe_un un_neg pe_int) (fun _ _ => rfl)) pe_str (nomark _)))) (fun _ _ _ _ _ => (pe_ix (r := rIxT K) ix_tup (pv 9) (pe_un un_neg pe_int) (fun _ _ => rfl))))))
      (pss_cons (ps_if (pt_not (pt_val (pe_callB (cr_all rfl) (by rfl) T.m_all (by decide +kernel) (pa_cons (pe_lc (own := [("name", 10)]) rfl sc_law_part_fault.nd (pi_list (pv 6)) (blkOk_by (N := ["book", "at", "part", "before", "other", "place", "names", "known", "texts", "law", "name", "port", "joint", "k", "j", "text"]) (sc := defScope s_law_part_fault) (by decide +kernel)) (fun _ _ _ _ _ => (pg_name (i := 10) sc_law_part_fault.nd rfl (.inl rfl))) (fun _ _ _ _ _ => pts_nil) (fun _ _ _ _ _ => (pe_call (ok_law_is_simple T) (hr.mono (by decide)) (by rfl) T.law_is_simple.g T.law_is_simple.F.kp T.law_is_simple.b .nil pass0 (pa_cons (pv 10) pa_nil)))) pa_nil))))
        (pss_one (ps_ret pe_str))
        pss_nil)
      (pss_cons (ps_if (PW.pt (pw_or (pt_cmpR op_gt (pv 1) pe_int (nomark _)) (pw_or1 (pt_not (pt_val (pe_callB (cr_all rfl) (by rfl) T.m_all (by decide +kernel) (pa_cons (pe_lc (own := [("k", 13)]) rfl sc_law_part_fault.nd (pi_range1 (by rfl) T.m_range (pa_cons pe_int pa_nil)) (blkOk_by (N := ["book", "at", "part", "before", "other", "place", "names", "known", "texts", "law", "name", "port", "joint", "k", "j", "text"]) (sc := defScope s_law_part_fault) (by decide +kernel)) (fun _ _ _ _ _ => (pg_name (i := 13) sc_law_part_fault.nd rfl (.inl rfl))) (fun _ _ _ _ _ => pts_nil) (fun _ _ _ _ _ => (pe_cmpR op_le (pe_callB (id := "len") (r := rLenS K) call_lenC (by rfl) T.m_len (by decide +kernel) (pa_cons (pe_ix (r := rIxT K) ix_tup (pv 2) (pe_op op_add (pv 13) pe_int) (fun _ _ => rfl)) pa_nil)) (pe_ix (r := rIxL K) ix_list (pe_lst (pa_cons pe_int (pa_cons pe_int (pa_cons pe_int (pa_cons pe_int (pa_cons pe_int pa_nil)))))) (pv 13) (fun _ _ => rfl)) (nomark _)))) pa_nil)))))))
        (pss_one (ps_ret pe_str))
        pss_nil)
      (pss_cons (ps_if (PW.pt (pw_or (pt_cmp (pc_din (r1 hr) (pe_ix ix_tup (pv 2) pe_int (fun _ _ => rfl)) (pv 3))) (pw_or1 (pt_val (pe_call (ok_law_doubles T) (hr.mono (by decide)) (by rfl) T.law_doubles.g T.law_doubles.F.kp T.law_doubles.b .nil pass0 (pa_cons (pe_op op_cat (pe_op op_cat (pe_op op_cat (pe_ix ix_tup (pv 2) pe_int (fun _ _ => rfl)) (pe_ix ix_tup (pv 2) pe_int (fun _ _ => rfl))) (pe_lc (own := [("place", 5)]) rfl sc_law_part_fault.nd (pi_list (pe_ix ix_tup (pv 2) pe_int (fun _ _ => rfl))) (blkOk_by (N := ["book", "at", "part", "before", "other", "place", "names", "known", "texts", "law", "name", "port", "joint", "k", "j", "text"]) (sc := defScope s_law_part_fault) (by decide +kernel)) (fun _ _ _ _ _ => (pg_name (i := 5) sc_law_part_fault.nd rfl (.inl rfl))) (fun _ _ _ _ _ => pts_nil) (fun _ _ _ _ _ => (pe_ix (r := rIxT K) ix_tup (pv 5) pe_int (fun _ _ => rfl))))) (pe_call (ok_law_sizes T) (hr.mono (by decide)) (by rfl) T.law_sizes.g T.law_sizes.F.kp T.law_sizes.b .nil pass0 (pa_cons (pv 2) pa_nil))) pa_nil))))))
        (pss_one (ps_ret pe_str))
        pss_nil)
      (pss_cons (ps_if (pt_not (pt_val (pe_callB (cr_all rfl) (by rfl) T.m_all (by decide +kernel) (pa_cons (pe_lc (own := [("place", 5)]) rfl sc_law_part_fault.nd (pi_list (pe_ix ix_tup (pv 2) pe_int (fun _ _ => rfl))) (blkOk_by (N := ["book", "at", "part", "before", "other", "place", "names", "known", "texts", "law", "name", "port", "joint", "k", "j", "text"]) (sc := defScope s_law_part_fault) (by decide +kernel)) (fun _ _ _ _ _ => (pg_name (i := 5) sc_law_part_fault.nd rfl (.inl rfl))) (fun _ _ _ _ _ => pts_nil) (fun _ _ _ _ _ => (pe_cmp (pc_din (r1 hr) (pe_ix (r := rIxT K) ix_tup (pv 5) pe_int (fun _ _ => rfl)) (pv 3))))) pa_nil))))
        (pss_one (ps_ret pe_str))
        pss_nil)
      (pss_cons (ps_set (i := 7) sc_law_part_fault.nd rfl (.inr rfl) (pe_call (ok_law_ownG T) (hr.mono (by decide)) (by rfl) T.law_own.g T.law_own.F.kp T.law_own.b .nil pass0 (pa_cons (pv 2) pa_nil)))
      (pss_cons (ps_set (i := 8) sc_law_part_fault.nd rfl (.inr rfl) (pe_callTy call_list_of (by rfl) T.m_list (by decide +kernel) (pa_cons (pe_ix ix_tup (pv 2) pe_int (fun _ _ => rfl)) pa_nil)))
      (pss_cons (ps_for PassesOwn.never rfl (pi_list (pe_ix ix_tup (pv 2) pe_int (fun _ _ => rfl))) (pg_name (i := 5) sc_law_part_fault.nd rfl (.inr rfl))
        (pss_one (ps_set (i := 8) sc_law_part_fault.nd rfl (.inr rfl) (pe_op op_cat (pv 8) (pe_lc (own := [("port", 11)]) rfl sc_law_part_fault.nd (pi_list (pe_ix (r := rIxT K) ix_tup (pe_dget (r1 hr) (pv 3) (pe_ix ix_tup (pv 5) pe_int (fun _ _ => rfl)) (fun _ _ => rfl)) pe_int (fun _ _ => rfl))) (blkOk_by (N := ["book", "at", "part", "before", "other", "place", "names", "known", "texts", "law", "name", "port", "joint", "k", "j", "text"]) (sc := defScope s_law_part_fault) (by decide +kernel)) (fun _ _ _ _ _ => (pg_name (i := 11) sc_law_part_fault.nd rfl (.inl rfl))) (fun _ _ _ _ _ => pts_nil) (fun _ _ _ _ _ => (pe_op op_add_str (pe_op op_add_str (pe_ix (r := rIxT K) ix_tup (pv 5) pe_int (fun _ _ => rfl)) pe_str) (pv 11))))))))
      (pss_cons (ps_if (pt_not (pt_val (pe_callB (cr_all rfl) (by rfl) T.m_all (by decide +kernel) (pa_cons (pe_lc (own := [("law", 9)]) rfl sc_law_part_fault.nd (pi_list (pe_ix ix_tup (pv 2) pe_int (fun _ _ => rfl))) (blkOk_by (N := ["book", "at", "part", "before", "other", "place", "names", "known", "texts", "law", "name", "port", "joint", "k", "j", "text"]) (sc := defScope s_law_part_fault) (by decide +kernel)) (fun _ _ _ _ _ => (pg_name (i := 9) sc_law_part_fault.nd rfl (.inl rfl))) (fun _ _ _ _ _ => pts_nil) (fun _ _ _ _ _ => (pe_callB (id := "all") (r := rAll K) (cr_all rfl) (by rfl) T.m_all (by decide +kernel) (pa_cons (pe_lc (wi := iList K _) (own := [("k", 13), ("j", 14)]) (g := gTup K 2 (gCons (gName 13) (gCons (gName 14) gNil))) rfl sc_law_part_fault.nd (pi_list (pe_call (ok_law_places_of T) (hr.mono (by decide)) (by rfl) T.law_places_of.g T.law_places_of.F.kp T.law_places_of.b .nil pass0 (pa_cons (pv 9) pa_nil))) (blkOk_by (N := ["book", "at", "part", "before", "other", "place", "names", "known", "texts", "law", "name", "port", "joint", "k", "j", "text"]) (sc := { kind := .function, names := [(".0", .local), ("law", .local), ("all", .globalImplicit), ("_law_places_of", .globalImplicit), ("known", .cell)], isGenerator := false, isCoroutine := false, more := [] }) (by decide +kernel)) (fun _ _ _ _ _ => (pg_tup rfl (pgs_cons (pg_name (i := 13) sc_law_part_fault.nd rfl (.inl rfl)) (pgs_cons (pg_name (i := 14) sc_law_part_fault.nd rfl (.inl rfl)) pgs_nil)))) (fun _ _ _ _ _ => pts_nil) (fun _ _ _ _ _ => (pe_cmpR (r := rIn K false) op_in_seq (pv 14) (pv 7) rfl))) pa_nil)))) pa_nil))))
        (pss_one (ps_ret pe_str))
        pss_nil)
      (pss_cons (ps_if (pt_not (pt_val (pe_callB (cr_all rfl) (by rfl) T.m_all (by decide +kernel) (pa_cons (pe_lc (own := [("joint", 12)]) rfl sc_law_part_fault.nd (pi_list (pe_ix ix_tup (pv 2) pe_int (fun _ _ => rfl))) (blkOk_by (N := ["book", "at", "part", "before", "other", "place", "names", "known", "texts", "law", "name", "port", "joint", "k", "j", "text"]) (sc := defScope s_law_part_fault) (by decide +kernel)) (fun _ _ _ _ _ => (pg_name (i := 12) sc_law_part_fault.nd rfl (.inl rfl))) (fun _ _ _ _ _ => pts_nil) (fun _ _ _ _ _ => (pe_callB (id := "all") (r := rAll K) (cr_all rfl) (by rfl) T.m_all (by decide +kernel) (pa_cons (pe_lc (wi := iList K _) (own := [("text", 15)]) rfl sc_law_part_fault.nd (pi_list (pv 12)) (blkOk_by (N := ["book", "at", "part", "before", "other", "place", "names", "known", "texts", "law", "name", "port", "joint", "k", "j", "text"]) (sc := { kind := .function, names := [(".0", .local), ("joint", .local), ("all", .globalImplicit), ("texts", .cell)], isGenerator := false, isCoroutine := false, more := [] }) (by decide +kernel)) (fun _ _ _ _ _ => (pg_name (i := 15) sc_law_part_fault.nd rfl (.inl rfl))) (fun _ _ _ _ _ => pts_nil) (fun _ _ _ _ _ => (pe_cmpR (r := rIn K false) op_in_seq (pv 15) (pv 8) rfl))) pa_nil)))) pa_nil))))
        (pss_one (ps_ret pe_str))
        pss_nil)
      (pss_cons (ps_if (pt_not (pt_val (pe_call (ok_law_range T) (hr.mono (by decide)) (by rfl) T.law_range.g T.law_range.F.kp T.law_range.b .nil pass0 (pa_cons (pv 2) pa_nil))))
        (pss_one (ps_ret pe_str))
        pss_nil)
      (pss_cons (ps_if (PW.pt (pw_or (pt_val (pe_callB (cr_any rfl) (by rfl) T.m_any (by decide +kernel) (pa_cons (pe_lc (own := [("law", 9)]) rfl sc_law_part_fault.nd (pi_list (pe_ix ix_tup (pv 2) pe_int (fun _ _ => rfl))) (blkOk_by (N := ["book", "at", "part", "before", "other", "place", "names", "known", "texts", "law", "name", "port", "joint", "k", "j", "text"]) (sc := defScope s_law_part_fault) (by decide +kernel)) (fun _ _ _ _ _ => (pg_name (i := 9) sc_law_part_fault.nd rfl (.inl rfl))) (fun _ _ _ _ _ => pts_nil) (fun _ _ _ _ _ => (pe_call (ok_law_doublesP T) (hr.mono (by decide)) (by rfl) T.law_doubles.g T.law_doubles.F.kp T.law_doubles.b .nil pass0 (pa_cons (pe_call (ok_law_places_of T) (hr.mono (by decide)) (by rfl) T.law_places_of.g T.law_places_of.F.kp T.law_places_of.b .nil pass0 (pa_cons (pv 9) pa_nil)) pa_nil)))) pa_nil))) (pw_or1 (pt_val (pe_callB (cr_any rfl) (by rfl) T.m_any (by decide +kernel) (pa_cons (pe_lc (own := [("joint", 12)]) rfl sc_law_part_fault.nd (pi_list (pe_ix ix_tup (pv 2) pe_int (fun _ _ => rfl))) (blkOk_by (N := ["book", "at", "part", "before", "other", "place", "names", "known", "texts", "law", "name", "port", "joint", "k", "j", "text"]) (sc := defScope s_law_part_fault) (by decide +kernel)) (fun _ _ _ _ _ => (pg_name (i := 12) sc_law_part_fault.nd rfl (.inl rfl))) (fun _ _ _ _ _ => pts_nil) (fun _ _ _ _ _ => (pe_call (ok_law_doubles T) (hr.mono (by decide)) (by rfl) T.law_doubles.g T.law_doubles.F.kp T.law_doubles.b .nil pass0 (pa_cons (pv 12) pa_nil)))) pa_nil))))))
        (pss_one (ps_ret pe_str))
        pss_nil)
      (pss_one (ps_ret pe_non)))))))))))))))))), ?_⟩
    have el := hA.len
    have hn : n < bk.length := (List.getElem?_eq_some_iff.mp hp).1
    have b16 := bb.1
    have bp := bb.2 p (mem_at hp)
    obtain ⟨v, hv, hPT⟩ := hA.get' hp
    refine ⟨.ref b, rfl, _, rfl, b, _, _, _, rfl, rfl, .of hb, atI_nat hv, fun d nd0 => ?_⟩
    have s0 := same_upd nd0 (o := .dK [])
    have hd0 := upd_same (H := H) (a := d) (o := HO.dK [])
    have hb0 := s0 _ _ hb
    refine ⟨.ref b, rfl, _, rfl, _, rfl, b, _, rfl, .of hb0, fun S nS => ?_⟩
    have dS : d ≠ S := fun z => by rw [← z, hd0] at nS; cases nS
    rw [cut3 (by omega)]
    have sS := same_upd nS (o := .lst (xs.take n))
    have hS0 := upd_same (H := upd H d (.dK [])) (a := S) (o := HO.lst (xs.take n))
    have hd1 := sS _ _ hd0
    have s1 := s0.trans sS
    generalize upd (upd H d _) S _ = H1 at s1 hS0 hd1
    refine ⟨S, rfl, ⟨_, .of hS0⟩, ?_⟩
    refine for_it (walk_list (K := K) (a := S) (xs := xs.take n)) (fun i σ G => Same H G ∧ G S = some (.lst (xs.take n)) ∧ G d = some (.dK (kvB (bk.take i) (xs.take i))) ∧ ∃ v4 : Option V, σ = [some (.ref b), some (.int (n : Nat)), some v, some (.ref d), v4, none, none, none, none, none, none, none, none, none, none, none]) ⟨s1, hS0, hd1, none, rfl⟩ (fun i σ G _ pv => .of pv.2.1) (fun i x σ G G' hi pv y => ?_) (fun σ G pv => ?_)
    · obtain ⟨sm, hS, hd, v4, rfl⟩ := pv
      obtain ⟨rfl, hx⟩ := y
      have hi' : i < n := by rw [List.length_take] at hi; omega
      rw [List.getElem?_take_of_lt hi'] at hx
      obtain ⟨p2, hp2, hP2⟩ := hA.get hx
      obtain ⟨a2, zs, rfl, h02, e02, -⟩ := part_at (hP2.same sm)
      have hl : i < bk.length := by omega
      have nn : valV (kvB (bk.take i) (xs.take i)) (.inr p2.nm) = none := kvB_none fun q2 hq2 e => by
        obtain ⟨j, hj, rfl⟩ := List.getElem_of_mem hq2
        rw [List.length_take] at hj
        rw [List.getElem_take] at e
        have := (List.getElem_inj (i := j) (j := i) (h₀ := by rw [List.length_map, List.length_take]; omega) (h₁ := by rw [List.length_map, List.length_take]; omega) nd).mp (by
          rw [List.getElem_map, List.getElem_map, List.getElem_take, List.getElem_take, e]
          have : bk[i] = p2 := by rw [List.getElem?_eq_getElem hl] at hp2; exact Option.some.inj hp2
          rw [this])
        omega
      refine ⟨_, rfl, _, rfl, _, rfl, a2, zs, _, _, rfl, rfl, h02, e02, d, _, rfl, DPut.k (k := .inr p2.nm) hd ?_, ?_⟩
      · exact small' (Nat.lt_of_le_of_lt kvB_len (by rw [List.length_take]; omega))
      · refine ⟨same_over sm nd0, by rw [upd_ne dS.symm]; exact hS, ?_, _, rfl⟩
        rw [upd_same, putK_new _ nn, take_snoc hp2, take_snoc hx, kvB_snoc (by rw [List.length_take, List.length_take]; omega)]
    obtain ⟨sm, -, hd, v4, rfl⟩ := pv
    rw [List.length_take, Nat.min_eq_left (by omega)] at hd
    have kv : Kv K G d (bk.take n) := kv_of hd (hA.mono fun _ _ z => z.same sm) nd
    have hPG := hPT.same sm
    have bbk : ∀ x ∈ bk.take n, BP x := fun x hx => bb.2 x (List.mem_of_mem_take hx)
    clear hd hPT hS0 hd1 s1 sS dS hb0 hd0 s0
    generalize bk.take n = bef at q kv bbk
    obtain ⟨a, po, inn, pl, la, jo, rfl, h0, h1, h2, ⟨ys, hy, hP⟩, ⟨zs, hz, hL⟩, ⟨us, hu, hJ⟩⟩ := id hPG
    have l1 := bp.po.1
    have l2 := bp.inn.1
    have l3 := bp.pl.1
    have l4 := sizesOf_len bp
    have l5 := srcs_len bp
    have l6 := bp.ls.1
    refine ⟨_, rfl, a, _, _, _, rfl, rfl, h0, rfl, by show 1 ≤ sizeLine; decide, fun z0 n0 => ?_⟩
    have t0 := same_upd n0 (o := .lst [V.str p.nm])
    have e0 : SL (upd G z0 (.lst [V.str p.nm])) z0 [p.nm] := upd_same
    generalize upd G z0 _ = G0 at t0 e0
    refine ⟨_, rfl, a, _, _, _, rfl, rfl, Same.seqT t0 h0, rfl, z0, po, _, _, rfl, rfl, e0, t0 _ _ h1, by rw [List.length_map, List.length_map]; exact small (by show 1 + _ ≤ 60000; omega), fun z1 n1 => ?_⟩
    have t1 := t0.trans (same_upd n1 (o := .lst ([p.nm].map V.str ++ p.po.map V.str)))
    have e1 := cat_at (G := G0) (z := z1) [p.nm] p.po
    generalize upd G0 z1 _ = G1 at t1 e1
    refine ⟨_, rfl, a, _, _, _, rfl, rfl, Same.seqT t1 h0, rfl, z1, inn, _, _, rfl, rfl, e1, t1 _ _ h2, by rw [List.length_map, List.length_append, List.length_map]; exact small (by show 1 + _ + _ ≤ 60000; omega), fun z2 n2 => ?_⟩
    have t2 := t1.trans (same_upd n2 (o := .lst (([p.nm] ++ p.po).map V.str ++ p.inn.map V.str)))
    have e2 := cat_at (G := G1) (z := z2) ([p.nm] ++ p.po) p.inn
    generalize upd G1 z2 _ = G2 at t2 e2
    refine ⟨_, rfl, a, _, _, _, rfl, rfl, Same.seqT t2 h0, rfl, pl, rfl, ⟨ys, .of (t2 _ _ hy)⟩, fun D3 nD3 => pl_lc (f := (·.1)) (fun _ => rfl) nD3 (t2 _ _ hy) (hP.mono fun _ _ z => PlV.same t2 z) l3 fun G3 s3 hD3 => ?_⟩
    have t3 := t2.trans s3
    refine ⟨z2, D3, _, _, rfl, rfl, s3 _ _ e2, hD3, by simp only [List.length_map, List.length_append, List.length_cons, List.length_nil]; exact small (by omega), fun z3 n3 => ?_⟩
    have t3 := t3.trans (same_upd n3 (o := .lst (([p.nm] ++ p.po ++ p.inn).map V.str ++ (p.pl.map (·.1)).map V.str)))
    have e3 := cat_at (G := G3) (z := z3) ([p.nm] ++ p.po ++ p.inn) (p.pl.map (·.1))
    generalize upd G3 z3 _ = G4 at t3 e3
    refine ⟨_, rfl, a, _, _, _, rfl, rfl, Same.seqT t3 h0, rfl, pl, rfl, ⟨ys, .of (t3 _ _ hy)⟩, fun D4 nD4 => pl_lc (f := (·.2)) (fun _ => rfl) nD4 (t3 _ _ hy) (hP.mono fun _ _ z => PlV.same t3 z) l3 fun G5 s5 hD5 => ?_⟩
    refine ⟨z3, D4, _, _, rfl, rfl, s5 _ _ e3, hD5, by simp only [List.length_map, List.length_append, List.length_cons, List.length_nil]; exact small (by omega), fun z4 n4 => ?_⟩
    have t4 := (t3.trans s5).trans (same_upd n4 (o := .lst (([p.nm] ++ p.po ++ p.inn ++ p.pl.map (·.1)).map V.str ++ (p.pl.map (·.2)).map V.str)))
    have e4 := cat_at (G := G5) (z := z4) ([p.nm] ++ p.po ++ p.inn ++ p.pl.map (·.1)) (p.pl.map (·.2))
    generalize upd G5 z4 _ = G6 at t4 e4
    refine ⟨_, rfl, .ref a, p, rfl, hPG.same t4, bp, fun G7 q7 s7 n7 hq7 => ?_⟩
    refine ⟨z4, q7, _, _, rfl, rfl, s7 _ _ e4, hq7, by simp only [List.length_map, List.length_append, List.length_cons, List.length_nil]; exact small (by omega), fun z5 n5 => ?_⟩
    have t5 := (t4.trans s7).trans (same_upd n5 (o := .lst (([p.nm] ++ p.po ++ p.inn ++ p.pl.map (·.1) ++ p.pl.map (·.2)).map V.str ++ (sizesOf p).map V.str)))
    have e5 := cat_at (G := G7) (z := z5) ([p.nm] ++ p.po ++ p.inn ++ p.pl.map (·.1) ++ p.pl.map (·.2)) (sizesOf p)
    generalize upd G7 z5 _ = G8 at t5 e5
    refine ⟨_, rfl, _, rfl, a, _, _, _, rfl, rfl, Same.seqT t5 h0, rfl, la, rfl, ⟨zs, .of (t5 _ _ hz)⟩, fun D5 nD5 => ?_⟩
    refine lc_fm (walk_list (K := K) (a := la) (xs := zs)) p.ls (fun l => if l.src = ("" : Str) then none else some l.src) (fun _ v b => v = .str b) (fun _ _ _ _ _ z => z) hL.len.symm nD5 (fun H' s => .of (s _ _ (t5 _ _ hz))) (small' (by have := hL.len; omega)) (fun i x G3 Gx ys2 l el sm3 hD y Qt Qf qt qf => ?_) (fun G9 zs9 s9 hD9 hR => ?_)
    · obtain ⟨rfl, hx⟩ := y
      obtain ⟨l', hl', rl⟩ := hL.get hx
      obtain rfl := Option.some.inj (el.symm.trans hl')
      obtain ⟨a2, xs2, rfl, ht2, h02⟩ := src_at (rl.same (t5.trans sm3))
      refine ⟨rfl, _, rfl, _, rfl, a2, xs2, _, _, rfl, rfl, ht2, h02, rfl, _, rfl, ite2 (fun h => ?_) (fun h => ?_)⟩
      · have ne : l.src ≠ ("" : Str) := fun z => by
          rw [z] at h
          exact absurd h (by decide)
        exact ⟨_, rfl, _, rfl, a2, xs2, _, _, rfl, rfl, ht2, h02, qt _ _ l.src (if_neg ne) (.refl _) rfl⟩
      · have e : l.src = ("" : Str) := Classical.byContradiction fun z => h (by
          show (!decide (V.str l.src = V.str "")) = true
          rw [decide_eq_false fun e => z (V.str.inj e)]; rfl)
        exact qf (if_pos e) _ (.refl _)
    rw [a2_eq (f := V.str) hR] at hD9
    have hD9 : SL G9 D5 (srcs p) := hD9
    refine ⟨z5, D5, _, _, rfl, rfl, s9 _ _ e5, hD9, by simp only [List.length_map, List.length_append, List.length_cons, List.length_nil]; exact small (by omega), fun z6 n6 => ?_⟩
    have t6 := (t5.trans s9).trans (same_upd n6 (o := .lst (([p.nm] ++ p.po ++ p.inn ++ p.pl.map (·.1) ++ p.pl.map (·.2) ++ sizesOf p).map V.str ++ (srcs p).map V.str)))
    have e6 := cat_at (G := G9) (z := z6) ([p.nm] ++ p.po ++ p.inn ++ p.pl.map (·.1) ++ p.pl.map (·.2) ++ sizesOf p) (srcs p)
    rw [names_eq] at e6
    generalize upd G9 z6 _ = G10 at t6 e6
    have ln := namesOf_gs bp
    have lnn : (namesOf p).length ≤ 1000 := by
      rw [← names_eq]
      simp only [List.length_map, List.length_append, List.length_cons, List.length_nil]
      omega
    refine ⟨_, rfl, z6, rfl, ⟨_, .of e6⟩, fun D6 nD6 => ?_⟩
    refine lc_inv (walk_list (K := K) (a := z6) (xs := (namesOf p).map V.str)) (fun i _ ys => A2 (fun v s => ∃ b : Bool, v = .bl b ∧ (b = true ↔ wd12 s = true)) ys ((namesOf p).take i)) nD6 (fun H' s => .of (s _ _ e6)) (small' (by rw [List.length_map]; omega)) .nil (fun i x G2 Hx ys hi sm2 hD hR y Qt Qf qt qf => ?_) (fun G11 ys11 s11 hD11 hR => ?_)
    · obtain ⟨rfl, hx⟩ := y
      rw [List.getElem?_map] at hx
      obtain ⟨s, hs, rfl⟩ := Option.map_eq_some_iff.mp hx
      refine ⟨rfl, _, rfl, s, rfl, by have := (ln s (mem_at hs)).1; omega, fun H5 s5 => qt _ _ s5 ?_⟩
      rw [take_snoc hs]
      exact A2.snoc ⟨_, rfl, Iff.rfl⟩ hR
    rw [List.length_map, List.take_length] at hR
    obtain ⟨bs, rfl, hb11⟩ := bools hR
    have i11 := all_iff hb11
    clear hR hb11
    refine ⟨D6, bs, rfl, .of hD11, ⟨_, rfl, ?_⟩⟩
    have t11 := t6.trans s11
    cases hbs : bs.all id with
    | false =>
      refine iteT ?_
      have := q G11 (sm.trans t11)
      rw [fault0 (fun z => by rw [hbs] at i11; cases i11.mpr z)] at this
      exact this
    | true =>
    have f0 : Named p := i11.mp hbs
    refine iteF ⟨_, rfl, _, _, rfl, rfl, _, rfl, ?_⟩
    refine ite2 (fun c1 => ?_) (fun c1 => ?_)
    · refine iteT ?_
      have := q G11 (sm.trans t11)
      rw [fault1 f0 (.inl (by have := of_decide_eq_true c1; omega))] at this
      exact this
    have n12 : ¬ 12 ≤ n := fun z => c1 (decide_eq_true (by omega))
    refine ⟨5, rfl, by decide, by decide, fun D7 nD7 => ?_⟩
    obtain ⟨a9, ps9, e9, h09, -, hat⟩ := part_at (hPG.same t11)
    cases e9
    refine lc_inv (walk_range (lo := 0) (n := 5)) (fun i _ ys => A2 (fun v k => ∃ b : Bool, v = .bl b ∧ (b = true ↔ ¬ mosts k < (lens p k : Nat))) ys (List.range i)) nD7 (fun _ _ => trivial) (by decide) .nil (fun i x G2 Hx ys hi sm2 hD hR y Qt Qf qt qf => ?_) (fun G12 ys12 s12 hD12 hR => ?_)
    · obtain ⟨rfl, rfl⟩ := y
      obtain ⟨r, zs, ar, hr', lz⟩ := hat i hi
      refine ⟨rfl, _, rfl, _, rfl, _, _, rfl, rfl, a, ps9, _, _, rfl, rfl, Same.seqT sm2 h09, by rw [Int.zero_add]; exact ar, r, _, rfl, .inl (.of (sm2 _ _ hr')), by show 5 ≤ sizeLine; decide, fun u nu => ?_⟩
      refine ⟨_, rfl, u, _, _, _, rfl, rfl, .of upd_same, by rw [Int.zero_add]; exact atI_nat (most_at hi), _, _, rfl, rfl, ?_⟩
      refine qt _ _ (same_upd nu) ?_
      rw [List.range_succ]
      refine A2.snoc ⟨_, rfl, ?_⟩ hR
      rw [decide_eq_true_eq, lz]
      omega
    obtain ⟨bs2, rfl, hb12⟩ := bools hR
    have i12 := all_iff hb12
    clear hR hb12
    refine ⟨D7, bs2, rfl, .of hD12, ⟨_, rfl, ?_⟩⟩
    have t12 := t11.trans s12
    cases hbs2 : bs2.all id with
    | false =>
      refine iteT ?_
      have := q G12 (sm.trans t12)
      rw [fault1 f0 (.inr (Classical.byContradiction fun z => by
        rw [hbs2] at i12
        cases i12.mpr fun k hk c => z ⟨k, List.mem_range.mp hk, c⟩))] at this
      exact this
    | true =>
    have f1 : ¬ (12 ≤ n ∨ TooLong p) := by
      rintro (z | ⟨k, hk, c⟩)
      · exact n12 z
      · exact i12.mp hbs2 k (List.mem_range.mpr hk) c
    refine iteF ?_
    have hP12 : A2 (PlV K G12) ys p.pl := hP.mono fun _ _ z => PlV.same t12 z
    have dget : ∀ (G' : Hp) (s : Str), Same G G' → ∃ g, DGet G' d (.str s) g ∧ (g.isSome = true ↔ ∃ q ∈ bef, q.nm = s) := fun G' s sm => by
      by_cases e : ∃ q ∈ bef, q.nm = s
      · obtain ⟨q, hq, e2⟩ := id e
        obtain ⟨v, g, _⟩ := kv.some hq e2
        exact ⟨_, g _ sm, fun _ => e, fun _ => rfl⟩
      · exact ⟨_, (kv.same sm).none (fun q hq z => e ⟨q, hq, z⟩), (fun z => by cases z), fun z => absurd z e⟩
    obtain ⟨g1, gg1, eg1⟩ := dget G12 p.nm t12
    have h12 := Same.seqT t12 h0
    clear hat h09 i12 i11 hbs hbs2 hD11 hD12 e0 e1 e2 e3 e4 e5 e6 t0 t1 t2 t3 t4 t5 t6 s3 s5 s7 s9 s11 hD3 hD5 hD9 hq7
    refine ⟨_, rfl, a, _, _, _, rfl, rfl, h12, rfl, _, rfl, d, g1, rfl, gg1, _, rfl, ite2 (fun c2 => ?_) (fun c2 => ?_)⟩
    · refine iteT ?_
      have := q G12 (sm.trans t12)
      rw [fault2 f0 f1 (.inl (eg1.mp c2))] at this
      exact this
    refine ⟨_, rfl, a, _, _, _, rfl, rfl, h12, rfl, _, rfl, a, _, _, _, rfl, rfl, h12, rfl, po, inn, _, _, rfl, rfl, t12 _ _ h1, t12 _ _ h2, by rw [List.length_map, List.length_map]; exact small (by omega), fun z7 n7 => ?_⟩
    have u7 := same_upd n7 (o := .lst (p.po.map V.str ++ p.inn.map V.str))
    have e7 := cat_at (G := G12) (z := z7) p.po p.inn
    generalize upd G12 z7 _ = G13 at u7 e7
    have t13 := t12.trans u7
    refine ⟨_, rfl, a, _, _, _, rfl, rfl, Same.seqT t13 h0, rfl, pl, rfl, ⟨ys, .of (t13 _ _ hy)⟩, fun D8 nD8 => pl_lc (f := (·.1)) (fun _ => rfl) nD8 (t13 _ _ hy) (hP12.mono fun _ _ z => PlV.same u7 z) l3 fun G14 s14 hD8 => ?_⟩
    refine ⟨z7, D8, _, _, rfl, rfl, s14 _ _ e7, hD8, by simp only [List.length_map, List.length_append, List.length_cons, List.length_nil]; exact small (by omega), fun z8 n8 => ?_⟩
    have t15 := (t13.trans s14).trans (same_upd n8 (o := .lst ((p.po ++ p.inn).map V.str ++ (p.pl.map (·.1)).map V.str)))
    have e8 : SL (upd G14 z8 (.lst ((p.po ++ p.inn).map V.str ++ (p.pl.map (·.1)).map V.str))) z8 (ownNames p) := cat_at (G := G14) (z := z8) (p.po ++ p.inn) (p.pl.map (·.1))
    generalize upd G14 z8 _ = G15 at t15 e8
    have lon := ownNames_len bp
    refine ⟨_, rfl, .ref a, p, rfl, hPG.same t15, bp, fun G16 q16 s16 n16 hq16 => ?_⟩
    refine ⟨z8, q16, _, _, rfl, rfl, s16 _ _ e8, hq16, by rw [List.length_map, List.length_map]; exact small (by omega), fun z9 n9 => ?_⟩
    have t17 := (t15.trans s16).trans (same_upd n9 (o := .lst ((ownNames p).map V.str ++ (sizesOf p).map V.str)))
    have e9 := cat_at (G := G16) (z := z9) (ownNames p) (sizesOf p)
    generalize upd G16 z9 _ = G17 at t17 e9
    refine ⟨z9, _, rfl, e9, by rw [List.length_append]; omega, fun b18 G18 hb18 s18 => ⟨_, rfl, ?_⟩⟩
    have t18 := t17.trans s18
    clear e9 t17 e8 t15 s14 hD8 e7 u7 t13 hq16 s16
    cases b18 with
    | true =>
      refine iteT ?_
      have := q G18 (sm.trans t18)
      rw [fault2 f0 f1 (.inr (hb18.mp rfl))] at this
      exact this
    | false =>
    have f2 : ¬ Taken bef p := by
      rintro (z | z)
      · exact c2 (eg1.mpr z)
      · cases hb18.mpr z
    refine iteF ?_
    have hP18 : A2 (PlV K G18) ys p.pl := hP.mono fun _ _ z => PlV.same t18 z
    refine ⟨_, rfl, a, _, _, _, rfl, rfl, Same.seqT t18 h0, rfl, pl, rfl, ⟨ys, .of (t18 _ _ hy)⟩, fun D19 nD19 => ?_⟩
    refine lc_inv (walk_list (K := K) (a := pl) (xs := ys)) (fun i _ ys => A2 (fun v (x : Str × Str) => ∃ b : Bool, v = .bl b ∧ (b = true ↔ ∃ q ∈ bef, q.nm = x.2)) ys (p.pl.take i)) nD19 (fun H' s => .of (s _ _ (t18 _ _ hy))) (small' (by have := hP.len; omega)) .nil (fun i x G2 Hx ys hi sm2 hD hR y Qt Qf qt qf => ?_) (fun G19 ys19 s19 hD19 hR => ?_)
    · obtain ⟨rfl, hx⟩ := y
      obtain ⟨pr, hpr, t, rfl, hq⟩ := hP18.get hx
      obtain ⟨g, gg, eg⟩ := dget Hx pr.2 (t18.trans sm2)
      refine ⟨rfl, _, rfl, t, _, _, _, rfl, rfl, Same.seqT sm2 hq, rfl, _, rfl, d, g, rfl, gg, ?_⟩
      refine qt _ _ (.refl _) ?_
      rw [take_snoc hpr]
      exact A2.snoc ⟨_, rfl, eg⟩ hR
    rw [hP.len, List.take_length] at hR
    obtain ⟨bs3, rfl, hb19⟩ := bools hR
    have i19 := all_iff hb19
    clear hR hb19
    refine ⟨D19, bs3, rfl, .of hD19, ⟨_, rfl, ?_⟩⟩
    have t19 := t18.trans s19
    cases hbs3 : bs3.all id with
    | false =>
      refine iteT ?_
      have := q G19 (sm.trans t19)
      rw [fault3 f0 f1 f2 (fun z => by rw [hbs3] at i19; cases i19.mpr z)] at this
      exact this
    | true =>
    have f3 : Known bef p := i19.mp hbs3
    refine iteF ?_
    refine ⟨_, rfl, a, po, inn, _, p, rfl, Same.seqT t19 h0, rfl, rfl, t19 _ _ h1, t19 _ _ h2, by omega, by omega, fun x hx => by have := (bp.po.2 x hx).1; omega, fun G20 q20 s20 n20 hq20 => ?_⟩
    have t20 := t19.trans s20
    refine ⟨_, rfl, a, _, _, _, rfl, rfl, Same.seqT t20 h0, rfl, po, _, rfl, .inl (.of (t20 _ _ h1)), fun z21 n21 => ?_⟩
    have t21 := t20.trans (same_upd n21 (o := .lst (p.po.map V.str)))
    have e21 : SL (upd G20 z21 (.lst (p.po.map V.str))) z21 p.po := upd_same
    have k21 : SL (upd G20 z21 (.lst (p.po.map V.str))) q20 (own p.po p.inn) := same_upd n21 _ _ hq20
    generalize upd G20 z21 _ = G21 at t21 e21 k21
    refine ⟨_, rfl, a, _, _, _, rfl, rfl, Same.seqT t21 h0, rfl, pl, rfl, ⟨ys, .of (t21 _ _ hy)⟩, ?_⟩
    clear hD9 hR i19 hbs3 hD19 eg1 gg1 c2 hb18
    have hin := pk_in f3
    have epl := pk_pl f3
    have lpk : (pkOf bef p).length ≤ 64 := by unfold pkOf; rw [List.length_map]; exact l3
    have gpl : ∀ x ∈ pkOf bef p, GS 60 x.1 := fun x hx => by
      obtain ⟨y, hy, rfl⟩ := List.mem_map.mp hx
      exact (bp.pl.2 y hy).1
    have ltx := txt_len bp bbk f3
    have etx : txt bef p = p.po ++ (pkOf bef p).flatMap fun x => x.2.po.map fun q => x.1 ++ ("." : Str) ++ q := rfl
    have hP21 : A2 (PlV K G21) ys p.pl := hP.mono fun _ _ z => PlV.same t21 z
    rw [epl] at hP21
    have lenT : ∀ i : Nat, ((pkOf bef p).take i |>.flatMap fun x => x.2.po.map fun q => x.1 ++ ("." : Str) ++ q).length ≤ 4096 := fun i => by
      have a := txs64 ((pkOf bef p).take i) fun x hx => (bbk _ (hin x (List.mem_of_mem_take hx))).po.1
      have b : ((pkOf bef p).take i).length ≤ 64 := by rw [List.length_take]; omega
      omega
    refine for_it (walk_list (K := K) (a := pl) (xs := ys)) (fun i σ G' => Same G21 G' ∧ ∃ (v5 v11 : Option V) (t : Addr), σ = [some (.ref b), some (.int (n : Nat)), some (.ref a), some (.ref d), v4, v5, some (.ref z6), some (.ref q20), some (.ref t), none, none, v11, none, none, none, none] ∧ SL G' t (p.po ++ ((pkOf bef p).take i).flatMap fun x => x.2.po.map fun q => x.1 ++ ("." : Str) ++ q)) ⟨.refl _, none, none, z21, rfl, by rw [List.take_zero, List.flatMap_nil, List.append_nil]; exact e21⟩ (fun i σ G' _ pv => .of (pv.1 _ _ (t21 _ _ hy))) (fun i x σ G' Gx hi pv y => ?_) (fun σ G22 pv => ?_)
    · obtain ⟨sm2, v5, v11, t, rfl, ht⟩ := pv
      obtain ⟨rfl, hx⟩ := y
      obtain ⟨pr, hpr, u, rfl, hq⟩ := hP21.get hx
      rw [List.getElem?_map] at hpr
      obtain ⟨kx, ek, rfl⟩ := Option.map_eq_some_iff.mp hpr
      have mk := mem_at ek
      have bk2 := bbk _ (hin kx mk)
      obtain ⟨v, hv2, ka, kpo, kinn, kpl, kla, kjo, rfl, hkt, hkpo, _⟩ := kv.some (hin kx mk) rfl
      have sG := t21.trans sm2
      have lp := bk2.po.1
      have gp := bk2.po.2
      have gn := gpl kx mk
      refine ⟨_, rfl, _, rfl, _, rfl, u, _, _, _, rfl, rfl, Same.seqT sm2 hq, rfl, d, _, rfl, hv2 _ sG, ka, _, _, _, rfl, rfl, Same.seqT sG hkt, rfl, kpo, rfl, ⟨_, .of (sG _ _ hkpo)⟩, fun D nD => ?_⟩
      refine lc_fm (walk_list (K := K) (a := kpo) (xs := kx.2.po.map V.str)) kx.2.po (fun q => some (kx.1 ++ ("." : Str) ++ q)) (fun _ v b => v = .str b) (fun _ _ _ _ _ z => z) (by rw [List.length_map]) nD (fun H' s => .of (s _ _ (sG _ _ hkpo))) (small' (by rw [List.length_map]; omega)) (fun j x G3 Gy ys2 l el sm3 hD y Qt Qf qt qf => ?_) (fun G3 zs3 sm3 hD hR => ?_)
      · obtain ⟨rfl, hx⟩ := y
        rw [List.getElem?_map, el] at hx
        obtain rfl := Option.some.inj hx
        have g1 := gn.1
        have g2 := (gp l (mem_at el)).1
        refine ⟨rfl, _, rfl, u, _, _, _, rfl, rfl, Same.seqT (sm2.trans sm3) hq, rfl, _, _, rfl, rfl, ?_, _, rfl, _, _, rfl, rfl, ?_, qt _ _ _ rfl (.refl _) rfl⟩
        · exact small (by show kx.1.length + 1 ≤ 60000; omega)
        · rw [Str.length_append]; exact small (by show kx.1.length + 1 + _ ≤ 60000; omega)
      · rw [fm_id] at hR
        rw [a2_eq (f := V.str) hR] at hD
        have := lenT i
        refine ⟨t, D, _, _, rfl, rfl, sm3 _ _ ht, hD, by simp only [List.length_map, List.length_append]; exact small (by omega), fun z nz => ?_⟩
        refine ⟨sm2.trans (sm3.trans (same_upd nz)), _, _, z, rfl, ?_⟩
        have := cat_at (G := G3) (z := z) (p.po ++ ((pkOf bef p).take i).flatMap fun x => x.2.po.map fun q => x.1 ++ ("." : Str) ++ q) (kx.2.po.map fun q => kx.1 ++ ("." : Str) ++ q)
        rw [take_snoc ek, List.flatMap_append, List.flatMap_singleton, ← List.append_assoc]
        exact this
    obtain ⟨s22, v5, v11, tx, rfl, htx⟩ := pv
    rw [List.take_of_length_le (by have := hP21.len; rw [List.length_map] at this; omega), ← etx] at htx
    have t22 := t21.trans s22
    have k22 := s22 _ _ k21
    clear lenT hP21 e21 k21 t20 t19 t18 hq20 s20 s19 s18
    refine ⟨_, rfl, a, _, _, _, rfl, rfl, Same.seqT t22 h0, rfl, la, rfl, ⟨zs, .of (t22 _ _ hz)⟩, fun D23 nD23 => ?_⟩
    refine lc_inv (walk_list (K := K) (a := la) (xs := zs)) (fun i _ ys => A2 (fun v (l : Lw) => ∃ b : Bool, v = .bl b ∧ (b = true ↔ ∀ x ∈ l.places, x.2 ∈ own p.po p.inn)) ys (p.ls.take i)) nD23 (fun H' s => .of (s _ _ (t22 _ _ hz))) (small' (by have := hL.len; omega)) .nil (fun i x G2 Hx ys hi sm2 hD hR y Qt Qf qt qf => ?_) (fun G23 ys23 s23 hD23 hR => ?_)
    · obtain ⟨rfl, hx⟩ := y
      obtain ⟨l, hl, rl⟩ := hL.get hx
      have bl := bp.ls.2 l (mem_at hl)
      have pl9 := places_len bl
      have smG := t22.trans sm2
      refine ⟨rfl, x, rfl, x, l, rfl, rl.same smG, by have := bl.many; omega, fun G5 q5 s5 n5 ⟨xs5, hp5, hA5⟩ => ⟨q5, rfl, ⟨_, .of hp5⟩, fun D6 nD6 => ?_⟩⟩
      have k5 := s5 _ _ (sm2 _ _ k22)
      refine lc_inv (walk_list (K := K) (a := q5) (xs := xs5)) (fun i _ ys => A2 (fun v (x : Int × Str) => ∃ b : Bool, v = .bl b ∧ (b = true ↔ x.2 ∈ own p.po p.inn)) ys (l.places.take i)) nD6 (fun H' s => .of (s _ _ hp5)) (small' (by have := hA5.len; omega)) .nil (fun i x G7 Hx ys hi sm3 hD hR2 y Qt2 Qf qt2 qf => ?_) (fun G7 ys7 s7 hD7 hR2 => ?_)
      · obtain ⟨rfl, hx⟩ := y
        obtain ⟨r, hr3, b, rfl, hb⟩ := hA5.get hx
        refine ⟨b, _, rfl, .of (sm3 _ _ hb), rfl, _, _, rfl, _, _, rfl, rfl, rfl, _, rfl, _, rfl, q20, _, rfl, .inl (.of (sm3 _ _ k5)), rfl, K07.flat_strs _, ?_⟩
        rw [K07.in_strs]
        refine qt2 _ _ (.refl _) ?_
        rw [take_snoc hr3]
        exact A2.snoc ⟨_, rfl, decide_eq_true_iff⟩ hR2
      · rw [hA5.len, List.take_length] at hR2
        obtain ⟨bs, rfl, hb⟩ := bools hR2
        refine ⟨D6, bs, rfl, .of hD7, qt _ _ (s5.trans s7) ?_⟩
        rw [take_snoc hl]
        exact A2.snoc ⟨_, rfl, all_iff hb⟩ hR
    rw [hL.len, List.take_length] at hR
    obtain ⟨bs4, rfl, hb23⟩ := bools hR
    have i23 := all_iff hb23
    clear hR hb23
    refine ⟨D23, bs4, rfl, .of hD23, ⟨_, rfl, ?_⟩⟩
    have t23 := t22.trans s23
    cases hbs4 : bs4.all id with
    | false =>
      refine iteT ?_
      have := q G23 (sm.trans t23)
      rw [fault4 f0 f1 f2 f3 (fun z => by rw [hbs4] at i23; cases i23.mpr z.1)] at this
      exact this
    | true =>
    have f4a : LawsKnown p := i23.mp hbs4
    refine iteF ?_
    have tx23 := s23 _ _ htx
    clear htx k22 t22 s22 hbs4 i23 hD23
    refine ⟨_, rfl, a, _, _, _, rfl, rfl, Same.seqT t23 h0, rfl, jo, rfl, ⟨us, .of (t23 _ _ hu)⟩, fun D24 nD24 => ?_⟩
    have bj := bp.jo.1
    refine lc_inv (walk_list (K := K) (a := jo) (xs := us)) (fun i _ ys => A2 (fun v (j : List Str) => ∃ b : Bool, v = .bl b ∧ (b = true ↔ ∀ x ∈ j, x ∈ txt bef p)) ys (p.jo.take i)) nD24 (fun H' s => .of (s _ _ (t23 _ _ hu))) (small' (by have := hJ.len; omega)) .nil (fun i x G2 Hx ys hi sm2 hD hR y Qt Qf qt qf => ?_) (fun G24 ys24 s24 hD24 hR => ?_)
    · obtain ⟨rfl, hx⟩ := y
      obtain ⟨j0, hj0, ja, rfl, hja⟩ := hJ.get hx
      have hja := SL.same (t23.trans sm2) hja
      have bj0 := (bp.jo.2 j0 (mem_at hj0)).1
      refine ⟨rfl, _, rfl, ja, rfl, ⟨_, .of hja⟩, fun D6 nD6 => ?_⟩
      refine lc_inv (walk_list (K := K) (a := ja) (xs := j0.map V.str)) (fun i _ ys => A2 (fun v (x : Str) => ∃ b : Bool, v = .bl b ∧ (b = true ↔ x ∈ txt bef p)) ys (j0.take i)) nD6 (fun H' s => .of (s _ _ hja)) (small' (by rw [List.length_map]; omega)) .nil (fun i x G7 Hx ys hi sm3 hD hR2 y Qt2 Qf qt2 qf => ?_) (fun G7 ys7 s7 hD7 hR2 => ?_)
      · obtain ⟨rfl, hx⟩ := y
        rw [List.getElem?_map] at hx
        obtain ⟨s, hs, rfl⟩ := Option.map_eq_some_iff.mp hx
        refine ⟨rfl, _, rfl, _, rfl, tx, _, rfl, .inl (.of (sm3 _ _ (sm2 _ _ tx23))), rfl, K07.flat_strs _, ?_⟩
        rw [K07.in_strs]
        refine qt2 _ _ (.refl _) ?_
        rw [take_snoc hs]
        exact A2.snoc ⟨_, rfl, decide_eq_true_iff⟩ hR2
      · rw [List.length_map, List.take_length] at hR2
        obtain ⟨bs, rfl, hb⟩ := bools hR2
        refine ⟨D6, bs, rfl, .of hD7, qt _ _ s7 ?_⟩
        rw [take_snoc hj0]
        exact A2.snoc ⟨_, rfl, all_iff hb⟩ hR
    rw [hJ.len, List.take_length] at hR
    obtain ⟨bs5, rfl, hb24⟩ := bools hR
    have i24 := all_iff hb24
    clear hR hb24
    refine ⟨D24, bs5, rfl, .of hD24, ⟨_, rfl, ?_⟩⟩
    have t24 := t23.trans s24
    cases hbs5 : bs5.all id with
    | false =>
      refine iteT ?_
      have := q G24 (sm.trans t24)
      rw [fault4 f0 f1 f2 f3 (fun z => by rw [hbs5] at i24; cases i24.mpr z.2)] at this
      exact this
    | true =>
    have f4 : ¬ Unk bef p := fun z => z ⟨f4a, i24.mp hbs5⟩
    refine iteF ⟨_, rfl, .ref a, p, rfl, hPG.same t24, bp, fun b25 G25 hb25 s25 => ⟨_, rfl, ?_⟩⟩
    have t25 := t24.trans s25
    cases b25 with
    | false =>
      refine iteT ?_
      have := q G25 (sm.trans t25)
      rw [fault5 f0 f1 f2 f3 f4 (fun z => by cases hb25.mpr z)] at this
      exact this
    | true =>
    have f5 : RangeOk p := hb25.mp rfl
    refine iteF ?_
    refine ⟨_, rfl, a, _, _, _, rfl, rfl, Same.seqT t25 h0, rfl, la, rfl, ⟨zs, .of (t25 _ _ hz)⟩, fun D26 nD26 => ?_⟩
    refine lc_inv (walk_list (K := K) (a := la) (xs := zs)) (fun i _ ys => A2 (fun v (l : Lw) => ∃ b : Bool, v = .bl b ∧ (b = true ↔ ¬ l.places.Nodup)) ys (p.ls.take i)) nD26 (fun H' s => .of (s _ _ (t25 _ _ hz))) (small' (by have := hL.len; omega)) .nil (fun i x G2 Hx ys hi sm2 hD hR y Qt Qf qt qf => ?_) (fun G26 ys26 s26 hD26 hR => ?_)
    · obtain ⟨rfl, hx⟩ := y
      obtain ⟨l, hl, rl⟩ := hL.get hx
      have bl := bp.ls.2 l (mem_at hl)
      have pl9 := places_len bl
      have smG := t25.trans sm2
      refine ⟨rfl, x, rfl, x, l, rfl, rl.same smG, by have := bl.many; omega, fun G5 q5 s5 n5 hq5 => ⟨q5, l.places, rfl, hq5, by omega, places_gs bl, fun b6 G6 hb6 s6 => qt _ _ (s5.trans s6) ?_⟩⟩
      rw [take_snoc hl]
      exact A2.snoc ⟨_, rfl, hb6⟩ hR
    rw [hL.len, List.take_length] at hR
    obtain ⟨bs6, rfl, hb26⟩ := bools hR
    have i26 := any_iff hb26
    clear hR hb26
    refine ⟨D26, bs6, rfl, .of hD26, ⟨_, rfl, ?_⟩⟩
    have t26 := t25.trans s26
    cases hbs6 : bs6.any id with
    | true =>
      refine iteT (iteT ?_)
      have := q G26 (sm.trans t26)
      rw [fault6 f0 f1 f2 f3 f4 f5 (.inl (i26.mp hbs6))] at this
      exact this
    | false =>
    refine iteF ?_
    refine ⟨_, rfl, a, _, _, _, rfl, rfl, Same.seqT t26 h0, rfl, jo, rfl, ⟨us, .of (t26 _ _ hu)⟩, fun D27 nD27 => ?_⟩
    refine lc_inv (walk_list (K := K) (a := jo) (xs := us)) (fun i _ ys => A2 (fun v (j : List Str) => ∃ b : Bool, v = .bl b ∧ (b = true ↔ ¬ j.Nodup)) ys (p.jo.take i)) nD27 (fun H' s => .of (s _ _ (t26 _ _ hu))) (small' (by have := hJ.len; omega)) .nil (fun i x G2 Hx ys hi sm2 hD hR y Qt Qf qt qf => ?_) (fun G27 ys27 s27 hD27 hR => ?_)
    · obtain ⟨rfl, hx⟩ := y
      obtain ⟨j0, hj0, ja, rfl, hja⟩ := hJ.get hx
      have hja := SL.same (t26.trans sm2) hja
      have bj0 := (bp.jo.2 j0 (mem_at hj0)).1
      refine ⟨rfl, _, rfl, ja, j0, rfl, hja, by omega, fun b6 G6 hb6 s6 => qt _ _ s6 ?_⟩
      rw [take_snoc hj0]
      exact A2.snoc ⟨_, rfl, hb6⟩ hR
    rw [hJ.len, List.take_length] at hR
    obtain ⟨bs7, rfl, hb27⟩ := bools hR
    have i27 := any_iff hb27
    clear hR hb27
    refine ⟨D27, bs7, rfl, .of hD27, ⟨_, rfl, ?_⟩⟩
    have t27 := t26.trans s27
    cases hbs7 : bs7.any id with
    | true =>
      refine iteT ?_
      have := q G27 (sm.trans t27)
      rw [fault6 f0 f1 f2 f3 f4 f5 (.inr (i27.mp hbs7))] at this
      exact this
    | false =>
      refine iteF ?_
      have := q G27 (sm.trans t27)
      rw [fault7 f0 f1 f2 f3 f4 f5 (fun z => z.elim (fun z => by rw [hbs6] at i26; cases i26.mpr z) fun z => by rw [hbs7] at i27; cases i27.mpr z)] at this
      exact this
end
end K07Z
-- X07
namespace K07Z
open PySem PySem.Spec PyProof.Rows L2 K07 TL
open K05 (wd)
/-! ### what is due, what is told -/
theorem word_len : ∀ f : Nat, (wordOf f).length ≤ 10
  | 0 => by decide +kernel
  | 1 => by decide +kernel
  | 2 => by decide +kernel
  | 3 => by decide +kernel
  | 4 => by decide +kernel
  | 5 => by decide +kernel
  | n + 6 => by
    show ("same" : Str).length ≤ 10
    decide +kernel
theorem words_of : ∀ f : Nat, f < 7 → ([("name", decide (f = 0)), ("many", decide (f = 1)), ("taken", decide (f = 2)), ("part", decide (f = 3)), ("text", decide (f = 4)), ("range", decide (f = 5)), ("same", decide (f = 6))] : List (Str × Bool)).filterMap (fun x => if x.2 = true then some x.1 else none) = [wordOf f]
  | 0, _ => rfl
  | 1, _ => rfl
  | 2, _ => rfl
  | 3, _ => rfl
  | 4, _ => rfl
  | 5, _ => rfl
  | 6, _ => rfl
  | n + 7, h => absurd h (by omega)
def rJoin (K : PySem.W.Frag) : V → List V → Hp → VK → Prop := fun x xs H Q => ∃ a p, ∃ ys : List Str, x = .str a ∧ xs = [.ref p] ∧ (SqL K H p (ys.map V.str) ∨ SqT K H p (ys.map V.str)) ∧ (ys.map (·.length)).sum + ys.length * a.length ≤ 16777216 ∧ Q (.str (Txt.join a ys)) H
theorem pe_joinK {X : Cx} {K : PySem.W.Frag} {o e : Expr} {to te : TE} {apos pos : Pos} (hK : X.K = K) (ho : PE X o to) (he : PE X e te) (hs : starEach [e] X.env = [(false, eval e X.env)] := by rfl) (hbase : attributeBase o "join" X.env (eval o X.env) = eval o X.env := by rfl) (hline : (apos.endLine == pos.line) = true := by rfl) :
    PE X (.Call (.Attribute o "join" apos) [e] [] pos) (tM1 (rJoin K) to te) := by
  subst hK
  exact pe_join ho he hs hbase hline
theorem fault_lt {bef : List Prt} {n : Nat} {p : Prt} {f : Nat} (h : fault bef n p = some f) : f < 7 := by
  unfold fault at h
  repeat' split at h
  all_goals first | cases h | (cases h; decide)
  all_goals decide
theorem kit_fc {K : PySem.W.Frag} {mg : Str → Option Value} (X : Errs K mg) : ∀ f g : Nat, f < 7 → g < 7 → PySem.W.kitOne K (.ref (Fc X f)) (.ref (Fc X g)) = some (decide (f = g))
  | 0, 0, _, _ => X.BadName.kit
  | 0, 1, _, _ => X.n_BadName_TooMany
  | 0, 2, _, _ => X.n_BadName_TakenName
  | 0, 3, _, _ => X.n_BadName_NoPart
  | 0, 4, _, _ => X.n_BadName_NoName
  | 0, 5, _, _ => X.n_BadName_OutOfRange
  | 0, 6, _, _ => X.n_BadName_SamePlace
  | 1, 0, _, _ => X.n_TooMany_BadName
  | 1, 1, _, _ => X.TooMany.kit
  | 1, 2, _, _ => X.n_TooMany_TakenName
  | 1, 3, _, _ => X.n_TooMany_NoPart
  | 1, 4, _, _ => X.n_TooMany_NoName
  | 1, 5, _, _ => X.n_TooMany_OutOfRange
  | 1, 6, _, _ => X.n_TooMany_SamePlace
  | 2, 0, _, _ => X.n_TakenName_BadName
  | 2, 1, _, _ => X.n_TakenName_TooMany
  | 2, 2, _, _ => X.TakenName.kit
  | 2, 3, _, _ => X.n_TakenName_NoPart
  | 2, 4, _, _ => X.n_TakenName_NoName
  | 2, 5, _, _ => X.n_TakenName_OutOfRange
  | 2, 6, _, _ => X.n_TakenName_SamePlace
  | 3, 0, _, _ => X.n_NoPart_BadName
  | 3, 1, _, _ => X.n_NoPart_TooMany
  | 3, 2, _, _ => X.n_NoPart_TakenName
  | 3, 3, _, _ => X.NoPart.kit
  | 3, 4, _, _ => X.n_NoPart_NoName
  | 3, 5, _, _ => X.n_NoPart_OutOfRange
  | 3, 6, _, _ => X.n_NoPart_SamePlace
  | 4, 0, _, _ => X.n_NoName_BadName
  | 4, 1, _, _ => X.n_NoName_TooMany
  | 4, 2, _, _ => X.n_NoName_TakenName
  | 4, 3, _, _ => X.n_NoName_NoPart
  | 4, 4, _, _ => X.NoName.kit
  | 4, 5, _, _ => X.n_NoName_OutOfRange
  | 4, 6, _, _ => X.n_NoName_SamePlace
  | 5, 0, _, _ => X.n_OutOfRange_BadName
  | 5, 1, _, _ => X.n_OutOfRange_TooMany
  | 5, 2, _, _ => X.n_OutOfRange_TakenName
  | 5, 3, _, _ => X.n_OutOfRange_NoPart
  | 5, 4, _, _ => X.n_OutOfRange_NoName
  | 5, 5, _, _ => X.OutOfRange.kit
  | 5, 6, _, _ => X.n_OutOfRange_SamePlace
  | 6, 0, _, _ => X.n_SamePlace_BadName
  | 6, 1, _, _ => X.n_SamePlace_TooMany
  | 6, 2, _, _ => X.n_SamePlace_TakenName
  | 6, 3, _, _ => X.n_SamePlace_NoPart
  | 6, 4, _, _ => X.n_SamePlace_NoName
  | 6, 5, _, _ => X.n_SamePlace_OutOfRange
  | 6, 6, _, _ => X.SamePlace.kit
  | n + 7, _, h, _ => absurd h (by omega)
  | _, n + 7, _, h => absurd h (by omega)
theorem fc_err {K : PySem.W.Frag} {mg : Str → Option Value} (X : Errs K mg) : ∀ f : Nat, f < 7 → ∃ (x : Str) (E : LX.ErrC K mg x X.e0.CM X.e0.f), E.C = Fc X f
  | 0, _ => ⟨_, X.BadName, rfl⟩
  | 1, _ => ⟨_, X.TooMany, rfl⟩
  | 2, _ => ⟨_, X.TakenName, rfl⟩
  | 3, _ => ⟨_, X.NoPart, rfl⟩
  | 4, _ => ⟨_, X.NoName, rfl⟩
  | 5, _ => ⟨_, X.OutOfRange, rfl⟩
  | 6, _ => ⟨_, X.SamePlace, rfl⟩
  | n + 7, h => absurd h (by omega)
section
variable {P : Program} {w : World} {K : PySem.W.Frag} {mg : Str → Option Value} {base : Heap} {Ps : List Addr}
def sp_law_due (K : PySem.W.Frag) : Sp := fun vs H Q _ => ∃ (b : Addr) (bk : List Prt), vs = [.ref b] ∧ BK K H b bk ∧ BB bk ∧
  (∀ f n, FirstF bk f n → ∀ H' t, Same H H' → H' t = some (.tup [.str (wordOf f), .int (n : Nat)]) → Q (.ref t) H') ∧ (NoFault bk bk.length → ∀ H', Same H H' → Q .non H')
theorem ok_law_due (T : Txt K mg) : FnOk P w K mg base CX0 4 T.law_due.a T.law_due.fd ["book"] (sp_law_due K) := by
  refine T.law_due.F.ok sc_law_due (fun vs H Q E h => ?_) (fun cdv A outer s H vs Q E hr h => ?_)
  · obtain ⟨b, bk, rfl, _⟩ := h
    rfl
  · obtain ⟨b, bk, rfl, ⟨xs, hb, hA⟩, bb, qE, q⟩ := h
    refine ⟨_, (pss_cons (ps_for PassesOwn.never rfl (pi_range1 (by rfl) T.m_range (pa_cons (pe_callB call_len_seq (by rfl) T.m_len (by decide +kernel) (pa_cons (pv 0) pa_nil)) pa_nil)) (pg_name (i := 1) sc_law_due.nd rfl (.inl rfl))
        (pss_cons (ps_set (i := 2) sc_law_due.nd rfl (.inl rfl) (pe_call (ok_law_part_fault T) (hr.mono (by decide)) (by rfl) T.law_part_fault.g T.law_part_fault.F.kp T.law_part_fault.b .nil pass0 (pa_cons (pv 0) (pa_cons (pv 1) pa_nil))))
        (pss_one (ps_if (pt_cmpR op_notN (pv 2) pe_non (nomark _))
          (pss_one (ps_ret (pe_tup (pa_cons (pv 2) (pa_cons (pv 1) pa_nil)))))
          pss_nil))))
      (pss_one (ps_ret pe_non))), ?_⟩
    have el := hA.len
    have b16 := bb.1
    refine ⟨.ref b, rfl, b, _, rfl, .inl (.of hb), (xs.length : Nat), rfl, by omega, by omega, ?_⟩
    rw [Int.toNat_natCast]
    refine for_it (walk_range (lo := 0) (n := xs.length)) (fun i σ G => Same H G ∧ NoFault bk i ∧ ∃ v1 v2 : Option V, σ = [some (.ref b), v1, v2]) ⟨.refl _, fun j p hj => absurd hj (Nat.not_lt_zero _), none, none, rfl⟩ (fun _ _ _ _ _ => trivial) (fun i x σ G G' hi pv y => ?_) (fun σ G pv => ?_)
    · obtain ⟨sm, nf, v1, v2, rfl⟩ := pv
      obtain ⟨rfl, rfl⟩ := y
      have hi' : i < bk.length := by omega
      have hp : bk[i]? = some bk[i] := by simp [hi']
      refine ⟨_, rfl, _, rfl, b, bk, i, bk[i], by rw [show (fun i : Nat => V.int (0 + (i : Int))) i = V.int (i : Nat) from congrArg V.int (Int.zero_add _)]; rfl, ⟨xs, sm _ _ hb, hA.mono fun _ _ z => z.same sm⟩, bb, hp, nf.nodup (by omega), fun H1 s1 => ?_⟩
      cases hf : fault (bk.take i) i bk[i] with
      | none =>
        refine ⟨_, rfl, rfl, _, rfl, ?_⟩
        refine iteF ⟨sm.trans s1, fun j p hj hq => ?_, _, _, rfl⟩
        rcases Nat.lt_or_eq_of_le (Nat.le_of_lt_succ hj) with z | rfl
        · exact nf j p z hq
        · cases hp.symm.trans hq
          exact hf
      | some f =>
        refine ⟨_, rfl, rfl, _, rfl, ?_⟩
        refine iteT ⟨_, rfl, _, rfl, by show 2 ≤ sizeLine; decide, fun t nt => ?_⟩
        refine qE f i ⟨_, hp, hf, nf⟩ _ t (sm.trans (s1.trans (same_upd nt))) ?_
        rw [upd_same]
        show some (HO.tup [V.str (wordOf f), V.int (0 + (i : Int))]) = _
        rw [Int.zero_add]
    · obtain ⟨sm, nf, v1, v2, rfl⟩ := pv
      rw [el] at nf
      exact q nf G sm
def sp_law_told (K : PySem.W.Frag) (Ps : List Addr) : Sp := fun vs H Q _ => ∃ (b : Addr) (bk : List Prt), vs = [.ref b] ∧ BK K H b bk ∧ BB bk ∧ TGs Ps H ∧
  (∀ f n, FirstF bk f n → ∀ H' t, Lk H H' → TGs Ps H' → H' t = some (.tup [.str (wordOf f), .int (n : Nat)]) → Q (.ref t) H') ∧ (NoFault bk bk.length → ∀ H', Lk H H' → TGs Ps H' → Q .non H')
theorem ok_law_told (T : Txt K mg) (X : Errs K mg) (TB : Tbs base T Ps) : FnOk P w K mg base CX0 9 T.law_told.a T.law_told.fd ["book"] (sp_law_told K Ps) := by
  refine T.law_told.F.ok sc_law_told (fun vs H Q E h => ?_) (fun cdv A outer s H vs Q E hr h => ?_)
  · obtain ⟨b, bk, rfl, _⟩ := h
    rfl
  · obtain ⟨b, bk, rfl, hBK, bb, tg, qE, q⟩ := h
    refine ⟨_, (pss_one (L2N.ps_try_as (i := 1) rfl rfl sc_law_told.nd rfl rfl ⟨rfl, by decide, .inl X.e0.gM⟩ HX.takes0N
        (fun W pn xe tk _ => (pss_one (ps_ret (pe_callS (ok_check_book T X TB) (hr.mono (by decide)) (by rfl) T.check_book.g T.check_book.F.kp T.check_book.b (fun σ => L2N.passAt tk σ) (pa_cons (pv 0) pa_nil)))))
        (fun a oe cls d pn hz hf => (pss_cons (ps_set (i := 2) sc_law_told.nd rfl (.inl rfl) (pe_lst (pa_cons (pe_tup (pa_cons pe_str (pa_cons (pe_callB (LX.call_isX hz.zc hf) (by rfl) T.m_isinstance (by decide +kernel) (pa_cons (pv 1) (pa_cons (pe_glob (v := .ref X.BadName.C) rfl X.BadName.g rfl) pa_nil))) pa_nil))) (pa_cons (pe_tup (pa_cons pe_str (pa_cons (pe_callB (LX.call_isX hz.zc hf) (by rfl) T.m_isinstance (by decide +kernel) (pa_cons (pv 1) (pa_cons (pe_glob (v := .ref X.TooMany.C) rfl X.TooMany.g rfl) pa_nil))) pa_nil))) (pa_cons (pe_tup (pa_cons pe_str (pa_cons (pe_callB (LX.call_isX hz.zc hf) (by rfl) T.m_isinstance (by decide +kernel) (pa_cons (pv 1) (pa_cons (pe_glob (v := .ref X.TakenName.C) rfl X.TakenName.g rfl) pa_nil))) pa_nil))) pa_nil)))))
        (pss_cons (ps_set (i := 2) sc_law_told.nd rfl (.inl rfl) (pe_op op_cat (pv 2) (pe_lst (pa_cons (pe_tup (pa_cons pe_str (pa_cons (pe_callB (LX.call_isX hz.zc hf) (by rfl) T.m_isinstance (by decide +kernel) (pa_cons (pv 1) (pa_cons (pe_glob (v := .ref X.NoPart.C) rfl X.NoPart.g rfl) pa_nil))) pa_nil))) (pa_cons (pe_tup (pa_cons pe_str (pa_cons (pe_callB (LX.call_isX hz.zc hf) (by rfl) T.m_isinstance (by decide +kernel) (pa_cons (pv 1) (pa_cons (pe_glob (v := .ref X.NoName.C) rfl X.NoName.g rfl) pa_nil))) pa_nil))) pa_nil)))))
        (pss_cons (ps_set (i := 2) sc_law_told.nd rfl (.inl rfl) (pe_op op_cat (pv 2) (pe_lst (pa_cons (pe_tup (pa_cons pe_str (pa_cons (pe_callB (LX.call_isX hz.zc hf) (by rfl) T.m_isinstance (by decide +kernel) (pa_cons (pv 1) (pa_cons (pe_glob (v := .ref X.OutOfRange.C) rfl X.OutOfRange.g rfl) pa_nil))) pa_nil))) (pa_cons (pe_tup (pa_cons pe_str (pa_cons (pe_callB (LX.call_isX hz.zc hf) (by rfl) T.m_isinstance (by decide +kernel) (pa_cons (pv 1) (pa_cons (pe_glob (v := .ref X.SamePlace.C) rfl X.SamePlace.g rfl) pa_nil))) pa_nil))) pa_nil)))))
        (pss_one (ps_ret (pe_tup (pa_cons (pe_joinK (K := K) rfl pe_str (HX.pe_lcI (wi := iList K _) (own := [("word", 3), ("is_it", 4)]) (g := gTup K 2 (gCons (gName 3) (gCons (gName 4) gNil))) (HX.hot_suite hz hf) (HX.hotB hz hf) sc_law_told.nd (HX.pi_listI (pv 2)) (blkOk_by (N := ["book", "e", "words", "word", "is_it"]) (sc := defScope s_law_told) (by decide +kernel)) (fun _ _ _ _ _ hot => (HX.pg_tupI hot (pgs_cons (pg_name (i := 3) sc_law_told.nd rfl (.inl rfl)) (pgs_cons (pg_name (i := 4) sc_law_told.nd rfl (.inl rfl)) pgs_nil)))) (fun _ _ _ _ _ => (pts_one (pt_val (pv 4)))) (fun _ _ _ _ _ => (pv 3)))) (pa_cons (LX.pe_xfA hz.zc hf (pv 1)) pa_nil))))))))))), ?_⟩
    refine ⟨_, rfl, b, bk, rfl, hBK, bb, tg, fun f n hf H1 lk t dd hdd => ?_, fun nf H1 lk t => ?_⟩
    · have f7 : f < 7 := by
        obtain ⟨p, _, h, _⟩ := hf
        exact fault_lt h
      obtain ⟨x, Ec, ec⟩ := fc_err X f f7
      rw [← ec]
      refine ⟨true, Ec.exm, fun _ a0 ha0 => ?_, fun q => nomatch q⟩
      have s0 := same_upd hdd (o := .xd [("at", .int ((n : Nat) : Int))])
      have gd : upd H1 dd (.xd [("at", .int ((n : Nat) : Int))]) dd = some (.xd [("at", .int ((n : Nat) : Int))]) := upd_same
      have kit : ∀ g : Nat, g < 7 → PySem.W.kitOne K (.ref Ec.C) (.ref (Fc X g)) = some (decide (f = g)) := fun g hg => by rw [ec]; exact kit_fc X f g f7 hg
      generalize upd H1 dd (.xd [("at", .int ((n : Nat) : Int))]) = G at s0 gd ha0
      have st : ∀ {A B : Hp} {a : Addr} {o : HO}, Same G A → A a = none → Same G (upd A a o) := fun s n => s.trans (same_upd n)
      have s_0 : Same G G := .refl _
      refine ⟨_, rfl, Ec.C, dd, _, _, decide (f = 0), _, rfl, rfl, Ec.named.own, rfl, .own _, (s_0 _ _ gd), kit 0 (by decide), by show 2 ≤ sizeLine; decide, fun t0 n0 => ?_⟩
      have s_1 := s_0.trans (same_upd n0 (o := .tup [.str ("name" : Str), .bl (decide (f = 0))]))
      have h0 := upd_same (H := G) (a := t0) (o := HO.tup [.str ("name" : Str), .bl (decide (f = 0))])
      generalize upd G t0 _ = G1 at s_1 h0 
      refine ⟨_, rfl, Ec.C, dd, _, _, decide (f = 1), _, rfl, rfl, Ec.named.own, rfl, .own _, (s_1 _ _ gd), kit 1 (by decide), by show 2 ≤ sizeLine; decide, fun t1 n1 => ?_⟩
      have s_2 := s_1.trans (same_upd n1 (o := .tup [.str ("many" : Str), .bl (decide (f = 1))]))
      have h1 := upd_same (H := G1) (a := t1) (o := HO.tup [.str ("many" : Str), .bl (decide (f = 1))])
      have h0 := (same_upd n1 (o := .tup [.str ("many" : Str), .bl (decide (f = 1))])) _ _ h0
      generalize upd G1 t1 _ = G2 at s_2 h1 h0
      refine ⟨_, rfl, Ec.C, dd, _, _, decide (f = 2), _, rfl, rfl, Ec.named.own, rfl, .own _, (s_2 _ _ gd), kit 2 (by decide), by show 2 ≤ sizeLine; decide, fun t2 n2 => ?_⟩
      have s_3 := s_2.trans (same_upd n2 (o := .tup [.str ("taken" : Str), .bl (decide (f = 2))]))
      have h2 := upd_same (H := G2) (a := t2) (o := HO.tup [.str ("taken" : Str), .bl (decide (f = 2))])
      have h0 := (same_upd n2 (o := .tup [.str ("taken" : Str), .bl (decide (f = 2))])) _ _ h0
      have h1 := (same_upd n2 (o := .tup [.str ("taken" : Str), .bl (decide (f = 2))])) _ _ h1
      generalize upd G2 t2 _ = G3 at s_3 h2 h0 h1
      refine ⟨by show 3 ≤ sizeLine; decide, fun la mla => ?_⟩
      have s_4 := s_3.trans (same_upd mla (o := .lst [.ref t0, .ref t1, .ref t2]))
      have hla := upd_same (H := G3) (a := la) (o := HO.lst [.ref t0, .ref t1, .ref t2])
      have h0 := (same_upd mla (o := .lst [.ref t0, .ref t1, .ref t2])) _ _ h0
      have h1 := (same_upd mla (o := .lst [.ref t0, .ref t1, .ref t2])) _ _ h1
      have h2 := (same_upd mla (o := .lst [.ref t0, .ref t1, .ref t2])) _ _ h2
      generalize upd G3 la _ = G4 at s_4 hla h0 h1 h2
      refine ⟨_, rfl, ?_⟩
      refine ⟨_, rfl, Ec.C, dd, _, _, decide (f = 3), _, rfl, rfl, Ec.named.own, rfl, .own _, (s_4 _ _ gd), kit 3 (by decide), by show 2 ≤ sizeLine; decide, fun t3 n3 => ?_⟩
      have s_5 := s_4.trans (same_upd n3 (o := .tup [.str ("part" : Str), .bl (decide (f = 3))]))
      have h3 := upd_same (H := G4) (a := t3) (o := HO.tup [.str ("part" : Str), .bl (decide (f = 3))])
      have h0 := (same_upd n3 (o := .tup [.str ("part" : Str), .bl (decide (f = 3))])) _ _ h0
      have h1 := (same_upd n3 (o := .tup [.str ("part" : Str), .bl (decide (f = 3))])) _ _ h1
      have h2 := (same_upd n3 (o := .tup [.str ("part" : Str), .bl (decide (f = 3))])) _ _ h2
      have hla := (same_upd n3 (o := .tup [.str ("part" : Str), .bl (decide (f = 3))])) _ _ hla
      generalize upd G4 t3 _ = G5 at s_5 h3 h0 h1 h2 hla
      refine ⟨_, rfl, Ec.C, dd, _, _, decide (f = 4), _, rfl, rfl, Ec.named.own, rfl, .own _, (s_5 _ _ gd), kit 4 (by decide), by show 2 ≤ sizeLine; decide, fun t4 n4 => ?_⟩
      have s_6 := s_5.trans (same_upd n4 (o := .tup [.str ("text" : Str), .bl (decide (f = 4))]))
      have h4 := upd_same (H := G5) (a := t4) (o := HO.tup [.str ("text" : Str), .bl (decide (f = 4))])
      have h0 := (same_upd n4 (o := .tup [.str ("text" : Str), .bl (decide (f = 4))])) _ _ h0
      have h1 := (same_upd n4 (o := .tup [.str ("text" : Str), .bl (decide (f = 4))])) _ _ h1
      have h2 := (same_upd n4 (o := .tup [.str ("text" : Str), .bl (decide (f = 4))])) _ _ h2
      have hla := (same_upd n4 (o := .tup [.str ("text" : Str), .bl (decide (f = 4))])) _ _ hla
      have h3 := (same_upd n4 (o := .tup [.str ("text" : Str), .bl (decide (f = 4))])) _ _ h3
      generalize upd G5 t4 _ = G6 at s_6 h4 h0 h1 h2 hla h3
      refine ⟨by show 2 ≤ sizeLine; decide, fun lb mlb => ?_⟩
      have s_7 := s_6.trans (same_upd mlb (o := .lst [.ref t3, .ref t4]))
      have hlb := upd_same (H := G6) (a := lb) (o := HO.lst [.ref t3, .ref t4])
      have h0 := (same_upd mlb (o := .lst [.ref t3, .ref t4])) _ _ h0
      have h1 := (same_upd mlb (o := .lst [.ref t3, .ref t4])) _ _ h1
      have h2 := (same_upd mlb (o := .lst [.ref t3, .ref t4])) _ _ h2
      have hla := (same_upd mlb (o := .lst [.ref t3, .ref t4])) _ _ hla
      have h3 := (same_upd mlb (o := .lst [.ref t3, .ref t4])) _ _ h3
      have h4 := (same_upd mlb (o := .lst [.ref t3, .ref t4])) _ _ h4
      generalize upd G6 lb _ = G7 at s_7 hlb h0 h1 h2 hla h3 h4
      refine ⟨la, lb, _, _, rfl, rfl, hla, hlb, by show 3 + 2 ≤ sizeLine; decide, fun lc mlc => ?_⟩
      have s_8 := s_7.trans (same_upd mlc (o := .lst ([.ref t0, .ref t1, .ref t2] ++ [.ref t3, .ref t4])))
      have hlc := upd_same (H := G7) (a := lc) (o := HO.lst ([.ref t0, .ref t1, .ref t2] ++ [.ref t3, .ref t4]))
      have h0 := (same_upd mlc (o := .lst ([.ref t0, .ref t1, .ref t2] ++ [.ref t3, .ref t4]))) _ _ h0
      have h1 := (same_upd mlc (o := .lst ([.ref t0, .ref t1, .ref t2] ++ [.ref t3, .ref t4]))) _ _ h1
      have h2 := (same_upd mlc (o := .lst ([.ref t0, .ref t1, .ref t2] ++ [.ref t3, .ref t4]))) _ _ h2
      have hla := (same_upd mlc (o := .lst ([.ref t0, .ref t1, .ref t2] ++ [.ref t3, .ref t4]))) _ _ hla
      have h3 := (same_upd mlc (o := .lst ([.ref t0, .ref t1, .ref t2] ++ [.ref t3, .ref t4]))) _ _ h3
      have h4 := (same_upd mlc (o := .lst ([.ref t0, .ref t1, .ref t2] ++ [.ref t3, .ref t4]))) _ _ h4
      have hlb := (same_upd mlc (o := .lst ([.ref t0, .ref t1, .ref t2] ++ [.ref t3, .ref t4]))) _ _ hlb
      generalize upd G7 lc _ = G8 at s_8 hlc h0 h1 h2 hla h3 h4 hlb
      refine ⟨_, rfl, ?_⟩
      refine ⟨_, rfl, Ec.C, dd, _, _, decide (f = 5), _, rfl, rfl, Ec.named.own, rfl, .own _, (s_8 _ _ gd), kit 5 (by decide), by show 2 ≤ sizeLine; decide, fun t5 n5 => ?_⟩
      have s_9 := s_8.trans (same_upd n5 (o := .tup [.str ("range" : Str), .bl (decide (f = 5))]))
      have h5 := upd_same (H := G8) (a := t5) (o := HO.tup [.str ("range" : Str), .bl (decide (f = 5))])
      have h0 := (same_upd n5 (o := .tup [.str ("range" : Str), .bl (decide (f = 5))])) _ _ h0
      have h1 := (same_upd n5 (o := .tup [.str ("range" : Str), .bl (decide (f = 5))])) _ _ h1
      have h2 := (same_upd n5 (o := .tup [.str ("range" : Str), .bl (decide (f = 5))])) _ _ h2
      have hla := (same_upd n5 (o := .tup [.str ("range" : Str), .bl (decide (f = 5))])) _ _ hla
      have h3 := (same_upd n5 (o := .tup [.str ("range" : Str), .bl (decide (f = 5))])) _ _ h3
      have h4 := (same_upd n5 (o := .tup [.str ("range" : Str), .bl (decide (f = 5))])) _ _ h4
      have hlb := (same_upd n5 (o := .tup [.str ("range" : Str), .bl (decide (f = 5))])) _ _ hlb
      have hlc := (same_upd n5 (o := .tup [.str ("range" : Str), .bl (decide (f = 5))])) _ _ hlc
      generalize upd G8 t5 _ = G9 at s_9 h5 h0 h1 h2 hla h3 h4 hlb hlc
      refine ⟨_, rfl, Ec.C, dd, _, _, decide (f = 6), _, rfl, rfl, Ec.named.own, rfl, .own _, (s_9 _ _ gd), kit 6 (by decide), by show 2 ≤ sizeLine; decide, fun t6 n6 => ?_⟩
      have s_10 := s_9.trans (same_upd n6 (o := .tup [.str ("same" : Str), .bl (decide (f = 6))]))
      have h6 := upd_same (H := G9) (a := t6) (o := HO.tup [.str ("same" : Str), .bl (decide (f = 6))])
      have h0 := (same_upd n6 (o := .tup [.str ("same" : Str), .bl (decide (f = 6))])) _ _ h0
      have h1 := (same_upd n6 (o := .tup [.str ("same" : Str), .bl (decide (f = 6))])) _ _ h1
      have h2 := (same_upd n6 (o := .tup [.str ("same" : Str), .bl (decide (f = 6))])) _ _ h2
      have hla := (same_upd n6 (o := .tup [.str ("same" : Str), .bl (decide (f = 6))])) _ _ hla
      have h3 := (same_upd n6 (o := .tup [.str ("same" : Str), .bl (decide (f = 6))])) _ _ h3
      have h4 := (same_upd n6 (o := .tup [.str ("same" : Str), .bl (decide (f = 6))])) _ _ h4
      have hlb := (same_upd n6 (o := .tup [.str ("same" : Str), .bl (decide (f = 6))])) _ _ hlb
      have hlc := (same_upd n6 (o := .tup [.str ("same" : Str), .bl (decide (f = 6))])) _ _ hlc
      have h5 := (same_upd n6 (o := .tup [.str ("same" : Str), .bl (decide (f = 6))])) _ _ h5
      generalize upd G9 t6 _ = G10 at s_10 h6 h0 h1 h2 hla h3 h4 hlb hlc h5
      refine ⟨by show 2 ≤ sizeLine; decide, fun ld mld => ?_⟩
      have s_11 := s_10.trans (same_upd mld (o := .lst [.ref t5, .ref t6]))
      have hld := upd_same (H := G10) (a := ld) (o := HO.lst [.ref t5, .ref t6])
      have h0 := (same_upd mld (o := .lst [.ref t5, .ref t6])) _ _ h0
      have h1 := (same_upd mld (o := .lst [.ref t5, .ref t6])) _ _ h1
      have h2 := (same_upd mld (o := .lst [.ref t5, .ref t6])) _ _ h2
      have hla := (same_upd mld (o := .lst [.ref t5, .ref t6])) _ _ hla
      have h3 := (same_upd mld (o := .lst [.ref t5, .ref t6])) _ _ h3
      have h4 := (same_upd mld (o := .lst [.ref t5, .ref t6])) _ _ h4
      have hlb := (same_upd mld (o := .lst [.ref t5, .ref t6])) _ _ hlb
      have hlc := (same_upd mld (o := .lst [.ref t5, .ref t6])) _ _ hlc
      have h5 := (same_upd mld (o := .lst [.ref t5, .ref t6])) _ _ h5
      have h6 := (same_upd mld (o := .lst [.ref t5, .ref t6])) _ _ h6
      generalize upd G10 ld _ = G11 at s_11 hld h0 h1 h2 hla h3 h4 hlb hlc h5 h6
      refine ⟨lc, ld, _, _, rfl, rfl, hlc, hld, by show 3 + 2 + 2 ≤ sizeLine; decide, fun le mle => ?_⟩
      have s_12 := s_11.trans (same_upd mle (o := .lst ([.ref t0, .ref t1, .ref t2] ++ [.ref t3, .ref t4] ++ [.ref t5, .ref t6])))
      have hle := upd_same (H := G11) (a := le) (o := HO.lst ([.ref t0, .ref t1, .ref t2] ++ [.ref t3, .ref t4] ++ [.ref t5, .ref t6]))
      have h0 := (same_upd mle (o := .lst ([.ref t0, .ref t1, .ref t2] ++ [.ref t3, .ref t4] ++ [.ref t5, .ref t6]))) _ _ h0
      have h1 := (same_upd mle (o := .lst ([.ref t0, .ref t1, .ref t2] ++ [.ref t3, .ref t4] ++ [.ref t5, .ref t6]))) _ _ h1
      have h2 := (same_upd mle (o := .lst ([.ref t0, .ref t1, .ref t2] ++ [.ref t3, .ref t4] ++ [.ref t5, .ref t6]))) _ _ h2
      have hla := (same_upd mle (o := .lst ([.ref t0, .ref t1, .ref t2] ++ [.ref t3, .ref t4] ++ [.ref t5, .ref t6]))) _ _ hla
      have h3 := (same_upd mle (o := .lst ([.ref t0, .ref t1, .ref t2] ++ [.ref t3, .ref t4] ++ [.ref t5, .ref t6]))) _ _ h3
      have h4 := (same_upd mle (o := .lst ([.ref t0, .ref t1, .ref t2] ++ [.ref t3, .ref t4] ++ [.ref t5, .ref t6]))) _ _ h4
      have hlb := (same_upd mle (o := .lst ([.ref t0, .ref t1, .ref t2] ++ [.ref t3, .ref t4] ++ [.ref t5, .ref t6]))) _ _ hlb
      have hlc := (same_upd mle (o := .lst ([.ref t0, .ref t1, .ref t2] ++ [.ref t3, .ref t4] ++ [.ref t5, .ref t6]))) _ _ hlc
      have h5 := (same_upd mle (o := .lst ([.ref t0, .ref t1, .ref t2] ++ [.ref t3, .ref t4] ++ [.ref t5, .ref t6]))) _ _ h5
      have h6 := (same_upd mle (o := .lst ([.ref t0, .ref t1, .ref t2] ++ [.ref t3, .ref t4] ++ [.ref t5, .ref t6]))) _ _ h6
      have hld := (same_upd mle (o := .lst ([.ref t0, .ref t1, .ref t2] ++ [.ref t3, .ref t4] ++ [.ref t5, .ref t6]))) _ _ hld
      generalize upd G11 le _ = G12 at s_12 hle h0 h1 h2 hla h3 h4 hlb hlc h5 h6 hld
      clear hla hlb hlc hld
      have hA : A2 (fun (v : V) (x : Str × Bool) => ∃ a, v = V.ref a ∧ G12 a = some (.tup [.str x.1, .bl x.2])) [.ref t0, .ref t1, .ref t2, .ref t3, .ref t4, .ref t5, .ref t6] [("name", decide (f = 0)), ("many", decide (f = 1)), ("taken", decide (f = 2)), ("part", decide (f = 3)), ("text", decide (f = 4)), ("range", decide (f = 5)), ("same", decide (f = 6))] :=
        .cons ⟨_, rfl, h0⟩ (.cons ⟨_, rfl, h1⟩ (.cons ⟨_, rfl, h2⟩ (.cons ⟨_, rfl, h3⟩ (.cons ⟨_, rfl, h4⟩ (.cons ⟨_, rfl, h5⟩ (.cons ⟨_, rfl, h6⟩ .nil))))))
      have hle : G12 le = some (.lst [.ref t0, .ref t1, .ref t2, .ref t3, .ref t4, .ref t5, .ref t6]) := hle
      refine ⟨⟨_, rfl⟩, _, rfl, le, rfl, ⟨_, .of hle⟩, fun D nD => ?_⟩
      refine lc_fm (walk_list (K := K) (a := le) (xs := [.ref t0, .ref t1, .ref t2, .ref t3, .ref t4, .ref t5, .ref t6])) _ (fun x => if x.2 = true then some x.1 else none) (fun _ v b => v = .str b) (fun _ _ _ _ _ z => z) hA.len.symm nD (fun H' s => .of (s _ _ hle)) (by show 7 < sizeLine; decide) (fun i x G3 Gx ys2 l el sm3 hD y Qt Qf qt qf => ?_) (fun G3 zs3 sm3 hD hR => ?_)
      · obtain ⟨rfl, hx⟩ := y
        obtain ⟨pr, hpr, tt, rfl, hq⟩ := hA.get hx
        obtain rfl := Option.some.inj (el.symm.trans hpr)
        refine ⟨tt, _, rfl, .of (sm3 _ _ hq), rfl, _, _, rfl, _, _, rfl, rfl, rfl, _, rfl, _, rfl, ?_⟩
        cases e : l.2 with
        | true => exact ⟨_, rfl, qt _ _ l.1 (by rw [e]; rfl) (.refl _) rfl⟩
        | false => exact qf (by rw [e]; rfl) _ (.refl _)
      · rw [a2_eq (f := V.str) hR] at hD
        rw [words_of f f7] at hD
        refine ⟨(" " : Str), D, [wordOf f], rfl, rfl, .inl (.of hD), ?_, ?_⟩
        · have := word_len f
          show (wordOf f).length + 0 + 1 * 1 ≤ 16777216
          omega
        · have sF := s0.trans (s_12.trans sm3)
          refine ⟨Ec.C, Ec.xf, Ec.noAt, _, rfl, rfl, rfl, dd, _, _, rfl, sm3 _ _ (s_12 _ _ gd), rfl, by show 2 ≤ sizeLine; decide, fun p hp => ?_⟩
          exact qE f n hf _ p (lk.trans (lk_of (sF.trans (same_upd hp)))) (TGs.same (sF.trans (same_upd hp)) t) upd_same
    · exact q nf H1 lk t
end
end K07Z
-- E07
namespace K07Z
open PySem PySem.Spec PyProof.Rows L2 K07 TL
open K05 (wd)
/-! ### spoilt laws -/
def OkR (K : PySem.W.Frag) (G : Hp) (v : V) : Prop := ∃ l, LW K G v l ∧ BL l
def Rws (K : PySem.W.Frag) (G : Hp) (xs : List V) : Prop := ∀ v ∈ xs, OkR K G v
theorem Rws.same {K : PySem.W.Frag} {G G' : Hp} {xs : List V} (h : Rws K G xs) (s : Same G G') : Rws K G' xs := fun v hv => let ⟨l, a, b⟩ := h v hv; ⟨l, a.same s, b⟩
theorem Rws.snoc {K : PySem.W.Frag} {G : Hp} {xs : List V} {v : V} (h : Rws K G xs) (o : OkR K G v) : Rws K G (xs ++ [v]) := fun x hx => by
  rcases List.mem_append.mp hx with hx | hx
  · exact h x hx
  · rw [List.mem_singleton.mp hx]; exact o
section
variable {K : PySem.W.Frag} {G : Hp} {u p : Addr} {xs : List V} {ts : List Trm} {src q : Str} {k : Int}
theorem okx (hu : G u = some (.tup [.str ("exact" : Str), .ref p, .str src])) (hp : G p = some (.lst xs)) (hT : A2 (TmV K G) xs ts) (b : BL ⟨true, 0, "", ts, src⟩) : OkR K G (.ref u) := ⟨_, ⟨u, p, rfl, ⟨xs, hp, hT⟩, .inl ⟨rfl, .of hu⟩⟩, b⟩
theorem okz (hu : G u = some (.tup [.str ("sized" : Str), .int k, .str q, .ref p, .str src])) (hp : G p = some (.lst xs)) (hT : A2 (TmV K G) xs ts) (b : BL ⟨false, k, q, ts, src⟩) : OkR K G (.ref u) := ⟨_, ⟨u, p, rfl, ⟨xs, hp, hT⟩, .inr ⟨rfl, .of hu⟩⟩, b⟩
/-- a text that is plain, by looking -/
def gsB (n : Nat) (s : Str) : Bool := decide (s.length ≤ n) && s.cps.toList.all fun c => decide (c < 200)
theorem gs_of {n : Nat} {s : Str} (h : gsB n s = true) : GS n s := by
  unfold gsB at h
  rw [Bool.and_eq_true, decide_eq_true_eq, List.all_eq_true] at h
  exact ⟨h.1, fun c hc => of_decide_eq_true (h.2 c hc)⟩
theorem GS.up {n m : Nat} {s : Str} (h : GS n s) (l : n ≤ m) : GS m s := ⟨Nat.le_trans h.1 l, h.2⟩
theorem GS.cat {n m : Nat} {s t : Str} (a : GS n s) (b : GS m t) : GS (n + m) (s ++ t) := by
  refine ⟨by rw [Str.length_append]; exact Nat.add_le_add a.1 b.1, fun c hc => ?_⟩
  rw [Str.cps_append, Array.toList_append] at hc
  exact (List.mem_append.mp hc).elim (a.2 c) (b.2 c)
/-- a term of a law, bounded -/
def TmB (ex : Bool) (t : Trm) : Prop := t.k.natAbs < 10 ^ 8 ∧ GS 60 t.q ∧ (ex = true → ∃ n : Int, t.h = .inl n ∧ n.natAbs < 10 ^ 8) ∧ (ex = false → ∃ s : Str, t.h = .inr s ∧ GS 60 s)
theorem tmx {n k : Int} {q : Str} (h : (decide (n.natAbs < 10 ^ 8) && decide (k.natAbs < 10 ^ 8)) = true) (g : GS 60 q) : TmB true ⟨.inl n, k, q⟩ := by
  rw [Bool.and_eq_true] at h
  exact ⟨of_decide_eq_true h.2, g, fun _ => ⟨n, rfl, of_decide_eq_true h.1⟩, fun z => by cases z⟩
theorem tmz {s : Str} {k : Int} {q : Str} (h : (gsB 60 s && decide (k.natAbs < 10 ^ 8)) = true) (g : GS 60 q) : TmB false ⟨.inr s, k, q⟩ := by
  rw [Bool.and_eq_true] at h
  exact ⟨of_decide_eq_true h.2, g, (fun z => by cases z), fun _ => ⟨s, rfl, gs_of h.1⟩⟩
theorem bl_x (h : ∀ t ∈ ts, TmB true t) (g : gsB 60 src = true) (l : ts.length ≤ 8) : BL ⟨true, 0, "", ts, src⟩ := ⟨fun t ht => ⟨(h t ht).1, (h t ht).2.1⟩, ⟨by show (0 : Int).natAbs < _; decide, gs_of (s := "") (by decide +kernel)⟩, fun _ t ht => (h t ht).2.2.1 rfl, (fun z => by cases z), gs_of g, l⟩
theorem bl_z (h : ∀ t ∈ ts, TmB false t) (hk : k.natAbs < 10 ^ 8) (hq : GS 60 q) (g : gsB 60 src = true) (l : ts.length ≤ 8) : BL ⟨false, k, q, ts, src⟩ := ⟨fun t ht => ⟨(h t ht).1, (h t ht).2.1⟩, ⟨hk, hq⟩, (fun z => by cases z), fun _ t ht => (h t ht).2.2.2 rfl, gs_of g, l⟩
theorem all1 {p : Trm → Prop} {a : Trm} (h : p a) : ∀ t ∈ [a], p t := fun t ht => by rw [List.mem_singleton.mp ht]; exact h
theorem all2 {p : Trm → Prop} {a : Trm} {r : List Trm} (h : p a) (g : ∀ t ∈ r, p t) : ∀ t ∈ a :: r, p t := fun t ht => by
  rcases List.mem_cons.mp ht with rfl | ht
  · exact h
  · exact g t ht
theorem all0 {p : Trm → Prop} : ∀ t ∈ ([] : List Trm), p t := fun t ht => by cases ht
end
section
variable {P : Program} {w : World} {K : PySem.W.Frag} {mg : Str → Option Value} {base : Heap} {Ps : List Addr}
def sp_law_bad_law (K : PySem.W.Frag) : Sp := fun vs H Q _ => ∃ (cell : Int) (a : Addr) (ks : List Str), vs = [.int cell, .ref a] ∧ 0 ≤ cell ∧ SL H a ks ∧ ks ≠ [] ∧ ks.length ≤ 1000 ∧ (∀ s ∈ ks, GS 50 s) ∧ ∀ H' v, Same H H' → OkR K H' v → Q v H'
theorem ok_law_bad_law (T : Txt K mg) : FnOk P w K mg base CX0 1 T.law_bad_law.a T.law_bad_law.fd ["cell", "known"] (sp_law_bad_law K) := by
  refine T.law_bad_law.F.ok sc_law_bad_law (fun vs H Q E h => ?_) (fun cdv A outer s G0 vs Q E hr h => ?_)
  · obtain ⟨c, a, ks, rfl, _⟩ := h
    rfl
  · obtain ⟨cell, a, ks, rfl, hc, ha, ne, lk, gk, q⟩ := h
    refine ⟨_, (pss_cons (ps_set (i := 2) sc_law_bad_law.nd rfl (.inl rfl) (pe_ix ix_list (pv 1) (pe_op op_mod (pe_callTy call_int1 (by rfl) T.m_int (by decide +kernel) (pa_cons (pe_op op_fdiv (pv 0) pe_int) pa_nil)) (pe_callB call_len_seq (by rfl) T.m_len (by decide +kernel) (pa_cons (pv 1) pa_nil))) (fun _ _ => rfl)))
      (pss_cons (ps_set (i := 3) sc_law_bad_law.nd rfl (.inl rfl) (pe_lst (pa_cons (pe_tup (pa_cons pe_str (pa_cons (pe_lst (pa_cons (pe_tup (pa_cons pe_int (pa_cons pe_int (pa_cons (pv 2) pa_nil)))) pa_nil)) (pa_cons pe_str pa_nil)))) (pa_cons (pe_tup (pa_cons pe_str (pa_cons (pe_lst (pa_cons (pe_tup (pa_cons pe_int (pa_cons pe_int (pa_cons (pv 2) pa_nil)))) pa_nil)) (pa_cons pe_str pa_nil)))) (pa_cons (pe_tup (pa_cons pe_str (pa_cons (pe_lst (pa_cons (pe_tup (pa_cons (pe_un un_neg pe_int) (pa_cons pe_int (pa_cons (pv 2) pa_nil)))) pa_nil)) (pa_cons pe_str pa_nil)))) pa_nil)))))
      (pss_cons (ps_set (i := 3) sc_law_bad_law.nd rfl (.inl rfl) (pe_op op_cat (pv 3) (pe_lst (pa_cons (pe_tup (pa_cons pe_str (pa_cons (pe_lst (pa_cons (pe_tup (pa_cons pe_int (pa_cons pe_int (pa_cons (pv 2) pa_nil)))) pa_nil)) (pa_cons pe_str pa_nil)))) (pa_cons (pe_tup (pa_cons pe_str (pa_cons (pe_lst (pa_cons (pe_tup (pa_cons pe_int (pa_cons (pe_un un_neg pe_int) (pa_cons (pv 2) pa_nil)))) pa_nil)) (pa_cons pe_str pa_nil)))) (pa_cons (pe_tup (pa_cons pe_str (pa_cons pe_int (pa_cons (pv 2) (pa_cons (pe_lst (pa_cons (pe_tup (pa_cons pe_str (pa_cons pe_int (pa_cons (pv 2) pa_nil)))) pa_nil)) (pa_cons pe_str pa_nil)))))) pa_nil))))))
      (pss_cons (ps_set (i := 3) sc_law_bad_law.nd rfl (.inl rfl) (pe_op op_cat (pv 3) (pe_lst (pa_cons (pe_tup (pa_cons pe_str (pa_cons pe_int (pa_cons (pv 2) (pa_cons (pe_lst (pa_cons (pe_tup (pa_cons pe_str (pa_cons pe_int (pa_cons (pv 2) pa_nil)))) pa_nil)) (pa_cons pe_str pa_nil)))))) (pa_cons (pe_tup (pa_cons pe_str (pa_cons pe_int (pa_cons (pv 2) (pa_cons (pe_lst pa_nil) (pa_cons pe_str pa_nil)))))) pa_nil)))))
      (pss_cons (ps_set (i := 3) sc_law_bad_law.nd rfl (.inl rfl) (pe_op op_cat (pv 3) (pe_lst (pa_cons (pe_tup (pa_cons pe_str (pa_cons (pe_lst (pa_cons (pe_tup (pa_cons pe_int (pa_cons pe_int (pa_cons (pv 2) pa_nil)))) (pa_cons (pe_tup (pa_cons pe_int (pa_cons pe_int (pa_cons (pv 2) pa_nil)))) (pa_cons (pe_tup (pa_cons pe_int (pa_cons pe_int (pa_cons (pv 2) pa_nil)))) pa_nil)))) (pa_cons pe_str pa_nil)))) (pa_cons (pe_tup (pa_cons pe_str (pa_cons pe_int (pa_cons (pv 2) (pa_cons (pe_lst (pa_cons (pe_tup (pa_cons pe_str (pa_cons pe_int (pa_cons (pv 2) pa_nil)))) pa_nil)) (pa_cons pe_str pa_nil)))))) pa_nil)))))
      (pss_cons (ps_set (i := 3) sc_law_bad_law.nd rfl (.inl rfl) (pe_op op_cat (pv 3) (pe_lst (pa_cons (pe_tup (pa_cons pe_str (pa_cons (pe_lst (pa_cons (pe_tup (pa_cons pe_int (pa_cons pe_int (pa_cons (pe_op op_add_str (pv 2) pe_str) pa_nil)))) pa_nil)) (pa_cons pe_str pa_nil)))) (pa_cons (pe_tup (pa_cons pe_str (pa_cons pe_int (pa_cons pe_str (pa_cons (pe_lst (pa_cons (pe_tup (pa_cons pe_str (pa_cons pe_int (pa_cons (pv 2) pa_nil)))) pa_nil)) (pa_cons pe_str pa_nil)))))) pa_nil)))))
      (pss_cons (ps_set (i := 3) sc_law_bad_law.nd rfl (.inl rfl) (pe_op op_cat (pv 3) (pe_lst (pa_cons (pe_tup (pa_cons pe_str (pa_cons pe_int (pa_cons (pv 2) (pa_cons (pe_lst (pa_cons (pe_tup (pa_cons pe_str (pa_cons pe_int (pa_cons (pv 2) pa_nil)))) (pa_cons (pe_tup (pa_cons pe_str (pa_cons pe_int (pa_cons (pv 2) pa_nil)))) pa_nil))) (pa_cons pe_str pa_nil)))))) (pa_cons (pe_tup (pa_cons pe_str (pa_cons pe_int (pa_cons (pv 2) (pa_cons (pe_lst (pa_cons (pe_tup (pa_cons pe_str (pa_cons pe_int (pa_cons (pv 2) pa_nil)))) pa_nil)) (pa_cons pe_str pa_nil)))))) pa_nil)))))
      (pss_cons (ps_set (i := 3) sc_law_bad_law.nd rfl (.inl rfl) (pe_op op_cat (pv 3) (pe_lst (pa_cons (pe_tup (pa_cons pe_str (pa_cons (pe_lst (pa_cons (pe_tup (pa_cons pe_int (pa_cons pe_int (pa_cons (pv 2) pa_nil)))) pa_nil)) (pa_cons pe_str pa_nil)))) (pa_cons (pe_tup (pa_cons pe_str (pa_cons (pe_lst (pa_cons (pe_tup (pa_cons pe_int (pa_cons pe_int (pa_cons (pv 2) pa_nil)))) pa_nil)) (pa_cons pe_str pa_nil)))) (pa_cons (pe_tup (pa_cons pe_str (pa_cons (pe_lst (pa_cons (pe_tup (pa_cons (pe_un un_neg pe_int) (pa_cons pe_int (pa_cons (pv 2) pa_nil)))) pa_nil)) (pa_cons pe_str pa_nil)))) pa_nil))))))
      (pss_one (ps_ret (pe_ix ix_list (pv 3) (pe_op op_mod (pe_callTy call_int1 (by rfl) T.m_int (by decide +kernel) (pa_cons (pv 0) pa_nil)) pe_int) (fun _ _ => rfl)))))))))))), ?_⟩
    have kl : 0 < ks.length := List.length_pos_iff.mpr ne
    have i0 : 0 ≤ (cell / 20) % (ks.length : Int) := Int.emod_nonneg _ (by omega)
    have i1 : (cell / 20) % (ks.length : Int) < ks.length := Int.emod_lt_of_pos _ (by omega)
    obtain ⟨v, hv, mv⟩ := K07.at_ex (xs := ks.map V.str) (i := (cell / 20) % (ks.length : Int)) i0 (by rw [List.length_map]; exact i1)
    obtain ⟨nm, mnm, rfl⟩ := List.mem_map.mp mv
    have gn := gk nm mnm
    have gn60 : GS 60 nm := gn.up (by decide)
    have gx60 : GS 60 (nm ++ ("x" : Str)) := (GS.cat gn (gs_of (n := 1) (by decide +kernel))).up (by decide)
    refine ⟨.ref a, rfl, _, rfl, _, _, rfl, rfl, ⟨by decide, by decide⟩, .inl ⟨_, rfl, .ref a, rfl, a, _, rfl, .inl (.of ha), _, _, rfl, rfl, by rw [List.length_map]; omega, a, _, _, _, rfl, rfl, .of ha, by rw [List.length_map]; exact hv, ?_⟩⟩
    have S0 : Same G0 G0 := .refl _
    have R0 : Rws K G0 [] := fun v hv => by cases hv
    clear hv mv ha
    refine ⟨_, rfl, by show 3 ≤ sizeLine; decide, fun t1_0 nt1_0 => ?_⟩
    have w0 := same_upd nt1_0 (o := .tup [.int 0, .int 0, .str nm])
    have ht1_0 := upd_same (H := G0) (a := t1_0) (o := HO.tup [.int 0, .int 0, .str nm])
    have S1 := S0.trans w0
    have R1 := R0.same w0
    generalize upd G0 t1_0 _ = G1 at S1 R1 ht1_0 
    clear w0 R0 S0
    refine ⟨by show 1 ≤ sizeLine; decide, fun p1 np1 => ?_⟩
    have w1 := same_upd np1 (o := .lst [.ref t1_0])
    have hp1 := upd_same (H := G1) (a := p1) (o := HO.lst [.ref t1_0])
    have S2 := S1.trans w1
    have R2 := R1.same w1
    have ht1_0 := w1 _ _ ht1_0
    generalize upd G1 p1 _ = G2 at S2 R2 hp1 ht1_0
    clear w1 R1 S1
    refine ⟨by show 3 ≤ sizeLine; decide, fun u1 nu1 => ?_⟩
    have w2 := same_upd nu1 (o := .tup [.str ("exact" : Str), .ref p1, .str ("" : Str)])
    have hu1 := upd_same (H := G2) (a := u1) (o := HO.tup [.str ("exact" : Str), .ref p1, .str ("" : Str)])
    have S3 := S2.trans w2
    have R3 := R2.same w2
    have ht1_0 := w2 _ _ ht1_0
    have hp1 := w2 _ _ hp1
    generalize upd G2 u1 _ = G3 at S3 R3 hu1 ht1_0 hp1
    clear w2 R2 S2
    have R3 := R3.snoc (okx (ts := [⟨.inl 0, 0, nm⟩]) hu1 hp1 (.cons ⟨_, rfl, .of ht1_0⟩ .nil) (bl_x (all1 (tmx (by decide +kernel) gn60)) (by decide +kernel) (by show 1 ≤ 8; decide)))
    clear ht1_0 hp1 hu1
    refine ⟨_, rfl, by show 3 ≤ sizeLine; decide, fun t2_0 nt2_0 => ?_⟩
    have w3 := same_upd nt2_0 (o := .tup [.int 1000001, .int 3, .str nm])
    have ht2_0 := upd_same (H := G3) (a := t2_0) (o := HO.tup [.int 1000001, .int 3, .str nm])
    have S4 := S3.trans w3
    have R4 := R3.same w3
    generalize upd G3 t2_0 _ = G4 at S4 R4 ht2_0 
    clear w3 R3 S3
    refine ⟨by show 1 ≤ sizeLine; decide, fun p2 np2 => ?_⟩
    have w4 := same_upd np2 (o := .lst [.ref t2_0])
    have hp2 := upd_same (H := G4) (a := p2) (o := HO.lst [.ref t2_0])
    have S5 := S4.trans w4
    have R5 := R4.same w4
    have ht2_0 := w4 _ _ ht2_0
    generalize upd G4 p2 _ = G5 at S5 R5 hp2 ht2_0
    clear w4 R4 S4
    refine ⟨by show 3 ≤ sizeLine; decide, fun u2 nu2 => ?_⟩
    have w5 := same_upd nu2 (o := .tup [.str ("exact" : Str), .ref p2, .str ("" : Str)])
    have hu2 := upd_same (H := G5) (a := u2) (o := HO.tup [.str ("exact" : Str), .ref p2, .str ("" : Str)])
    have S6 := S5.trans w5
    have R6 := R5.same w5
    have ht2_0 := w5 _ _ ht2_0
    have hp2 := w5 _ _ hp2
    generalize upd G5 u2 _ = G6 at S6 R6 hu2 ht2_0 hp2
    clear w5 R5 S5
    have R6 := R6.snoc (okx (ts := [⟨.inl 1000001, 3, nm⟩]) hu2 hp2 (.cons ⟨_, rfl, .of ht2_0⟩ .nil) (bl_x (all1 (tmx (by decide +kernel) gn60)) (by decide +kernel) (by show 1 ≤ 8; decide)))
    clear ht2_0 hp2 hu2
    refine ⟨_, rfl, _, rfl, by show 3 ≤ sizeLine; decide, fun t3_0 nt3_0 => ?_⟩
    have w6 := same_upd nt3_0 (o := .tup [.int (-1000001), .int 0, .str nm])
    have ht3_0 := upd_same (H := G6) (a := t3_0) (o := HO.tup [.int (-1000001), .int 0, .str nm])
    have S7 := S6.trans w6
    have R7 := R6.same w6
    generalize upd G6 t3_0 _ = G7 at S7 R7 ht3_0 
    clear w6 R6 S6
    refine ⟨by show 1 ≤ sizeLine; decide, fun p3 np3 => ?_⟩
    have w7 := same_upd np3 (o := .lst [.ref t3_0])
    have hp3 := upd_same (H := G7) (a := p3) (o := HO.lst [.ref t3_0])
    have S8 := S7.trans w7
    have R8 := R7.same w7
    have ht3_0 := w7 _ _ ht3_0
    generalize upd G7 p3 _ = G8 at S8 R8 hp3 ht3_0
    clear w7 R7 S7
    refine ⟨by show 3 ≤ sizeLine; decide, fun u3 nu3 => ?_⟩
    have w8 := same_upd nu3 (o := .tup [.str ("exact" : Str), .ref p3, .str ("" : Str)])
    have hu3 := upd_same (H := G8) (a := u3) (o := HO.tup [.str ("exact" : Str), .ref p3, .str ("" : Str)])
    have S9 := S8.trans w8
    have R9 := R8.same w8
    have ht3_0 := w8 _ _ ht3_0
    have hp3 := w8 _ _ hp3
    generalize upd G8 u3 _ = G9 at S9 R9 hu3 ht3_0 hp3
    clear w8 R8 S8
    have R9 := R9.snoc (okx (ts := [⟨.inl (-1000001), 0, nm⟩]) hu3 hp3 (.cons ⟨_, rfl, .of ht3_0⟩ .nil) (bl_x (all1 (tmx (by decide +kernel) gn60)) (by decide +kernel) (by show 1 ≤ 8; decide)))
    clear ht3_0 hp3 hu3
    refine ⟨by show 3 ≤ sizeLine; decide, fun l0 nl0 => ?_⟩
    have w9 := same_upd nl0 (o := .lst [.ref u1, .ref u2, .ref u3])
    have hl0 := upd_same (H := G9) (a := l0) (o := HO.lst [.ref u1, .ref u2, .ref u3])
    have S10 := S9.trans w9
    have R10 := R9.same w9
    generalize upd G9 l0 _ = G10 at S10 R10 hl0 
    clear w9 R9 S9
    have hL0 := hl0
    refine ⟨_, rfl, ?_⟩
    refine ⟨_, rfl, by show 3 ≤ sizeLine; decide, fun t4_0 nt4_0 => ?_⟩
    have w10 := same_upd nt4_0 (o := .tup [.int 5, .int 4, .str nm])
    have ht4_0 := upd_same (H := G10) (a := t4_0) (o := HO.tup [.int 5, .int 4, .str nm])
    have S11 := S10.trans w10
    have R11 := R10.same w10
    have hL0 := w10 _ _ hL0
    generalize upd G10 t4_0 _ = G11 at S11 R11 ht4_0 hL0
    clear w10 R10 S10
    refine ⟨by show 1 ≤ sizeLine; decide, fun p4 np4 => ?_⟩
    have w11 := same_upd np4 (o := .lst [.ref t4_0])
    have hp4 := upd_same (H := G11) (a := p4) (o := HO.lst [.ref t4_0])
    have S12 := S11.trans w11
    have R12 := R11.same w11
    have hL0 := w11 _ _ hL0
    have ht4_0 := w11 _ _ ht4_0
    generalize upd G11 p4 _ = G12 at S12 R12 hp4 hL0 ht4_0
    clear w11 R11 S11
    refine ⟨by show 3 ≤ sizeLine; decide, fun u4 nu4 => ?_⟩
    have w12 := same_upd nu4 (o := .tup [.str ("exact" : Str), .ref p4, .str ("" : Str)])
    have hu4 := upd_same (H := G12) (a := u4) (o := HO.tup [.str ("exact" : Str), .ref p4, .str ("" : Str)])
    have S13 := S12.trans w12
    have R13 := R12.same w12
    have hL0 := w12 _ _ hL0
    have ht4_0 := w12 _ _ ht4_0
    have hp4 := w12 _ _ hp4
    generalize upd G12 u4 _ = G13 at S13 R13 hu4 hL0 ht4_0 hp4
    clear w12 R12 S12
    have R13 := R13.snoc (okx (ts := [⟨.inl 5, 4, nm⟩]) hu4 hp4 (.cons ⟨_, rfl, .of ht4_0⟩ .nil) (bl_x (all1 (tmx (by decide +kernel) gn60)) (by decide +kernel) (by show 1 ≤ 8; decide)))
    clear ht4_0 hp4 hu4
    refine ⟨_, rfl, _, rfl, by show 3 ≤ sizeLine; decide, fun t5_0 nt5_0 => ?_⟩
    have w13 := same_upd nt5_0 (o := .tup [.int 5, .int (-1), .str nm])
    have ht5_0 := upd_same (H := G13) (a := t5_0) (o := HO.tup [.int 5, .int (-1), .str nm])
    have S14 := S13.trans w13
    have R14 := R13.same w13
    have hL0 := w13 _ _ hL0
    generalize upd G13 t5_0 _ = G14 at S14 R14 ht5_0 hL0
    clear w13 R13 S13
    refine ⟨by show 1 ≤ sizeLine; decide, fun p5 np5 => ?_⟩
    have w14 := same_upd np5 (o := .lst [.ref t5_0])
    have hp5 := upd_same (H := G14) (a := p5) (o := HO.lst [.ref t5_0])
    have S15 := S14.trans w14
    have R15 := R14.same w14
    have hL0 := w14 _ _ hL0
    have ht5_0 := w14 _ _ ht5_0
    generalize upd G14 p5 _ = G15 at S15 R15 hp5 hL0 ht5_0
    clear w14 R14 S14
    refine ⟨by show 3 ≤ sizeLine; decide, fun u5 nu5 => ?_⟩
    have w15 := same_upd nu5 (o := .tup [.str ("exact" : Str), .ref p5, .str ("" : Str)])
    have hu5 := upd_same (H := G15) (a := u5) (o := HO.tup [.str ("exact" : Str), .ref p5, .str ("" : Str)])
    have S16 := S15.trans w15
    have R16 := R15.same w15
    have hL0 := w15 _ _ hL0
    have ht5_0 := w15 _ _ ht5_0
    have hp5 := w15 _ _ hp5
    generalize upd G15 u5 _ = G16 at S16 R16 hu5 hL0 ht5_0 hp5
    clear w15 R15 S15
    have R16 := R16.snoc (okx (ts := [⟨.inl 5, (-1), nm⟩]) hu5 hp5 (.cons ⟨_, rfl, .of ht5_0⟩ .nil) (bl_x (all1 (tmx (by decide +kernel) gn60)) (by decide +kernel) (by show 1 ≤ 8; decide)))
    clear ht5_0 hp5 hu5
    refine ⟨_, rfl, _, rfl, by show 3 ≤ sizeLine; decide, fun t6_0 nt6_0 => ?_⟩
    have w16 := same_upd nt6_0 (o := .tup [.str ("ss" : Str), .int 0, .str nm])
    have ht6_0 := upd_same (H := G16) (a := t6_0) (o := HO.tup [.str ("ss" : Str), .int 0, .str nm])
    have S17 := S16.trans w16
    have R17 := R16.same w16
    have hL0 := w16 _ _ hL0
    generalize upd G16 t6_0 _ = G17 at S17 R17 ht6_0 hL0
    clear w16 R16 S16
    refine ⟨by show 1 ≤ sizeLine; decide, fun p6 np6 => ?_⟩
    have w17 := same_upd np6 (o := .lst [.ref t6_0])
    have hp6 := upd_same (H := G17) (a := p6) (o := HO.lst [.ref t6_0])
    have S18 := S17.trans w17
    have R18 := R17.same w17
    have hL0 := w17 _ _ hL0
    have ht6_0 := w17 _ _ ht6_0
    generalize upd G17 p6 _ = G18 at S18 R18 hp6 hL0 ht6_0
    clear w17 R17 S17
    refine ⟨by show 5 ≤ sizeLine; decide, fun u6 nu6 => ?_⟩
    have w18 := same_upd nu6 (o := .tup [.str ("sized" : Str), .int 4, .str nm, .ref p6, .str ("" : Str)])
    have hu6 := upd_same (H := G18) (a := u6) (o := HO.tup [.str ("sized" : Str), .int 4, .str nm, .ref p6, .str ("" : Str)])
    have S19 := S18.trans w18
    have R19 := R18.same w18
    have hL0 := w18 _ _ hL0
    have ht6_0 := w18 _ _ ht6_0
    have hp6 := w18 _ _ hp6
    generalize upd G18 u6 _ = G19 at S19 R19 hu6 hL0 ht6_0 hp6
    clear w18 R18 S18
    have R19 := R19.snoc (okz (ts := [⟨.inr ("ss" : Str), 0, nm⟩]) hu6 hp6 (.cons ⟨_, rfl, .of ht6_0⟩ .nil) (bl_z (all1 (tmz (by decide +kernel) gn60)) (by decide) gn60 (by decide +kernel) (by show 1 ≤ 8; decide)))
    clear ht6_0 hp6 hu6
    refine ⟨by show 3 ≤ sizeLine; decide, fun l1 nl1 => ?_⟩
    have w19 := same_upd nl1 (o := .lst [.ref u4, .ref u5, .ref u6])
    have hl1 := upd_same (H := G19) (a := l1) (o := HO.lst [.ref u4, .ref u5, .ref u6])
    have S20 := S19.trans w19
    have R20 := R19.same w19
    have hL0 := w19 _ _ hL0
    generalize upd G19 l1 _ = G20 at S20 R20 hl1 hL0
    clear w19 R19 S19
    refine ⟨l0, l1, _, _, rfl, rfl, hL0, hl1, by show 6 ≤ sizeLine; decide, fun m1 nm1 => ?_⟩
    have w20 := same_upd nm1 (o := .lst ([.ref u1, .ref u2, .ref u3] ++ [.ref u4, .ref u5, .ref u6]))
    have hm1 := upd_same (H := G20) (a := m1) (o := HO.lst ([.ref u1, .ref u2, .ref u3] ++ [.ref u4, .ref u5, .ref u6]))
    have S21 := S20.trans w20
    have R21 := R20.same w20
    generalize upd G20 m1 _ = G21 at S21 R21 hm1 
    clear w20 R20 S20
    have hL1 := hm1
    refine ⟨_, rfl, ?_⟩
    refine ⟨_, rfl, _, rfl, by show 3 ≤ sizeLine; decide, fun t7_0 nt7_0 => ?_⟩
    have w21 := same_upd nt7_0 (o := .tup [.str ("ss" : Str), .int 4, .str nm])
    have ht7_0 := upd_same (H := G21) (a := t7_0) (o := HO.tup [.str ("ss" : Str), .int 4, .str nm])
    have S22 := S21.trans w21
    have R22 := R21.same w21
    have hL1 := w21 _ _ hL1
    generalize upd G21 t7_0 _ = G22 at S22 R22 ht7_0 hL1
    clear w21 R21 S21
    refine ⟨by show 1 ≤ sizeLine; decide, fun p7 np7 => ?_⟩
    have w22 := same_upd np7 (o := .lst [.ref t7_0])
    have hp7 := upd_same (H := G22) (a := p7) (o := HO.lst [.ref t7_0])
    have S23 := S22.trans w22
    have R23 := R22.same w22
    have hL1 := w22 _ _ hL1
    have ht7_0 := w22 _ _ ht7_0
    generalize upd G22 p7 _ = G23 at S23 R23 hp7 hL1 ht7_0
    clear w22 R22 S22
    refine ⟨by show 5 ≤ sizeLine; decide, fun u7 nu7 => ?_⟩
    have w23 := same_upd nu7 (o := .tup [.str ("sized" : Str), .int 1, .str nm, .ref p7, .str ("f" : Str)])
    have hu7 := upd_same (H := G23) (a := u7) (o := HO.tup [.str ("sized" : Str), .int 1, .str nm, .ref p7, .str ("f" : Str)])
    have S24 := S23.trans w23
    have R24 := R23.same w23
    have hL1 := w23 _ _ hL1
    have ht7_0 := w23 _ _ ht7_0
    have hp7 := w23 _ _ hp7
    generalize upd G23 u7 _ = G24 at S24 R24 hu7 hL1 ht7_0 hp7
    clear w23 R23 S23
    have R24 := R24.snoc (okz (ts := [⟨.inr ("ss" : Str), 4, nm⟩]) hu7 hp7 (.cons ⟨_, rfl, .of ht7_0⟩ .nil) (bl_z (all1 (tmz (by decide +kernel) gn60)) (by decide) gn60 (by decide +kernel) (by show 1 ≤ 8; decide)))
    clear ht7_0 hp7 hu7
    refine ⟨_, rfl, by show 0 ≤ sizeLine; decide, fun p8 np8 => ?_⟩
    have w24 := same_upd np8 (o := .lst [])
    have hp8 := upd_same (H := G24) (a := p8) (o := HO.lst [])
    have S25 := S24.trans w24
    have R25 := R24.same w24
    have hL1 := w24 _ _ hL1
    generalize upd G24 p8 _ = G25 at S25 R25 hp8 hL1
    clear w24 R24 S24
    refine ⟨by show 5 ≤ sizeLine; decide, fun u8 nu8 => ?_⟩
    have w25 := same_upd nu8 (o := .tup [.str ("sized" : Str), .int 0, .str nm, .ref p8, .str ("f" : Str)])
    have hu8 := upd_same (H := G25) (a := u8) (o := HO.tup [.str ("sized" : Str), .int 0, .str nm, .ref p8, .str ("f" : Str)])
    have S26 := S25.trans w25
    have R26 := R25.same w25
    have hL1 := w25 _ _ hL1
    have hp8 := w25 _ _ hp8
    generalize upd G25 u8 _ = G26 at S26 R26 hu8 hL1 hp8
    clear w25 R25 S25
    have R26 := R26.snoc (okz (ts := []) hu8 hp8 .nil (bl_z all0 (by decide) gn60 (by decide +kernel) (by show 0 ≤ 8; decide)))
    clear hp8 hu8
    refine ⟨by show 2 ≤ sizeLine; decide, fun l2 nl2 => ?_⟩
    have w26 := same_upd nl2 (o := .lst [.ref u7, .ref u8])
    have hl2 := upd_same (H := G26) (a := l2) (o := HO.lst [.ref u7, .ref u8])
    have S27 := S26.trans w26
    have R27 := R26.same w26
    have hL1 := w26 _ _ hL1
    generalize upd G26 l2 _ = G27 at S27 R27 hl2 hL1
    clear w26 R26 S26
    refine ⟨m1, l2, _, _, rfl, rfl, hL1, hl2, by show 8 ≤ sizeLine; decide, fun m2 nm2 => ?_⟩
    have w27 := same_upd nm2 (o := .lst ([.ref u1, .ref u2, .ref u3] ++ [.ref u4, .ref u5, .ref u6] ++ [.ref u7, .ref u8]))
    have hm2 := upd_same (H := G27) (a := m2) (o := HO.lst ([.ref u1, .ref u2, .ref u3] ++ [.ref u4, .ref u5, .ref u6] ++ [.ref u7, .ref u8]))
    have S28 := S27.trans w27
    have R28 := R27.same w27
    generalize upd G27 m2 _ = G28 at S28 R28 hm2 
    clear w27 R27 S27
    have hL2 := hm2
    refine ⟨_, rfl, ?_⟩
    refine ⟨_, rfl, by show 3 ≤ sizeLine; decide, fun t9_0 nt9_0 => ?_⟩
    have w28 := same_upd nt9_0 (o := .tup [.int 1, .int 1, .str nm])
    have ht9_0 := upd_same (H := G28) (a := t9_0) (o := HO.tup [.int 1, .int 1, .str nm])
    have S29 := S28.trans w28
    have R29 := R28.same w28
    have hL2 := w28 _ _ hL2
    generalize upd G28 t9_0 _ = G29 at S29 R29 ht9_0 hL2
    clear w28 R28 S28
    refine ⟨_, rfl, by show 3 ≤ sizeLine; decide, fun t9_1 nt9_1 => ?_⟩
    have w29 := same_upd nt9_1 (o := .tup [.int 1, .int 0, .str nm])
    have ht9_1 := upd_same (H := G29) (a := t9_1) (o := HO.tup [.int 1, .int 0, .str nm])
    have S30 := S29.trans w29
    have R30 := R29.same w29
    have hL2 := w29 _ _ hL2
    have ht9_0 := w29 _ _ ht9_0
    generalize upd G29 t9_1 _ = G30 at S30 R30 ht9_1 hL2 ht9_0
    clear w29 R29 S29
    refine ⟨_, rfl, by show 3 ≤ sizeLine; decide, fun t9_2 nt9_2 => ?_⟩
    have w30 := same_upd nt9_2 (o := .tup [.int 2, .int 1, .str nm])
    have ht9_2 := upd_same (H := G30) (a := t9_2) (o := HO.tup [.int 2, .int 1, .str nm])
    have S31 := S30.trans w30
    have R31 := R30.same w30
    have hL2 := w30 _ _ hL2
    have ht9_0 := w30 _ _ ht9_0
    have ht9_1 := w30 _ _ ht9_1
    generalize upd G30 t9_2 _ = G31 at S31 R31 ht9_2 hL2 ht9_0 ht9_1
    clear w30 R30 S30
    refine ⟨by show 3 ≤ sizeLine; decide, fun p9 np9 => ?_⟩
    have w31 := same_upd np9 (o := .lst [.ref t9_0, .ref t9_1, .ref t9_2])
    have hp9 := upd_same (H := G31) (a := p9) (o := HO.lst [.ref t9_0, .ref t9_1, .ref t9_2])
    have S32 := S31.trans w31
    have R32 := R31.same w31
    have hL2 := w31 _ _ hL2
    have ht9_0 := w31 _ _ ht9_0
    have ht9_1 := w31 _ _ ht9_1
    have ht9_2 := w31 _ _ ht9_2
    generalize upd G31 p9 _ = G32 at S32 R32 hp9 hL2 ht9_0 ht9_1 ht9_2
    clear w31 R31 S31
    refine ⟨by show 3 ≤ sizeLine; decide, fun u9 nu9 => ?_⟩
    have w32 := same_upd nu9 (o := .tup [.str ("exact" : Str), .ref p9, .str ("" : Str)])
    have hu9 := upd_same (H := G32) (a := u9) (o := HO.tup [.str ("exact" : Str), .ref p9, .str ("" : Str)])
    have S33 := S32.trans w32
    have R33 := R32.same w32
    have hL2 := w32 _ _ hL2
    have ht9_0 := w32 _ _ ht9_0
    have ht9_1 := w32 _ _ ht9_1
    have ht9_2 := w32 _ _ ht9_2
    have hp9 := w32 _ _ hp9
    generalize upd G32 u9 _ = G33 at S33 R33 hu9 hL2 ht9_0 ht9_1 ht9_2 hp9
    clear w32 R32 S32
    have R33 := R33.snoc (okx (ts := [⟨.inl 1, 1, nm⟩, ⟨.inl 1, 0, nm⟩, ⟨.inl 2, 1, nm⟩]) hu9 hp9 (.cons ⟨_, rfl, .of ht9_0⟩ (.cons ⟨_, rfl, .of ht9_1⟩ (.cons ⟨_, rfl, .of ht9_2⟩ .nil))) (bl_x (all2 (tmx (by decide +kernel) gn60) (all2 (tmx (by decide +kernel) gn60) (all1 (tmx (by decide +kernel) gn60)))) (by decide +kernel) (by show 3 ≤ 8; decide)))
    clear ht9_0 ht9_1 ht9_2 hp9 hu9
    refine ⟨_, rfl, _, rfl, by show 3 ≤ sizeLine; decide, fun t10_0 nt10_0 => ?_⟩
    have w33 := same_upd nt10_0 (o := .tup [.str ("ss" : Str), .int 1, .str nm])
    have ht10_0 := upd_same (H := G33) (a := t10_0) (o := HO.tup [.str ("ss" : Str), .int 1, .str nm])
    have S34 := S33.trans w33
    have R34 := R33.same w33
    have hL2 := w33 _ _ hL2
    generalize upd G33 t10_0 _ = G34 at S34 R34 ht10_0 hL2
    clear w33 R33 S33
    refine ⟨by show 1 ≤ sizeLine; decide, fun p10 np10 => ?_⟩
    have w34 := same_upd np10 (o := .lst [.ref t10_0])
    have hp10 := upd_same (H := G34) (a := p10) (o := HO.lst [.ref t10_0])
    have S35 := S34.trans w34
    have R35 := R34.same w34
    have hL2 := w34 _ _ hL2
    have ht10_0 := w34 _ _ ht10_0
    generalize upd G34 p10 _ = G35 at S35 R35 hp10 hL2 ht10_0
    clear w34 R34 S34
    refine ⟨by show 5 ≤ sizeLine; decide, fun u10 nu10 => ?_⟩
    have w35 := same_upd nu10 (o := .tup [.str ("sized" : Str), .int 1, .str nm, .ref p10, .str ("" : Str)])
    have hu10 := upd_same (H := G35) (a := u10) (o := HO.tup [.str ("sized" : Str), .int 1, .str nm, .ref p10, .str ("" : Str)])
    have S36 := S35.trans w35
    have R36 := R35.same w35
    have hL2 := w35 _ _ hL2
    have ht10_0 := w35 _ _ ht10_0
    have hp10 := w35 _ _ hp10
    generalize upd G35 u10 _ = G36 at S36 R36 hu10 hL2 ht10_0 hp10
    clear w35 R35 S35
    have R36 := R36.snoc (okz (ts := [⟨.inr ("ss" : Str), 1, nm⟩]) hu10 hp10 (.cons ⟨_, rfl, .of ht10_0⟩ .nil) (bl_z (all1 (tmz (by decide +kernel) gn60)) (by decide) gn60 (by decide +kernel) (by show 1 ≤ 8; decide)))
    clear ht10_0 hp10 hu10
    refine ⟨by show 2 ≤ sizeLine; decide, fun l3 nl3 => ?_⟩
    have w36 := same_upd nl3 (o := .lst [.ref u9, .ref u10])
    have hl3 := upd_same (H := G36) (a := l3) (o := HO.lst [.ref u9, .ref u10])
    have S37 := S36.trans w36
    have R37 := R36.same w36
    have hL2 := w36 _ _ hL2
    generalize upd G36 l3 _ = G37 at S37 R37 hl3 hL2
    clear w36 R36 S36
    refine ⟨m2, l3, _, _, rfl, rfl, hL2, hl3, by show 10 ≤ sizeLine; decide, fun m3 nm3 => ?_⟩
    have w37 := same_upd nm3 (o := .lst ([.ref u1, .ref u2, .ref u3] ++ [.ref u4, .ref u5, .ref u6] ++ [.ref u7, .ref u8] ++ [.ref u9, .ref u10]))
    have hm3 := upd_same (H := G37) (a := m3) (o := HO.lst ([.ref u1, .ref u2, .ref u3] ++ [.ref u4, .ref u5, .ref u6] ++ [.ref u7, .ref u8] ++ [.ref u9, .ref u10]))
    have S38 := S37.trans w37
    have R38 := R37.same w37
    generalize upd G37 m3 _ = G38 at S38 R38 hm3 
    clear w37 R37 S37
    have hL3 := hm3
    refine ⟨_, rfl, ?_⟩
    refine ⟨_, rfl, _, _, rfl, rfl, small (by show nm.length + 1 ≤ 60000; have := gn.1; omega), by show 3 ≤ sizeLine; decide, fun t11_0 nt11_0 => ?_⟩
    have w38 := same_upd nt11_0 (o := .tup [.int 1, .int 0, .str (nm ++ ("x" : Str))])
    have ht11_0 := upd_same (H := G38) (a := t11_0) (o := HO.tup [.int 1, .int 0, .str (nm ++ ("x" : Str))])
    have S39 := S38.trans w38
    have R39 := R38.same w38
    have hL3 := w38 _ _ hL3
    generalize upd G38 t11_0 _ = G39 at S39 R39 ht11_0 hL3
    clear w38 R38 S38
    refine ⟨by show 1 ≤ sizeLine; decide, fun p11 np11 => ?_⟩
    have w39 := same_upd np11 (o := .lst [.ref t11_0])
    have hp11 := upd_same (H := G39) (a := p11) (o := HO.lst [.ref t11_0])
    have S40 := S39.trans w39
    have R40 := R39.same w39
    have hL3 := w39 _ _ hL3
    have ht11_0 := w39 _ _ ht11_0
    generalize upd G39 p11 _ = G40 at S40 R40 hp11 hL3 ht11_0
    clear w39 R39 S39
    refine ⟨by show 3 ≤ sizeLine; decide, fun u11 nu11 => ?_⟩
    have w40 := same_upd nu11 (o := .tup [.str ("exact" : Str), .ref p11, .str ("" : Str)])
    have hu11 := upd_same (H := G40) (a := u11) (o := HO.tup [.str ("exact" : Str), .ref p11, .str ("" : Str)])
    have S41 := S40.trans w40
    have R41 := R40.same w40
    have hL3 := w40 _ _ hL3
    have ht11_0 := w40 _ _ ht11_0
    have hp11 := w40 _ _ hp11
    generalize upd G40 u11 _ = G41 at S41 R41 hu11 hL3 ht11_0 hp11
    clear w40 R40 S40
    have R41 := R41.snoc (okx (ts := [⟨.inl 1, 0, (nm ++ ("x" : Str))⟩]) hu11 hp11 (.cons ⟨_, rfl, .of ht11_0⟩ .nil) (bl_x (all1 (tmx (by decide +kernel) gx60)) (by decide +kernel) (by show 1 ≤ 8; decide)))
    clear ht11_0 hp11 hu11
    refine ⟨_, rfl, by show 3 ≤ sizeLine; decide, fun t12_0 nt12_0 => ?_⟩
    have w41 := same_upd nt12_0 (o := .tup [.str ("ss" : Str), .int 0, .str nm])
    have ht12_0 := upd_same (H := G41) (a := t12_0) (o := HO.tup [.str ("ss" : Str), .int 0, .str nm])
    have S42 := S41.trans w41
    have R42 := R41.same w41
    have hL3 := w41 _ _ hL3
    generalize upd G41 t12_0 _ = G42 at S42 R42 ht12_0 hL3
    clear w41 R41 S41
    refine ⟨by show 1 ≤ sizeLine; decide, fun p12 np12 => ?_⟩
    have w42 := same_upd np12 (o := .lst [.ref t12_0])
    have hp12 := upd_same (H := G42) (a := p12) (o := HO.lst [.ref t12_0])
    have S43 := S42.trans w42
    have R43 := R42.same w42
    have hL3 := w42 _ _ hL3
    have ht12_0 := w42 _ _ ht12_0
    generalize upd G42 p12 _ = G43 at S43 R43 hp12 hL3 ht12_0
    clear w42 R42 S42
    refine ⟨by show 5 ≤ sizeLine; decide, fun u12 nu12 => ?_⟩
    have w43 := same_upd nu12 (o := .tup [.str ("sized" : Str), .int 0, .str ("nil" : Str), .ref p12, .str ("" : Str)])
    have hu12 := upd_same (H := G43) (a := u12) (o := HO.tup [.str ("sized" : Str), .int 0, .str ("nil" : Str), .ref p12, .str ("" : Str)])
    have S44 := S43.trans w43
    have R44 := R43.same w43
    have hL3 := w43 _ _ hL3
    have ht12_0 := w43 _ _ ht12_0
    have hp12 := w43 _ _ hp12
    generalize upd G43 u12 _ = G44 at S44 R44 hu12 hL3 ht12_0 hp12
    clear w43 R43 S43
    have R44 := R44.snoc (okz (ts := [⟨.inr ("ss" : Str), 0, nm⟩]) hu12 hp12 (.cons ⟨_, rfl, .of ht12_0⟩ .nil) (bl_z (all1 (tmz (by decide +kernel) gn60)) (by decide) (gs_of (by decide +kernel)) (by decide +kernel) (by show 1 ≤ 8; decide)))
    clear ht12_0 hp12 hu12
    refine ⟨by show 2 ≤ sizeLine; decide, fun l4 nl4 => ?_⟩
    have w44 := same_upd nl4 (o := .lst [.ref u11, .ref u12])
    have hl4 := upd_same (H := G44) (a := l4) (o := HO.lst [.ref u11, .ref u12])
    have S45 := S44.trans w44
    have R45 := R44.same w44
    have hL3 := w44 _ _ hL3
    generalize upd G44 l4 _ = G45 at S45 R45 hl4 hL3
    clear w44 R44 S44
    refine ⟨m3, l4, _, _, rfl, rfl, hL3, hl4, by show 12 ≤ sizeLine; decide, fun m4 nm4 => ?_⟩
    have w45 := same_upd nm4 (o := .lst ([.ref u1, .ref u2, .ref u3] ++ [.ref u4, .ref u5, .ref u6] ++ [.ref u7, .ref u8] ++ [.ref u9, .ref u10] ++ [.ref u11, .ref u12]))
    have hm4 := upd_same (H := G45) (a := m4) (o := HO.lst ([.ref u1, .ref u2, .ref u3] ++ [.ref u4, .ref u5, .ref u6] ++ [.ref u7, .ref u8] ++ [.ref u9, .ref u10] ++ [.ref u11, .ref u12]))
    have S46 := S45.trans w45
    have R46 := R45.same w45
    generalize upd G45 m4 _ = G46 at S46 R46 hm4 
    clear w45 R45 S45
    have hL4 := hm4
    refine ⟨_, rfl, ?_⟩
    refine ⟨_, rfl, _, rfl, by show 3 ≤ sizeLine; decide, fun t13_0 nt13_0 => ?_⟩
    have w46 := same_upd nt13_0 (o := .tup [.str ("ss" : Str), .int 1, .str nm])
    have ht13_0 := upd_same (H := G46) (a := t13_0) (o := HO.tup [.str ("ss" : Str), .int 1, .str nm])
    have S47 := S46.trans w46
    have R47 := R46.same w46
    have hL4 := w46 _ _ hL4
    generalize upd G46 t13_0 _ = G47 at S47 R47 ht13_0 hL4
    clear w46 R46 S46
    refine ⟨_, rfl, by show 3 ≤ sizeLine; decide, fun t13_1 nt13_1 => ?_⟩
    have w47 := same_upd nt13_1 (o := .tup [.str ("ss" : Str), .int 2, .str nm])
    have ht13_1 := upd_same (H := G47) (a := t13_1) (o := HO.tup [.str ("ss" : Str), .int 2, .str nm])
    have S48 := S47.trans w47
    have R48 := R47.same w47
    have hL4 := w47 _ _ hL4
    have ht13_0 := w47 _ _ ht13_0
    generalize upd G47 t13_1 _ = G48 at S48 R48 ht13_1 hL4 ht13_0
    clear w47 R47 S47
    refine ⟨by show 2 ≤ sizeLine; decide, fun p13 np13 => ?_⟩
    have w48 := same_upd np13 (o := .lst [.ref t13_0, .ref t13_1])
    have hp13 := upd_same (H := G48) (a := p13) (o := HO.lst [.ref t13_0, .ref t13_1])
    have S49 := S48.trans w48
    have R49 := R48.same w48
    have hL4 := w48 _ _ hL4
    have ht13_0 := w48 _ _ ht13_0
    have ht13_1 := w48 _ _ ht13_1
    generalize upd G48 p13 _ = G49 at S49 R49 hp13 hL4 ht13_0 ht13_1
    clear w48 R48 S48
    refine ⟨by show 5 ≤ sizeLine; decide, fun u13 nu13 => ?_⟩
    have w49 := same_upd nu13 (o := .tup [.str ("sized" : Str), .int 0, .str nm, .ref p13, .str ("" : Str)])
    have hu13 := upd_same (H := G49) (a := u13) (o := HO.tup [.str ("sized" : Str), .int 0, .str nm, .ref p13, .str ("" : Str)])
    have S50 := S49.trans w49
    have R50 := R49.same w49
    have hL4 := w49 _ _ hL4
    have ht13_0 := w49 _ _ ht13_0
    have ht13_1 := w49 _ _ ht13_1
    have hp13 := w49 _ _ hp13
    generalize upd G49 u13 _ = G50 at S50 R50 hu13 hL4 ht13_0 ht13_1 hp13
    clear w49 R49 S49
    have R50 := R50.snoc (okz (ts := [⟨.inr ("ss" : Str), 1, nm⟩, ⟨.inr ("ss" : Str), 2, nm⟩]) hu13 hp13 (.cons ⟨_, rfl, .of ht13_0⟩ (.cons ⟨_, rfl, .of ht13_1⟩ .nil)) (bl_z (all2 (tmz (by decide +kernel) gn60) (all1 (tmz (by decide +kernel) gn60))) (by decide) gn60 (by decide +kernel) (by show 2 ≤ 8; decide)))
    clear ht13_0 ht13_1 hp13 hu13
    refine ⟨_, rfl, _, rfl, by show 3 ≤ sizeLine; decide, fun t14_0 nt14_0 => ?_⟩
    have w50 := same_upd nt14_0 (o := .tup [.str ("s.s" : Str), .int 1, .str nm])
    have ht14_0 := upd_same (H := G50) (a := t14_0) (o := HO.tup [.str ("s.s" : Str), .int 1, .str nm])
    have S51 := S50.trans w50
    have R51 := R50.same w50
    have hL4 := w50 _ _ hL4
    generalize upd G50 t14_0 _ = G51 at S51 R51 ht14_0 hL4
    clear w50 R50 S50
    refine ⟨by show 1 ≤ sizeLine; decide, fun p14 np14 => ?_⟩
    have w51 := same_upd np14 (o := .lst [.ref t14_0])
    have hp14 := upd_same (H := G51) (a := p14) (o := HO.lst [.ref t14_0])
    have S52 := S51.trans w51
    have R52 := R51.same w51
    have hL4 := w51 _ _ hL4
    have ht14_0 := w51 _ _ ht14_0
    generalize upd G51 p14 _ = G52 at S52 R52 hp14 hL4 ht14_0
    clear w51 R51 S51
    refine ⟨by show 5 ≤ sizeLine; decide, fun u14 nu14 => ?_⟩
    have w52 := same_upd nu14 (o := .tup [.str ("sized" : Str), .int 0, .str nm, .ref p14, .str ("" : Str)])
    have hu14 := upd_same (H := G52) (a := u14) (o := HO.tup [.str ("sized" : Str), .int 0, .str nm, .ref p14, .str ("" : Str)])
    have S53 := S52.trans w52
    have R53 := R52.same w52
    have hL4 := w52 _ _ hL4
    have ht14_0 := w52 _ _ ht14_0
    have hp14 := w52 _ _ hp14
    generalize upd G52 u14 _ = G53 at S53 R53 hu14 hL4 ht14_0 hp14
    clear w52 R52 S52
    have R53 := R53.snoc (okz (ts := [⟨.inr ("s.s" : Str), 1, nm⟩]) hu14 hp14 (.cons ⟨_, rfl, .of ht14_0⟩ .nil) (bl_z (all1 (tmz (by decide +kernel) gn60)) (by decide) gn60 (by decide +kernel) (by show 1 ≤ 8; decide)))
    clear ht14_0 hp14 hu14
    refine ⟨by show 2 ≤ sizeLine; decide, fun l5 nl5 => ?_⟩
    have w53 := same_upd nl5 (o := .lst [.ref u13, .ref u14])
    have hl5 := upd_same (H := G53) (a := l5) (o := HO.lst [.ref u13, .ref u14])
    have S54 := S53.trans w53
    have R54 := R53.same w53
    have hL4 := w53 _ _ hL4
    generalize upd G53 l5 _ = G54 at S54 R54 hl5 hL4
    clear w53 R53 S53
    refine ⟨m4, l5, _, _, rfl, rfl, hL4, hl5, by show 14 ≤ sizeLine; decide, fun m5 nm5 => ?_⟩
    have w54 := same_upd nm5 (o := .lst ([.ref u1, .ref u2, .ref u3] ++ [.ref u4, .ref u5, .ref u6] ++ [.ref u7, .ref u8] ++ [.ref u9, .ref u10] ++ [.ref u11, .ref u12] ++ [.ref u13, .ref u14]))
    have hm5 := upd_same (H := G54) (a := m5) (o := HO.lst ([.ref u1, .ref u2, .ref u3] ++ [.ref u4, .ref u5, .ref u6] ++ [.ref u7, .ref u8] ++ [.ref u9, .ref u10] ++ [.ref u11, .ref u12] ++ [.ref u13, .ref u14]))
    have S55 := S54.trans w54
    have R55 := R54.same w54
    generalize upd G54 m5 _ = G55 at S55 R55 hm5 
    clear w54 R54 S54
    have hL5 := hm5
    refine ⟨_, rfl, ?_⟩
    refine ⟨_, rfl, by show 3 ≤ sizeLine; decide, fun t15_0 nt15_0 => ?_⟩
    have w55 := same_upd nt15_0 (o := .tup [.int 1, .int 0, .str nm])
    have ht15_0 := upd_same (H := G55) (a := t15_0) (o := HO.tup [.int 1, .int 0, .str nm])
    have S56 := S55.trans w55
    have R56 := R55.same w55
    have hL5 := w55 _ _ hL5
    generalize upd G55 t15_0 _ = G56 at S56 R56 ht15_0 hL5
    clear w55 R55 S55
    refine ⟨by show 1 ≤ sizeLine; decide, fun p15 np15 => ?_⟩
    have w56 := same_upd np15 (o := .lst [.ref t15_0])
    have hp15 := upd_same (H := G56) (a := p15) (o := HO.lst [.ref t15_0])
    have S57 := S56.trans w56
    have R57 := R56.same w56
    have hL5 := w56 _ _ hL5
    have ht15_0 := w56 _ _ ht15_0
    generalize upd G56 p15 _ = G57 at S57 R57 hp15 hL5 ht15_0
    clear w56 R56 S56
    refine ⟨by show 3 ≤ sizeLine; decide, fun u15 nu15 => ?_⟩
    have w57 := same_upd nu15 (o := .tup [.str ("exact" : Str), .ref p15, .str ("1f" : Str)])
    have hu15 := upd_same (H := G57) (a := u15) (o := HO.tup [.str ("exact" : Str), .ref p15, .str ("1f" : Str)])
    have S58 := S57.trans w57
    have R58 := R57.same w57
    have hL5 := w57 _ _ hL5
    have ht15_0 := w57 _ _ ht15_0
    have hp15 := w57 _ _ hp15
    generalize upd G57 u15 _ = G58 at S58 R58 hu15 hL5 ht15_0 hp15
    clear w57 R57 S57
    have R58 := R58.snoc (okx (ts := [⟨.inl 1, 0, nm⟩]) hu15 hp15 (.cons ⟨_, rfl, .of ht15_0⟩ .nil) (bl_x (all1 (tmx (by decide +kernel) gn60)) (by decide +kernel) (by show 1 ≤ 8; decide)))
    clear ht15_0 hp15 hu15
    refine ⟨_, rfl, by show 3 ≤ sizeLine; decide, fun t16_0 nt16_0 => ?_⟩
    have w58 := same_upd nt16_0 (o := .tup [.int 1000000, .int 3, .str nm])
    have ht16_0 := upd_same (H := G58) (a := t16_0) (o := HO.tup [.int 1000000, .int 3, .str nm])
    have S59 := S58.trans w58
    have R59 := R58.same w58
    have hL5 := w58 _ _ hL5
    generalize upd G58 t16_0 _ = G59 at S59 R59 ht16_0 hL5
    clear w58 R58 S58
    refine ⟨by show 1 ≤ sizeLine; decide, fun p16 np16 => ?_⟩
    have w59 := same_upd np16 (o := .lst [.ref t16_0])
    have hp16 := upd_same (H := G59) (a := p16) (o := HO.lst [.ref t16_0])
    have S60 := S59.trans w59
    have R60 := R59.same w59
    have hL5 := w59 _ _ hL5
    have ht16_0 := w59 _ _ ht16_0
    generalize upd G59 p16 _ = G60 at S60 R60 hp16 hL5 ht16_0
    clear w59 R59 S59
    refine ⟨by show 3 ≤ sizeLine; decide, fun u16 nu16 => ?_⟩
    have w60 := same_upd nu16 (o := .tup [.str ("exact" : Str), .ref p16, .str ("f" : Str)])
    have hu16 := upd_same (H := G60) (a := u16) (o := HO.tup [.str ("exact" : Str), .ref p16, .str ("f" : Str)])
    have S61 := S60.trans w60
    have R61 := R60.same w60
    have hL5 := w60 _ _ hL5
    have ht16_0 := w60 _ _ ht16_0
    have hp16 := w60 _ _ hp16
    generalize upd G60 u16 _ = G61 at S61 R61 hu16 hL5 ht16_0 hp16
    clear w60 R60 S60
    have R61 := R61.snoc (okx (ts := [⟨.inl 1000000, 3, nm⟩]) hu16 hp16 (.cons ⟨_, rfl, .of ht16_0⟩ .nil) (bl_x (all1 (tmx (by decide +kernel) gn60)) (by decide +kernel) (by show 1 ≤ 8; decide)))
    clear ht16_0 hp16 hu16
    refine ⟨_, rfl, _, rfl, by show 3 ≤ sizeLine; decide, fun t17_0 nt17_0 => ?_⟩
    have w61 := same_upd nt17_0 (o := .tup [.int (-1000000), .int 0, .str nm])
    have ht17_0 := upd_same (H := G61) (a := t17_0) (o := HO.tup [.int (-1000000), .int 0, .str nm])
    have S62 := S61.trans w61
    have R62 := R61.same w61
    have hL5 := w61 _ _ hL5
    generalize upd G61 t17_0 _ = G62 at S62 R62 ht17_0 hL5
    clear w61 R61 S61
    refine ⟨by show 1 ≤ sizeLine; decide, fun p17 np17 => ?_⟩
    have w62 := same_upd np17 (o := .lst [.ref t17_0])
    have hp17 := upd_same (H := G62) (a := p17) (o := HO.lst [.ref t17_0])
    have S63 := S62.trans w62
    have R63 := R62.same w62
    have hL5 := w62 _ _ hL5
    have ht17_0 := w62 _ _ ht17_0
    generalize upd G62 p17 _ = G63 at S63 R63 hp17 hL5 ht17_0
    clear w62 R62 S62
    refine ⟨by show 3 ≤ sizeLine; decide, fun u17 nu17 => ?_⟩
    have w63 := same_upd nu17 (o := .tup [.str ("exact" : Str), .ref p17, .str ("" : Str)])
    have hu17 := upd_same (H := G63) (a := u17) (o := HO.tup [.str ("exact" : Str), .ref p17, .str ("" : Str)])
    have S64 := S63.trans w63
    have R64 := R63.same w63
    have hL5 := w63 _ _ hL5
    have ht17_0 := w63 _ _ ht17_0
    have hp17 := w63 _ _ hp17
    generalize upd G63 u17 _ = G64 at S64 R64 hu17 hL5 ht17_0 hp17
    clear w63 R63 S63
    have R64 := R64.snoc (okx (ts := [⟨.inl (-1000000), 0, nm⟩]) hu17 hp17 (.cons ⟨_, rfl, .of ht17_0⟩ .nil) (bl_x (all1 (tmx (by decide +kernel) gn60)) (by decide +kernel) (by show 1 ≤ 8; decide)))
    clear ht17_0 hp17 hu17
    refine ⟨by show 3 ≤ sizeLine; decide, fun l6 nl6 => ?_⟩
    have w64 := same_upd nl6 (o := .lst [.ref u15, .ref u16, .ref u17])
    have hl6 := upd_same (H := G64) (a := l6) (o := HO.lst [.ref u15, .ref u16, .ref u17])
    have S65 := S64.trans w64
    have R65 := R64.same w64
    have hL5 := w64 _ _ hL5
    generalize upd G64 l6 _ = G65 at S65 R65 hl6 hL5
    clear w64 R64 S64
    refine ⟨m5, l6, _, _, rfl, rfl, hL5, hl6, by show 17 ≤ sizeLine; decide, fun m6 nm6 => ?_⟩
    have w65 := same_upd nm6 (o := .lst ([.ref u1, .ref u2, .ref u3] ++ [.ref u4, .ref u5, .ref u6] ++ [.ref u7, .ref u8] ++ [.ref u9, .ref u10] ++ [.ref u11, .ref u12] ++ [.ref u13, .ref u14] ++ [.ref u15, .ref u16, .ref u17]))
    have hm6 := upd_same (H := G65) (a := m6) (o := HO.lst ([.ref u1, .ref u2, .ref u3] ++ [.ref u4, .ref u5, .ref u6] ++ [.ref u7, .ref u8] ++ [.ref u9, .ref u10] ++ [.ref u11, .ref u12] ++ [.ref u13, .ref u14] ++ [.ref u15, .ref u16, .ref u17]))
    have S66 := S65.trans w65
    have R66 := R65.same w65
    generalize upd G65 m6 _ = G66 at S66 R66 hm6 
    clear w65 R65 S65
    have hL6 := hm6
    obtain ⟨v2, hv2, mv2⟩ := K07.at_ex (xs := [V.ref u1, V.ref u2, V.ref u3] ++ [V.ref u4, V.ref u5, V.ref u6] ++ [V.ref u7, V.ref u8] ++ [V.ref u9, V.ref u10] ++ [V.ref u11, V.ref u12] ++ [V.ref u13, V.ref u14] ++ [V.ref u15, V.ref u16, V.ref u17]) (i := cell % 17) (by omega) (by show cell % 17 < 17; omega)
    have mv3 : v2 ∈ [] ++ [V.ref u1] ++ [V.ref u2] ++ [V.ref u3] ++ [V.ref u4] ++ [V.ref u5] ++ [V.ref u6] ++ [V.ref u7] ++ [V.ref u8] ++ [V.ref u9] ++ [V.ref u10] ++ [V.ref u11] ++ [V.ref u12] ++ [V.ref u13] ++ [V.ref u14] ++ [V.ref u15] ++ [V.ref u16] ++ [V.ref u17] := mv2
    exact ⟨_, rfl, _, rfl, .inl ⟨_, rfl, _, _, rfl, rfl, (by show (0 : Int) < 17; decide), m6, _, _, _, rfl, rfl, .of hm6, hv2, q _ _ S66 (R66 _ mv3)⟩⟩
end
end K07Z
-- G07
namespace K07Z
open PySem PySem.Spec PyProof.Rows L2 K07 TL
open K05 (wd)
/-! ### spoilt books -/
/-- bounded by n in all its lists -/
structure BQ (n : Nat) (p : Prt) : Prop where
  nm : GS 20 p.nm
  po : p.po.length ≤ n ∧ ∀ x ∈ p.po, GS 20 x
  inn : p.inn.length ≤ n ∧ ∀ x ∈ p.inn, GS 20 x
  pl : p.pl.length ≤ n ∧ ∀ x ∈ p.pl, GS 20 x.1 ∧ GS 20 x.2
  ls : p.ls.length ≤ n ∧ ∀ l ∈ p.ls, BL l
  jo : p.jo.length ≤ n ∧ ∀ j ∈ p.jo, j.length ≤ 4 ∧ ∀ x ∈ j, GS 60 x
theorem BQ.mono {n m : Nat} {p : Prt} (h : BQ n p) (l : n ≤ m) : BQ m p := ⟨h.nm, ⟨Nat.le_trans h.po.1 l, h.po.2⟩, ⟨Nat.le_trans h.inn.1 l, h.inn.2⟩, ⟨Nat.le_trans h.pl.1 l, h.pl.2⟩, ⟨Nat.le_trans h.ls.1 l, h.ls.2⟩, ⟨Nat.le_trans h.jo.1 l, h.jo.2⟩⟩
theorem BQ.bp {n : Nat} {p : Prt} (h : BQ n p) (l : n ≤ 64) : BP p :=
  ⟨h.nm.up (by decide), ⟨Nat.le_trans h.po.1 l, fun x hx => (h.po.2 x hx).up (by decide)⟩, ⟨Nat.le_trans h.inn.1 l, fun x hx => (h.inn.2 x hx).up (by decide)⟩, ⟨Nat.le_trans h.pl.1 l, fun x hx => ⟨(h.pl.2 x hx).1.up (by decide), (h.pl.2 x hx).2.up (by decide)⟩⟩,
    ⟨Nat.le_trans h.ls.1 l, h.ls.2⟩, ⟨Nat.le_trans h.jo.1 l, fun j hj => ⟨Nat.le_trans (h.jo.2 j hj).1 (by decide), (h.jo.2 j hj).2⟩⟩⟩
/-- the lists of a part -/
structure PTL (K : PySem.W.Frag) (G : Hp) (po inn pl la jo : Addr) (p : Prt) : Prop where
  h1 : SL G po p.po
  h2 : SL G inn p.inn
  h3 : PlL K G pl p.pl
  h4 : LsL K G la p.ls
  h5 : JoL G jo p.jo
theorem PTL.same {K : PySem.W.Frag} {G G' : Hp} {po inn pl la jo : Addr} {p : Prt} (h : PTL K G po inn pl la jo p) (s : Same G G') : PTL K G' po inn pl la jo p :=
  ⟨SL.same s h.h1, SL.same s h.h2, PlL.lk (lk_of s) h.h3, h.h4.lk (lk_of s), JoL.lk (lk_of s) h.h5⟩
/-- one thing of a part is made bad -/
def TSs (K : PySem.W.Frag) : TS := fun Dn σ G => ∃ (da b po inn pl la jo tx : Addr) (kk cell wd_ : Int) (n at_ : Nat) (bk : List Prt) (p : Prt) (bad taken : Str) (txs : List Str),
  σ = [some (.ref da), some (.int kk), some (.ref b), some (.int (at_ : Nat)), some (.str p.nm), some (.ref po), some (.ref inn), some (.ref pl), some (.ref la), some (.ref jo), some (.int wd_), some (.int cell), some (.str bad), some (.str taken), some (.ref tx), none, none, none, none, none] ∧
  0 ≤ cell ∧ n ≤ 40 ∧ BK K G b bk ∧ bk ≠ [] ∧ bk.length ≤ 16 ∧ (∀ q ∈ bk, GS 20 q.nm) ∧ BQ n p ∧ PTL K G po inn pl la jo p ∧ GS 20 bad ∧ GS 20 taken ∧ SL G tx txs ∧ txs ≠ [] ∧ txs.length ≤ 200 ∧ (∀ s ∈ txs, GS 60 s) ∧
  ∀ (G' : Hp) (p' : Prt) (po' inn' pl' la' jo' : Addr) (x15 x16 x17 x18 x19 : Option V), Same G G' → PTL K G' po' inn' pl' la' jo' p' → BQ (n + 21) p' →
    Dn.nx [some (.ref da), some (.int kk), some (.ref b), some (.int (at_ : Nat)), some (.str p'.nm), some (.ref po'), some (.ref inn'), some (.ref pl'), some (.ref la'), some (.ref jo'), some (.int wd_), some (.int cell), some (.str bad), some (.str taken), some (.ref tx), x15, x16, x17, x18, x19] G'
theorem own_gs {n : Nat} {p : Prt} (h : BQ n p) : ∀ s ∈ own p.po p.inn, GS 50 s := fun s hs => by
  unfold own at hs
  rcases List.mem_append.mp hs with hs | hs
  · obtain ⟨x, hx, hs⟩ := List.mem_flatMap.mp hs
    have g := h.po.2 x hx
    simp only [List.mem_cons, List.not_mem_nil, or_false] at hs
    rcases hs with rfl | rfl
    · exact (GS.cat g (gs_of (n := 2) (by decide +kernel))).up (by decide)
    · exact (GS.cat g (gs_of (n := 2) (by decide +kernel))).up (by decide)
  · exact (h.inn.2 s hs).up (by decide)
theorem zz_all : ∀ i : Fin 13, gsB 20 (("zz" : Str) ++ Str.ofString (toString ((i.val : Nat) : Int))) = true := by decide +kernel
theorem yy_all : ∀ i : Fin 13, gsB 20 (("yy" : Str) ++ Str.ofString (toString ((i.val : Nat) : Int))) = true := by decide +kernel
theorem zz_gs (i : Fin 13) : GS 20 (("zz" : Str) ++ Str.ofString (toString ((i.val : Nat) : Int))) := gs_of (zz_all i)
theorem yy_gs (i : Fin 13) : GS 20 (("yy" : Str) ++ Str.ofString (toString ((i.val : Nat) : Int))) := gs_of (yy_all i)
theorem log13 {i : Nat} (h : i < 13) : ((i : Nat) : Int).natAbs.log2 < 1920 := K07.log_small (by show i < 2 ^ 30; omega)
theorem A2.app {α β : Type} {R : α → β → Prop} {cs : List α} {ds : List β} (h2 : A2 R cs ds) : ∀ {as : List α} {bs : List β}, A2 R as bs → A2 R (as ++ cs) (bs ++ ds)
  | _, _, .nil => h2
  | _, _, .cons a r => .cons a (A2.app h2 r)
theorem A2.drop {α β : Type} {R : α → β → Prop} : ∀ {as : List α} {bs : List β} (n : Nat), A2 R as bs → A2 R (as.drop n) (bs.drop n)
  | _, _, 0, h => h
  | _, _, _ + 1, .nil => .nil
  | _, _, n + 1, .cons _ t => A2.drop n t
theorem a2_rep {α β : Type} {R : α → β → Prop} {v : α} {b : β} (h : R v b) : ∀ n : Nat, A2 R (List.replicate n [v]).flatten (List.replicate n b)
  | 0 => .nil
  | n + 1 => .cons h (a2_rep h n)
theorem cut_from {xs : List V} {z : Int} {L : Nat} (e : z = (L : Int)) : cutV xs (some z) none = xs.drop L := by
  subst e
  unfold cutV
  rw [HT.sIx_none, HT.sIx_nat]
  rcases Nat.le_total L xs.length with h | h
  · rw [Nat.min_eq_left h]
    exact List.take_of_length_le (by rw [List.length_drop]; exact Nat.le_refl _)
  · rw [Nat.min_eq_right h, List.drop_of_length_le (Nat.le_refl _), List.drop_of_length_le h, List.take_nil]
/-- a place, not the list D itself -/
def PlX (D : Addr) (H : Hp) (v : V) (p : Str × Str) : Prop := ∃ a, v = .ref a ∧ a ≠ D ∧ H a = some (.tup [.str p.1, .str p.2])
theorem PlX.mono {D : Addr} (H H' : Hp) (v : V) (b : Str × Str) (s : SameX D H H') (h : PlX D H v b) : PlX D H' v b := let ⟨a, e, n, q⟩ := h; ⟨a, e, n, s _ _ n q⟩
theorem PlX.pl {K : PySem.W.Frag} {D : Addr} {H : Hp} {v : V} {b : Str × Str} (h : PlX D H v b) : PlV K H v b := let ⟨a, e, _, q⟩ := h; ⟨a, e, .of q⟩
theorem twoE {S E : Prop} (e : E) (h : E → S) : S := h e
section
variable {P : Program} {w : World} {K : PySem.W.Frag} {mg : Str → Option Value} {base : Heap} {Ps : List Addr}
def sp_law_spoilt (K : PySem.W.Frag) : Sp := fun vs H Q _ => ∃ (a b : Addr) (ds : List Int) (k : Int) (bk : List Prt) (n : Nat), vs = [.ref a, .int k, .ref b] ∧ IL H a ds ∧ 0 ≤ k ∧ BK K H b bk ∧ bk ≠ [] ∧ bk.length ≤ 16 ∧ n ≤ 40 ∧ (∀ p ∈ bk, BQ n p) ∧
  ∀ H' b' bk', Same H H' → BK K H' b' bk' → bk'.length = bk.length → (∀ p ∈ bk', BQ (n + 21) p) → Q (.ref b') H'
theorem ok_law_spoilt (T : Txt K mg) : FnOk P w K mg base CX0 2 T.law_spoilt.a T.law_spoilt.fd ["draws", "k", "book"] (sp_law_spoilt K) := by
  refine T.law_spoilt.F.ok sc_law_spoilt (fun vs H Q E h => ?_) (fun cdv A outer s H vs Q E hr h => ?_)
  · obtain ⟨a, b, ds, k, bk, n, rfl, _⟩ := h
    rfl
  · obtain ⟨a, b, ds, k, bk, n, rfl, ha, hk, hb, ne, lb, n40, bq, q⟩ := h
    refine ⟨_, (pss_cons (ps_set (i := 3) sc_law_spoilt.nd rfl (.inl rfl) (pe_call (ok_law_at T) (hr.mono (by decide)) (by rfl) T.law_at.g T.law_at.F.kp T.law_at.b .nil pass0 (pa_cons (pv 0) (pa_cons (pv 1) (pa_cons (pe_callB call_len_seq (by rfl) T.m_len (by decide +kernel) (pa_cons (pv 2) pa_nil)) pa_nil)))))
      (pss_cons (ps_asg (pe_ix ix_list (pv 2) (pv 3) (fun _ _ => rfl)) (pg_tup rfl (pgs_cons (pg_name (i := 4) sc_law_spoilt.nd rfl (.inl rfl)) (pgs_cons (pg_name (i := 5) sc_law_spoilt.nd rfl (.inl rfl)) (pgs_cons (pg_name (i := 6) sc_law_spoilt.nd rfl (.inl rfl)) (pgs_cons (pg_name (i := 7) sc_law_spoilt.nd rfl (.inl rfl)) (pgs_cons (pg_name (i := 8) sc_law_spoilt.nd rfl (.inl rfl)) (pgs_cons (pg_name (i := 9) sc_law_spoilt.nd rfl (.inl rfl)) pgs_nil))))))))
      (pss_cons (ps_set (i := 10) sc_law_spoilt.nd rfl (.inl rfl) (pe_call (ok_law_at T) (hr.mono (by decide)) (by rfl) T.law_at.g T.law_at.F.kp T.law_at.b .nil pass0 (pa_cons (pv 0) (pa_cons (pe_op op_add (pv 1) pe_int) (pa_cons pe_int pa_nil)))))
      (pss_cons (ps_set (i := 11) sc_law_spoilt.nd rfl (.inl rfl) (pe_call (ok_law_at T) (hr.mono (by decide)) (by rfl) T.law_at.g T.law_at.F.kp T.law_at.b .nil pass0 (pa_cons (pv 0) (pa_cons (pe_op op_add (pv 1) pe_int) (pa_cons pe_int pa_nil)))))
      (pss_cons (ps_set (i := 12) sc_law_spoilt.nd rfl (.inl rfl) (pe_lst (pa_cons pe_str (pa_cons pe_str (pa_cons pe_str (pa_cons pe_str (pa_cons pe_str (pa_cons pe_str (pa_cons pe_str (pa_cons pe_str pa_nil))))))))))
      (pss_cons (ps_set (i := 12) sc_law_spoilt.nd rfl (.inl rfl) (pe_ix ix_list (pe_op op_cat (pv 12) (pe_lst (pa_cons pe_str (pa_cons pe_str (pa_cons pe_str (pa_cons pe_str (pa_cons pe_str (pa_cons pe_str (pa_cons pe_str pa_nil))))))))) (pe_op op_mod (pe_callTy call_int1 (by rfl) T.m_int (by decide +kernel) (pa_cons (pv 11) pa_nil)) pe_int) (fun _ _ => rfl)))
      (pss_cons (ps_set (i := 13) sc_law_spoilt.nd rfl (.inl rfl) (pe_ix ix_list (pe_op op_cat (pe_op op_cat (pe_op op_cat (pe_op op_cat (pe_lst (pa_cons (pv 4) pa_nil)) (pv 5)) (pv 6)) (pe_lc (own := [("place", 18)]) rfl sc_law_spoilt.nd (pi_list (pv 7)) (blkOk_by (N := ["draws", "k", "book", "at", "name", "ports", "inner", "places", "laws", "joints", "word", "cell", "bad", "taken", "texts", "kind", "joint", "more", "place", "turn"]) (sc := defScope s_law_spoilt) (by decide +kernel)) (fun _ _ _ _ _ => (pg_name (i := 18) sc_law_spoilt.nd rfl (.inl rfl))) (fun _ _ _ _ _ => pts_nil) (fun _ _ _ _ _ => (pe_ix (r := rIxT K) ix_tup (pv 18) pe_int (fun _ _ => rfl))))) (pe_lst (pa_cons pe_str pa_nil))) (pe_op op_mod (pe_callTy call_int1 (by rfl) T.m_int (by decide +kernel) (pa_cons (pe_op op_fdiv (pv 11) pe_int) pa_nil)) (pe_op op_add pe_int (pe_callB call_len_seq (by rfl) T.m_len (by decide +kernel) (pa_cons (pv 5) pa_nil)))) (fun _ _ => rfl)))
      (pss_cons (ps_set (i := 14) sc_law_spoilt.nd rfl (.inl rfl) (pe_op op_cat (pe_op op_cat (pv 5) (pe_lc (own := [("place", 18)]) rfl sc_law_spoilt.nd (pi_list (pv 7)) (blkOk_by (N := ["draws", "k", "book", "at", "name", "ports", "inner", "places", "laws", "joints", "word", "cell", "bad", "taken", "texts", "kind", "joint", "more", "place", "turn"]) (sc := defScope s_law_spoilt) (by decide +kernel)) (fun _ _ _ _ _ => (pg_name (i := 18) sc_law_spoilt.nd rfl (.inl rfl))) (fun _ _ _ _ _ => pts_nil) (fun _ _ _ _ _ => (pe_op op_add_str (pe_ix (r := rIxT K) ix_tup (pv 18) pe_int (fun _ _ => rfl)) pe_str)))) (pe_lst (pa_cons pe_str (pa_cons pe_str pa_nil)))))
      (pss_cons (K07.ps_via (t' := TSs K) (ps_if (pt_cmpR op_eq (pv 10) pe_int (nomark _))
        (pss_one (ps_set (i := 4) sc_law_spoilt.nd rfl (.inl rfl) (pe_ix ix_list (pe_lst (pa_cons (pv 12) (pa_cons (pe_ix ix_tup (pe_ix ix_list (pv 2) (pe_op op_mod (pe_callTy call_int1 (by rfl) T.m_int (by decide +kernel) (pa_cons (pe_op op_fdiv (pv 11) pe_int) pa_nil)) (pe_callB call_len_seq (by rfl) T.m_len (by decide +kernel) (pa_cons (pv 2) pa_nil))) (fun _ _ => rfl)) pe_int (fun _ _ => rfl)) pa_nil))) (pe_op op_mod (pe_callTy call_int1 (by rfl) T.m_int (by decide +kernel) (pa_cons (pe_op op_fdiv (pv 11) pe_int) pa_nil)) pe_int) (fun _ _ => rfl))))
        (pss_one (ps_if (pt_cmpR op_eq (pv 10) pe_int (nomark _))
          (pss_one (ps_set (i := 5) sc_law_spoilt.nd rfl (.inl rfl) (pe_op op_cat (pv 5) (pe_lst (pa_cons (pe_ix ix_list (pe_lst (pa_cons (pv 12) (pa_cons (pv 13) pa_nil))) (pe_op op_mod (pe_callTy call_int1 (by rfl) T.m_int (by decide +kernel) (pa_cons (pe_op op_fdiv (pv 11) pe_int) pa_nil)) pe_int) (fun _ _ => rfl)) pa_nil)))))
          (pss_one (ps_if (pt_cmpR op_eq (pv 10) pe_int (nomark _))
            (pss_one (ps_set (i := 6) sc_law_spoilt.nd rfl (.inl rfl) (pe_op op_cat (pe_lst (pa_cons (pe_ix ix_list (pe_lst (pa_cons (pv 13) (pa_cons (pv 12) pa_nil))) (pe_op op_mod (pe_callTy call_int1 (by rfl) T.m_int (by decide +kernel) (pa_cons (pe_op op_fdiv (pv 11) pe_int) pa_nil)) pe_int) (fun _ _ => rfl)) pa_nil)) (pv 6))))
            (pss_one (ps_if (PW.pt (pw_and (pt_cmpR op_eq (pv 10) pe_int (nomark _)) (pw_and1 (pt_cmpR op_gt (pe_callB call_len_seq (by rfl) T.m_len (by decide +kernel) (pa_cons (pv 2) pa_nil)) pe_int (nomark _)))))
              (pss_cons (ps_set (i := 15) sc_law_spoilt.nd rfl (.inl rfl) (pe_ix ix_list (pe_lst (pa_cons (pv 12) (pa_cons pe_str (pa_cons (pv 4) (pa_cons (pe_ix ix_tup (pe_ix ix_list (pv 2) (pe_op op_mod (pe_callTy call_int1 (by rfl) T.m_int (by decide +kernel) (pa_cons (pe_op op_fdiv (pv 11) pe_int) pa_nil)) (pe_callB call_len_seq (by rfl) T.m_len (by decide +kernel) (pa_cons (pv 2) pa_nil))) (fun _ _ => rfl)) pe_int (fun _ _ => rfl)) pa_nil))))) (pe_op op_mod (pe_callTy call_int1 (by rfl) T.m_int (by decide +kernel) (pa_cons (pe_op op_fdiv (pv 11) pe_int) pa_nil)) pe_int) (fun _ _ => rfl)))
              (pss_one (ps_set (i := 7) sc_law_spoilt.nd rfl (.inl rfl) (pe_op op_cat (pv 7) (pe_lst (pa_cons (pe_tup (pa_cons (pe_ix ix_list (pe_lst (pa_cons (pv 13) (pa_cons pe_str (pa_cons (pv 12) pa_nil)))) (pe_op op_mod (pe_callTy call_int1 (by rfl) T.m_int (by decide +kernel) (pa_cons (pe_op op_fdiv (pv 11) pe_int) pa_nil)) pe_int) (fun _ _ => rfl)) (pa_cons (pv 15) pa_nil))) pa_nil))))))
              (pss_one (ps_if (PW.pt (pw_and (pt_cmpR op_lt (pv 10) pe_int (nomark _)) (pw_and1 (pt_cmpR op_gt (pe_op op_add (pe_callB call_len_seq (by rfl) T.m_len (by decide +kernel) (pa_cons (pv 5) pa_nil)) (pe_callB call_len_seq (by rfl) T.m_len (by decide +kernel) (pa_cons (pv 6) pa_nil))) pe_int (nomark _)))))
                (pss_one (ps_set (i := 8) sc_law_spoilt.nd rfl (.inl rfl) (pe_op op_cat (pv 8) (pe_lst (pa_cons (pe_call (ok_law_bad_law T) (hr.mono (by decide)) (by rfl) T.law_bad_law.g T.law_bad_law.F.kp T.law_bad_law.b .nil pass0 (pa_cons (pv 11) (pa_cons (pe_call (ok_law_ownG T) (hr.mono (by decide)) (by rfl) T.law_own.g T.law_own.F.kp T.law_own.b .nil pass0 (pa_cons (pe_tup (pa_cons (pv 4) (pa_cons (pv 5) (pa_cons (pv 6) pa_nil)))) pa_nil)) pa_nil))) pa_nil)))))
                (pss_one (ps_if (PW.pt (pw_and (pt_cmpR op_eq (pv 10) pe_int (nomark _)) (pw_and1 (pt_cmpR op_gt (pe_callB call_len_seq (by rfl) T.m_len (by decide +kernel) (pa_cons (pv 5) pa_nil)) pe_int (nomark _)))))
                  (pss_cons (ps_set (i := 16) sc_law_spoilt.nd rfl (.inl rfl) (pe_ix ix_list (pe_lst (pa_cons (pe_lst (pa_cons (pe_ix ix_list (pv 5) pe_int (fun _ _ => rfl)) pa_nil)) (pa_cons (pe_lst (pa_cons (pe_ix ix_list (pv 5) pe_int (fun _ _ => rfl)) (pa_cons (pe_ix ix_list (pv 5) pe_int (fun _ _ => rfl)) pa_nil))) (pa_cons (pe_lst (pa_cons (pe_ix ix_list (pv 5) pe_int (fun _ _ => rfl)) (pa_cons (pe_ix ix_list (pv 14) (pe_op op_mod (pe_callTy call_int1 (by rfl) T.m_int (by decide +kernel) (pa_cons (pe_op op_fdiv (pv 11) pe_int) pa_nil)) (pe_callB call_len_seq (by rfl) T.m_len (by decide +kernel) (pa_cons (pv 14) pa_nil))) (fun _ _ => rfl)) pa_nil))) (pa_cons (pe_lst pa_nil) pa_nil))))) (pe_op op_mod (pe_callTy call_int1 (by rfl) T.m_int (by decide +kernel) (pa_cons (pv 11) pa_nil)) pe_int) (fun _ _ => rfl)))
                  (pss_one (ps_set (i := 9) sc_law_spoilt.nd rfl (.inl rfl) (pe_op op_cat (pv 9) (pe_lst (pa_cons (pv 16) pa_nil))))))
                  (pss_one (ps_if (pt_cmpR op_eq (pv 10) pe_int (nomark _))
                    (pss_cons (ps_setLc (i := 17) (own := [("turn", 19)]) rfl sc_law_spoilt.nd rfl rfl (sw_true rfl rfl rfl (by decide +kernel)) (pi_range1 (by rfl) T.m_range (pa_cons pe_int pa_nil)) (blkOk_by (N := ["draws", "k", "book", "at", "name", "ports", "inner", "places", "laws", "joints", "word", "cell", "bad", "taken", "texts", "kind", "joint", "more", "place", "turn"]) (sc := defScope s_law_spoilt) (by decide +kernel)) (fun _ _ _ _ _ => (pg_name (i := 19) sc_law_spoilt.nd rfl (.inl rfl))) (fun _ _ _ _ _ => pts_nil) (fun _ _ _ _ _ => (pe_op op_add_str pe_str (pe_callTy call_str_int (by rfl) T.m_str (by decide +kernel) (pa_cons (pv 19) pa_nil)))))
                    (pss_cons (ps_set (i := 5) sc_law_spoilt.nd rfl (.inl rfl) (pe_ix ix_list (pe_lst (pa_cons (pv 5) (pa_cons (pe_slice sl_list (pe_op op_cat (pv 5) (pv 17)) po_none (po_some (pe_op op_add pe_int (pe_op op_mod (pe_callTy call_int1 (by rfl) T.m_int (by decide +kernel) (pa_cons (pe_op op_fdiv (pv 11) pe_int) pa_nil)) pe_int)))) pa_nil))) (pe_op op_mod (pe_callTy call_int1 (by rfl) T.m_int (by decide +kernel) (pa_cons (pv 11) pa_nil)) pe_int) (fun _ _ => rfl)))
                    (pss_one (ps_set (i := 6) sc_law_spoilt.nd rfl (.inl rfl) (pe_ix ix_list (pe_lst (pa_cons (pv 6) (pa_cons (pe_slice sl_list (pe_op op_cat (pv 6) (pv 17)) po_none (po_some (pe_op op_add pe_int (pe_op op_mod (pe_callTy call_int1 (by rfl) T.m_int (by decide +kernel) (pa_cons (pe_op op_fdiv (pv 11) pe_int) pa_nil)) pe_int)))) pa_nil))) (pe_op op_sub pe_int (pe_op op_mod (pe_callTy call_int1 (by rfl) T.m_int (by decide +kernel) (pa_cons (pv 11) pa_nil)) pe_int)) (fun _ _ => rfl))))))
                    (pss_one (ps_if (pt_cmpR op_eq (pv 10) pe_int (nomark _))
                      (pss_cons (ps_set (i := 8) sc_law_spoilt.nd rfl (.inl rfl) (pe_ix ix_list (pe_lst (pa_cons (pv 8) (pa_cons (pe_slice sl_list (pe_op op_cat (pv 8) (pe_op op_rep (pe_lst (pa_cons (pe_tup (pa_cons pe_str (pa_cons (pe_lst pa_nil) (pa_cons pe_str pa_nil)))) pa_nil)) pe_int)) po_none (po_some (pe_op op_add pe_int (pe_op op_mod (pe_callTy call_int1 (by rfl) T.m_int (by decide +kernel) (pa_cons (pe_op op_fdiv (pv 11) pe_int) pa_nil)) pe_int)))) pa_nil))) (pe_op op_mod (pe_callTy call_int1 (by rfl) T.m_int (by decide +kernel) (pa_cons (pv 11) pa_nil)) pe_int) (fun _ _ => rfl)))
                      (pss_one (ps_set (i := 9) sc_law_spoilt.nd rfl (.inl rfl) (pe_ix ix_list (pe_lst (pa_cons (pv 9) (pa_cons (pe_slice sl_list (pe_op op_cat (pv 9) (pe_op op_rep (pe_lst (pa_cons (pe_slice sl_list (pv 5) po_none (po_some pe_int)) pa_nil)) pe_int)) po_none (po_some (pe_op op_add pe_int (pe_op op_mod (pe_callTy call_int1 (by rfl) T.m_int (by decide +kernel) (pa_cons (pe_op op_fdiv (pv 11) pe_int) pa_nil)) pe_int)))) pa_nil))) (pe_callTy call_int1 (by rfl) T.m_int (by decide +kernel) (pa_cons (pe_and (pe_cmpR op_gt (pe_callB call_len_seq (by rfl) T.m_len (by decide +kernel) (pa_cons (pv 5) pa_nil)) pe_int (nomark _)) (pe_one (pe_cmpR op_eq (pe_op op_mod (pe_callTy call_int1 (by rfl) T.m_int (by decide +kernel) (pa_cons (pv 11) pa_nil)) pe_int) pe_int (nomark _)))) pa_nil)) (fun _ _ => rfl)))))
                      (pss_one (ps_if (PW.pt (pw_and (pt_cmpR op_eq (pv 10) pe_int (nomark _)) (pw_and1 (pt_cmpR op_gt (pv 3) pe_int (nomark _)))))
                        (pss_one (ps_set (i := 7) sc_law_spoilt.nd rfl (.inl rfl) (pe_slice sl_list (pe_op op_cat (pv 7) (pe_lc (own := [("turn", 19)]) rfl sc_law_spoilt.nd (pi_range1 (by rfl) T.m_range (pa_cons pe_int pa_nil)) (blkOk_by (N := ["draws", "k", "book", "at", "name", "ports", "inner", "places", "laws", "joints", "word", "cell", "bad", "taken", "texts", "kind", "joint", "more", "place", "turn"]) (sc := defScope s_law_spoilt) (by decide +kernel)) (fun _ _ _ _ _ => (pg_name (i := 19) sc_law_spoilt.nd rfl (.inl rfl))) (fun _ _ _ _ _ => pts_nil) (fun _ _ _ _ _ => (pe_tup (pa_cons (pe_op op_add_str pe_str (pe_callTy call_str_int (by rfl) T.m_str (by decide +kernel) (pa_cons (pv 19) pa_nil))) (pa_cons (pe_ix (r := rIxT K) ix_tup (pe_ix (r := rIxL K) ix_list (pv 2) pe_int (fun _ _ => rfl)) pe_int (fun _ _ => rfl)) pa_nil)))))) po_none (po_some (pe_op op_add pe_int (pe_op op_mod (pe_callTy call_int1 (by rfl) T.m_int (by decide +kernel) (pa_cons (pv 11) pa_nil)) pe_int))))))
                        pss_nil))))))))))))))))) ?vias)
      (pss_one (ps_ret (pe_op op_cat (pe_op op_cat (pe_slice sl_list (pv 2) po_none (po_some (pv 3))) (pe_lst (pa_cons (pe_tup (pa_cons (pv 4) (pa_cons (pv 5) (pa_cons (pv 6) (pa_cons (pv 7) (pa_cons (pv 8) (pa_cons (pv 9) pa_nil))))))) pa_nil))) (pe_slice sl_list (pv 2) (po_some (pe_op op_add (pv 3) pe_int)) po_none))))))))))))), ?_⟩
    case vias =>
      intro Dn σ G h
      obtain ⟨da, b, po, inn, pl, la, jo, tx, kk, cell, wd_, n, at_, bk, p, bad, taken, txs, rfl, hc, n40, ⟨xs, hb, hA⟩, ne, lb, gnm, bq, L, gb, gt, htx, ntx, ltx, gtx, nx⟩ := h
      have kl : 0 < bk.length := List.length_pos_iff.mpr ne
      have el := hA.len
      refine ⟨_, rfl, rfl, _, rfl, ite2 (fun c => ?_) (fun c => ?_)⟩
      · obtain ⟨v1, hv1, mv1⟩ := K07.at_ex (xs := xs) (i := (cell / 8) % (xs.length : Int)) (Int.emod_nonneg _ (by omega)) (Int.emod_lt_of_pos _ (by omega))
        obtain ⟨i1, hi1⟩ := List.mem_iff_getElem?.mp mv1
        obtain ⟨q1, hq1, hP1⟩ := hA.get hi1
        obtain ⟨a1, zs1, rfl, h01, e01, -⟩ := part_at hP1
        refine ⟨_, rfl, _, rfl, _, rfl, _, _, rfl, rfl, ⟨by decide, by decide⟩, .inl ⟨_, rfl, _, rfl, b, _, rfl, .inl (.of hb), _, _, rfl, rfl, by omega, b, _, _, _, rfl, rfl, .of hb, hv1, a1, zs1, _, _, rfl, rfl, h01, e01, by show 2 ≤ sizeLine; decide, fun u nu => ?_⟩⟩
        obtain ⟨v2, hv2, mv2⟩ := K07.at_ex (xs := [V.str bad, V.str q1.nm]) (i := (cell / 90) % 2) (by omega) (by show (cell / 90) % 2 < 2; omega)
        have m2 : ∃ s : Str, v2 = .str s ∧ GS 20 s := by
          rcases List.mem_cons.mp mv2 with rfl | mv2
          · exact ⟨_, rfl, gb⟩
          · rw [List.mem_singleton.mp mv2]; exact ⟨_, rfl, gnm q1 (mem_at hq1)⟩
        obtain ⟨s2, rfl, g2⟩ := m2
        refine ⟨_, rfl, _, _, rfl, rfl, ⟨by decide, by decide⟩, .inl ⟨_, rfl, _, _, rfl, rfl, (by show (0 : Int) < 2; decide), u, _, _, _, rfl, rfl, .of upd_same, hv2, ?_⟩⟩
        exact nx _ ⟨s2, p.po, p.inn, p.pl, p.ls, p.jo⟩ po inn pl la jo none none none none none (same_upd nu) (let z := L.same (same_upd nu); ⟨z.h1, z.h2, z.h3, z.h4, z.h5⟩) (let z := bq.mono (Nat.le_add_right n 21); ⟨g2, z.po, z.inn, z.pl, z.ls, z.jo⟩)
      refine ⟨_, rfl, rfl, _, rfl, ite2 (fun c => ?_) (fun c => ?_)⟩
      · refine ⟨_, rfl, _, rfl, _, rfl, by show 2 ≤ sizeLine; decide, fun u nu => ?_⟩
        obtain ⟨v2, hv2, mv2⟩ := K07.at_ex (xs := [V.str bad, V.str taken]) (i := (cell / 90) % 2) (by omega) (by show (cell / 90) % 2 < 2; omega)
        have m2 : ∃ s : Str, v2 = .str s ∧ GS 20 s := by
          rcases List.mem_cons.mp mv2 with rfl | mv2
          · exact ⟨_, rfl, gb⟩
          · rw [List.mem_singleton.mp mv2]; exact ⟨_, rfl, gt⟩
        obtain ⟨s2, rfl, g2⟩ := m2
        have su := same_upd nu (o := .lst [V.str bad, V.str taken])
        refine ⟨_, rfl, _, _, rfl, rfl, ⟨by decide, by decide⟩, .inl ⟨_, rfl, _, _, rfl, rfl, (by show (0 : Int) < 2; decide), u, _, _, _, rfl, rfl, .of upd_same, hv2, by show 1 ≤ sizeLine; decide, fun z nz => ?_⟩⟩
        have sz := su.trans (same_upd nz (o := .lst [V.str s2]))
        refine ⟨po, z, _, _, rfl, rfl, sz _ _ L.h1, upd_same, by rw [List.length_map]; exact small (by have := bq.po.1; show _ + 1 ≤ 60000; omega), fun y ny => ?_⟩
        have sy := sz.trans (same_upd ny (o := .lst (p.po.map V.str ++ [V.str s2])))
        exact nx _ ⟨p.nm, p.po ++ [s2], p.inn, p.pl, p.ls, p.jo⟩ y inn pl la jo none none none none none sy (let z := L.same sy; ⟨cat_at p.po [s2], z.h2, z.h3, z.h4, z.h5⟩)
          (let z := bq.mono (Nat.le_add_right n 21); ⟨z.nm, ⟨by rw [List.length_append]; have := bq.po.1; show _ + 1 ≤ _; omega, fun x hx => (List.mem_append.mp hx).elim (z.po.2 x) fun h => by rw [List.mem_singleton.mp h]; exact g2⟩, z.inn, z.pl, z.ls, z.jo⟩)
      refine ⟨_, rfl, rfl, _, rfl, ite2 (fun c => ?_) (fun c => ?_)⟩
      · refine ⟨_, rfl, _, rfl, by show 2 ≤ sizeLine; decide, fun u nu => ?_⟩
        obtain ⟨v2, hv2, mv2⟩ := K07.at_ex (xs := [V.str taken, V.str bad]) (i := (cell / 90) % 2) (by omega) (by show (cell / 90) % 2 < 2; omega)
        have m2 : ∃ s : Str, v2 = .str s ∧ GS 20 s := by
          rcases List.mem_cons.mp mv2 with rfl | mv2
          · exact ⟨_, rfl, gt⟩
          · rw [List.mem_singleton.mp mv2]; exact ⟨_, rfl, gb⟩
        obtain ⟨s2, rfl, g2⟩ := m2
        have su := same_upd nu (o := .lst [V.str taken, V.str bad])
        refine ⟨_, rfl, _, _, rfl, rfl, ⟨by decide, by decide⟩, .inl ⟨_, rfl, _, _, rfl, rfl, (by show (0 : Int) < 2; decide), u, _, _, _, rfl, rfl, .of upd_same, hv2, by show 1 ≤ sizeLine; decide, fun z nz => ?_⟩⟩
        have sz := su.trans (same_upd nz (o := .lst [V.str s2]))
        refine ⟨_, rfl, z, inn, _, _, rfl, rfl, upd_same, sz _ _ L.h2, by rw [List.length_map]; exact small (by have := bq.inn.1; show 1 + _ ≤ 60000; omega), fun y ny => ?_⟩
        have sy := sz.trans (same_upd ny (o := .lst ([V.str s2] ++ p.inn.map V.str)))
        exact nx _ ⟨p.nm, p.po, [s2] ++ p.inn, p.pl, p.ls, p.jo⟩ po y pl la jo none none none none none sy (let z := L.same sy; ⟨z.h1, cat_at [s2] p.inn, z.h3, z.h4, z.h5⟩)
          (let z := bq.mono (Nat.le_add_right n 21); ⟨z.nm, z.po, ⟨by rw [List.length_append]; have := bq.inn.1; show 1 + _ ≤ _; omega, fun x hx => (List.mem_append.mp hx).elim (fun h => by rw [List.mem_singleton.mp h]; exact g2) (z.inn.2 x)⟩, z.pl, z.ls, z.jo⟩)
      refine ⟨_, rfl, rfl, _, rfl, ?_⟩
      refine twoE ?_ (fun hE => ite2 (fun c => ⟨_, rfl, b, _, rfl, .inl (.of hb), _, _, rfl, rfl, _, rfl, ite2 (fun c2 => ?_) (fun _ => hE)⟩) (fun _ => hE))
      rotate_left
      · obtain ⟨v1, hv1, mv1⟩ := K07.at_ex (xs := xs) (i := (cell / 8) % (xs.length : Int)) (Int.emod_nonneg _ (by omega)) (Int.emod_lt_of_pos _ (by omega))
        obtain ⟨i1, hi1⟩ := List.mem_iff_getElem?.mp mv1
        obtain ⟨q1, hq1, hP1⟩ := hA.get hi1
        obtain ⟨a1, zs1, rfl, h01, e01, -⟩ := part_at hP1
        refine ⟨_, rfl, _, rfl, _, rfl, _, rfl, _, _, rfl, rfl, ⟨by decide, by decide⟩, .inl ⟨_, rfl, _, rfl, b, _, rfl, .inl (.of hb), _, _, rfl, rfl, by omega, b, _, _, _, rfl, rfl, .of hb, hv1, a1, zs1, _, _, rfl, rfl, h01, e01, by show 4 ≤ sizeLine; decide, fun u nu => ?_⟩⟩
        obtain ⟨v2, hv2, mv2⟩ := K07.at_ex (xs := [V.str bad, V.str ("nopart" : Str), V.str p.nm, V.str q1.nm]) (i := (cell / 90) % 4) (by omega) (by show (cell / 90) % 4 < 4; omega)
        have m2 : ∃ s : Str, v2 = .str s ∧ GS 20 s := by
          simp only [List.mem_cons, List.not_mem_nil, or_false] at mv2
          rcases mv2 with rfl | rfl | rfl | rfl
          · exact ⟨_, rfl, gb⟩
          · exact ⟨_, rfl, gs_of (by decide +kernel)⟩
          · exact ⟨_, rfl, bq.nm⟩
          · exact ⟨_, rfl, gnm q1 (mem_at hq1)⟩
        obtain ⟨s2, rfl, g2⟩ := m2
        have su := same_upd nu (o := .lst [V.str bad, V.str ("nopart" : Str), V.str p.nm, V.str q1.nm])
        refine ⟨_, rfl, _, _, rfl, rfl, ⟨by decide, by decide⟩, .inl ⟨_, rfl, _, _, rfl, rfl, (by show (0 : Int) < 4; decide), u, _, _, _, rfl, rfl, .of upd_same, hv2, ?_⟩⟩
        refine ⟨_, rfl, _, rfl, _, rfl, by show 3 ≤ sizeLine; decide, fun u2 nu2 => ?_⟩
        obtain ⟨v3, hv3, mv3⟩ := K07.at_ex (xs := [V.str taken, V.str ("new" : Str), V.str bad]) (i := (cell / 360) % 3) (by omega) (by show (cell / 360) % 3 < 3; omega)
        have m3 : ∃ s : Str, v3 = .str s ∧ GS 20 s := by
          simp only [List.mem_cons, List.not_mem_nil, or_false] at mv3
          rcases mv3 with rfl | rfl | rfl
          · exact ⟨_, rfl, gt⟩
          · exact ⟨_, rfl, gs_of (by decide +kernel)⟩
          · exact ⟨_, rfl, gb⟩
        obtain ⟨s3, rfl, g3⟩ := m3
        have su2 := su.trans (same_upd nu2 (o := .lst [V.str taken, V.str ("new" : Str), V.str bad]))
        refine ⟨_, rfl, _, _, rfl, rfl, ⟨by decide, by decide⟩, .inl ⟨_, rfl, _, _, rfl, rfl, (by show (0 : Int) < 3; decide), u2, _, _, _, rfl, rfl, .of upd_same, hv3, _, rfl, by show 2 ≤ sizeLine; decide, fun t nt => ⟨by show 1 ≤ sizeLine; decide, fun z nz => ?_⟩⟩⟩
        have st := su2.trans (same_upd nt (o := .tup [V.str s3, V.str s2]))
        have ht := upd_same (H := upd (upd G u (.lst [V.str bad, V.str ("nopart" : Str), V.str p.nm, V.str q1.nm])) u2 (.lst [V.str taken, V.str ("new" : Str), V.str bad])) (a := t) (o := HO.tup [V.str s3, V.str s2])
        generalize upd (upd (upd G u _) u2 _) t _ = G2 at st ht nz
        have sz := st.trans (same_upd nz (o := .lst [V.ref t]))
        have ht2 := same_upd nz (o := .lst [V.ref t]) _ _ ht
        obtain ⟨ys, hy, hY⟩ := L.h3
        have ly := hY.len
        have bl3 := bq.pl.1
        refine ⟨pl, z, _, _, rfl, rfl, sz _ _ hy, upd_same, by show ys.length + 1 ≤ _; exact small (by omega), fun y ny => ?_⟩
        have sy := sz.trans (same_upd ny (o := .lst (ys ++ [V.ref t])))
        exact nx _ ⟨p.nm, p.po, p.inn, p.pl ++ [(s3, s2)], p.ls, p.jo⟩ po inn y la jo (some (.str s2)) none none none none sy (let z := L.same sy; ⟨z.h1, z.h2, ⟨_, upd_same, A2.snoc ⟨t, rfl, .of (same_upd ny _ _ ht2)⟩ (hY.mono fun _ _ z => PlV.same sy z)⟩, z.h4, z.h5⟩)
          (let z := bq.mono (Nat.le_add_right n 21); ⟨z.nm, z.po, z.inn, ⟨by rw [List.length_append]; show _ + 1 ≤ _; omega, fun x hx => (List.mem_append.mp hx).elim (z.pl.2 x) fun h => by rw [List.mem_singleton.mp h]; exact ⟨g3, g2⟩⟩, z.ls, z.jo⟩)
      refine ⟨_, rfl, _, _, rfl, rfl, _, rfl, ?_⟩
      refine twoE ?_ (fun hE => ite2 (fun c => ⟨_, rfl, po, _, rfl, .inl (.of L.h1), _, rfl, inn, _, rfl, .inl (.of L.h2), _, _, rfl, rfl, _, _, rfl, rfl, _, rfl, ite2 (fun c2 => ?_) (fun _ => hE)⟩) (fun _ => hE))
      rotate_left
      · refine ⟨_, rfl, _, rfl, _, rfl, _, rfl, _, rfl, by show 3 ≤ sizeLine; decide, fun t nt => ?_⟩
        have st := same_upd nt (o := .tup [.str p.nm, .ref po, .ref inn])
        have L1 := L.same st
        have c2 := of_decide_eq_true c2
        rw [List.length_map, List.length_map] at c2
        have b1 := bq.po.1
        have b2 := bq.inn.1
        have b4 := bq.ls.1
        refine ⟨t, po, inn, _, p, rfl, .of upd_same, rfl, rfl, L1.h1, L1.h2, by omega, by omega, fun x hx => by have := (bq.po.2 x hx).1; omega, fun G2 q2 s2 n2 hq2 => ?_⟩
        have lo : (own p.po p.inn).length = 2 * p.po.length + p.inn.length := by unfold own; rw [List.length_append, flat_two]
        refine ⟨cell, q2, own p.po p.inn, rfl, hc, hq2, (fun z => by rw [z] at lo; have : ([] : List Str).length = 0 := rfl; omega), by omega, own_gs bq, fun G3 v s3 okr => ?_⟩
        obtain ⟨l, hl, bl⟩ := okr
        refine ⟨by show 1 ≤ sizeLine; decide, fun z nz => ?_⟩
        have s4 := (st.trans (s2.trans s3)).trans (same_upd nz (o := .lst [v]))
        obtain ⟨zs, hz, hZ⟩ := L.h4
        have lz := hZ.len
        refine ⟨la, z, _, _, rfl, rfl, s4 _ _ hz, upd_same, by show zs.length + 1 ≤ _; exact small (by omega), fun y ny => ?_⟩
        have sy := s4.trans (same_upd ny (o := .lst (zs ++ [v])))
        exact nx _ ⟨p.nm, p.po, p.inn, p.pl, p.ls ++ [l], p.jo⟩ po inn pl y jo none none none none none sy (let z := L.same sy; ⟨z.h1, z.h2, z.h3, ⟨_, upd_same, A2.snoc (hl.same ((same_upd nz).trans (same_upd ny))) (hZ.mono fun _ _ z => z.same sy)⟩, z.h5⟩)
          (let z := bq.mono (Nat.le_add_right n 21); ⟨z.nm, z.po, z.inn, z.pl, ⟨by rw [List.length_append]; show _ + 1 ≤ _; omega, fun x hx => (List.mem_append.mp hx).elim (z.ls.2 x) fun h => by rw [List.mem_singleton.mp h]; exact bl⟩, z.jo⟩)
      refine ⟨_, rfl, rfl, _, rfl, ?_⟩
      refine twoE ?_ (fun hE => ite2 (fun c => ⟨_, rfl, po, _, rfl, .inl (.of L.h1), _, _, rfl, rfl, _, rfl, ite2 (fun c2 => ?_) (fun _ => hE)⟩) (fun _ => hE))
      rotate_left
      · have lp : 0 < p.po.length := by
          have c2 := of_decide_eq_true c2
          rw [List.length_map] at c2
          omega
        have e0 : p.po[0]? = some p.po[0] := by simp
        have g0 := bq.po.2 _ (mem_at e0)
        generalize p.po[0] = s0 at e0 g0
        have at0 : atI (p.po.map V.str) 0 = some (.str s0) := atI_nat (j := 0) (by rw [List.getElem?_map, e0]; rfl)
        have lt0 : 0 < txs.length := List.length_pos_iff.mpr ntx
        obtain ⟨v1, hv1, mv1⟩ := K07.at_ex (xs := txs.map V.str) (i := (cell / 4) % ((txs.map V.str).length : Int)) (Int.emod_nonneg _ (by rw [List.length_map]; omega)) (Int.emod_lt_of_pos _ (by rw [List.length_map]; omega))
        obtain ⟨s1, ms1, rfl⟩ := List.mem_map.mp mv1
        have g1 := gtx s1 ms1
        refine ⟨_, rfl, po, _, _, _, rfl, rfl, .of L.h1, at0, by show 1 ≤ sizeLine; decide, fun j0 m0 => ?_⟩
        have u0 := same_upd m0 (o := .lst [V.str s0])
        have k0 : SL (upd G j0 (.lst [V.str s0])) j0 [s0] := upd_same
        generalize upd G j0 _ = G1 at u0 k0
        refine ⟨_, rfl, po, _, _, _, rfl, rfl, .of (u0 _ _ L.h1), at0, _, rfl, po, _, _, _, rfl, rfl, .of (u0 _ _ L.h1), at0, by show 2 ≤ sizeLine; decide, fun j1 m1 => ?_⟩
        have w1 := same_upd m1 (o := .lst [V.str s0, V.str s0])
        have u1 := u0.trans w1
        have k1 : SL (upd G1 j1 (.lst [V.str s0, V.str s0])) j1 [s0, s0] := upd_same
        have k0 := SL.same w1 k0
        generalize upd G1 j1 _ = G2 at u1 k0 k1
        refine ⟨_, rfl, po, _, _, _, rfl, rfl, .of (u1 _ _ L.h1), at0, _, rfl, _, rfl, _, _, rfl, rfl, ⟨by decide, by decide⟩, .inl ⟨_, rfl, _, rfl, tx, _, rfl, .inl (.of (u1 _ _ htx)), _, _, rfl, rfl, by rw [List.length_map]; omega, tx, _, _, _, rfl, rfl, .of (u1 _ _ htx), hv1, by show 2 ≤ sizeLine; decide, fun j2 m2 => ?_⟩⟩
        have w2 := same_upd m2 (o := .lst [V.str s0, V.str s1])
        have u2 := u1.trans w2
        have k2 : SL (upd G2 j2 (.lst [V.str s0, V.str s1])) j2 [s0, s1] := upd_same
        have k0 := SL.same w2 k0
        have k1 := SL.same w2 k1
        generalize upd G2 j2 _ = G3 at u2 k0 k1 k2
        refine ⟨by show 0 ≤ sizeLine; decide, fun j3 m3 => ?_⟩
        have w3 := same_upd m3 (o := .lst [])
        have u3 := u2.trans w3
        have k3 : SL (upd G3 j3 (.lst [])) j3 [] := upd_same
        have k0 := SL.same w3 k0
        have k1 := SL.same w3 k1
        have k2 := SL.same w3 k2
        generalize upd G3 j3 _ = G4 at u3 k0 k1 k2 k3
        refine ⟨by show 4 ≤ sizeLine; decide, fun u nu => ?_⟩
        have w4 := same_upd nu (o := .lst [V.ref j0, V.ref j1, V.ref j2, V.ref j3])
        have u4 := u3.trans w4
        obtain ⟨v2, hv2, mv2⟩ := K07.at_ex (xs := [V.ref j0, V.ref j1, V.ref j2, V.ref j3]) (i := cell % 4) (by omega) (by show cell % 4 < 4; omega)
        have mj : ∃ (j : List Str) (ja : Addr), v2 = .ref ja ∧ SL (upd G4 u (.lst [V.ref j0, V.ref j1, V.ref j2, V.ref j3])) ja j ∧ j.length ≤ 4 ∧ ∀ x ∈ j, GS 60 x := by
          have g60 := g0.up (show 20 ≤ 60 by decide)
          simp only [List.mem_cons, List.not_mem_nil, or_false] at mv2
          rcases mv2 with rfl | rfl | rfl | rfl
          · exact ⟨_, _, rfl, SL.same w4 k0, by show 1 ≤ 4; decide, fun x hx => by rw [List.mem_singleton.mp hx]; exact g60⟩
          · exact ⟨_, _, rfl, SL.same w4 k1, by show 2 ≤ 4; decide, fun x hx => by
              rcases List.mem_cons.mp hx with rfl | hx
              · exact g60
              · rw [List.mem_singleton.mp hx]; exact g60⟩
          · exact ⟨_, _, rfl, SL.same w4 k2, by show 2 ≤ 4; decide, fun x hx => by
              rcases List.mem_cons.mp hx with rfl | hx
              · exact g60
              · rw [List.mem_singleton.mp hx]; exact g1⟩
          · exact ⟨_, _, rfl, SL.same w4 k3, by show 0 ≤ 4; decide, fun x hx => by cases hx⟩
        obtain ⟨jj, ja, rfl, hja, lj, gj⟩ := mj
        refine ⟨_, rfl, .inl ⟨_, rfl, _, _, rfl, rfl, (by show (0 : Int) < 4; decide), u, _, _, _, rfl, rfl, .of upd_same, hv2, ?_⟩⟩
        generalize upd G4 u _ = G5 at u4 hja
        refine ⟨_, rfl, _, rfl, by show 1 ≤ sizeLine; decide, fun z nz => ?_⟩
        have wz := same_upd nz (o := .lst [V.ref ja])
        have uz := u4.trans wz
        obtain ⟨us, hus, hU⟩ := L.h5
        have lus := hU.len
        have b5 := bq.jo.1
        refine ⟨jo, z, _, _, rfl, rfl, uz _ _ hus, upd_same, by show us.length + 1 ≤ _; exact small (by omega), fun y ny => ?_⟩
        have wy := same_upd ny (o := .lst (us ++ [V.ref ja]))
        have sy := uz.trans wy
        exact nx _ ⟨p.nm, p.po, p.inn, p.pl, p.ls, p.jo ++ [jj]⟩ po inn pl la y none (some (.ref ja)) none none none sy (let z := L.same sy; ⟨z.h1, z.h2, z.h3, z.h4, ⟨_, upd_same, A2.snoc ⟨ja, rfl, wy _ _ (wz _ _ hja)⟩ (hU.mono fun _ _ z => JoV.lk (lk_of sy) z)⟩⟩)
          (let z := bq.mono (Nat.le_add_right n 21); ⟨z.nm, z.po, z.inn, z.pl, z.ls, ⟨by rw [List.length_append]; show _ + 1 ≤ _; omega, fun x hx => (List.mem_append.mp hx).elim (z.jo.2 x) fun h => by rw [List.mem_singleton.mp h]; exact ⟨lj, gj⟩⟩⟩)
      refine ⟨_, rfl, rfl, _, rfl, ite2 (fun c => ?_) (fun c => ?_)⟩
      · refine ⟨13, rfl, by decide, by decide, fun D nD => ?_⟩
        refine lc_inv (walk_range (lo := 0) (n := 13)) (fun i _ ys => ∃ ss : List Str, ys = ss.map V.str ∧ ss.length = i ∧ ∀ s ∈ ss, GS 20 s) nD (fun _ _ => trivial) (by decide) ⟨[], rfl, rfl, fun s hs => by cases hs⟩ (fun i x G1 Hx ys hi sm hD hR y Qt Qf qt qf => ?_) (fun G1 ys s1 hD hR => ?_)
        · obtain ⟨rfl, rfl⟩ := y
          obtain ⟨ss, rfl, ls, gs⟩ := hR
          have gz := zz_gs ⟨i, hi⟩
          refine ⟨rfl, _, rfl, (0 + (i : Nat) : Int), rfl, by rw [Int.zero_add]; exact log13 hi, _, _, rfl, rfl, ?_, ?_⟩
          · have := gz.1
            rw [Str.length_append] at this
            rw [Int.zero_add]
            exact small (Nat.le_trans this (by decide))
          · refine qt _ _ (.refl _) ⟨ss ++ [("zz" : Str) ++ Str.ofString (toString (0 + (i : Nat) : Int))], by rw [List.map_append]; rfl, by rw [List.length_append, ls]; rfl, fun s hs => ?_⟩
            rcases List.mem_append.mp hs with hs | hs
            · exact gs s hs
            · rw [List.mem_singleton.mp hs, Int.zero_add]; exact gz
        · obtain ⟨ms, rfl, lm, gm⟩ := hR
          have b1 := bq.po.1
          have b2 := bq.inn.1
          obtain ⟨m1, em1, r1⟩ : ∃ m : Nat, 8 + (cell / 2) % 2 = (m : Int) ∧ m ≤ 9 := ⟨(8 + (cell / 2) % 2).toNat, by omega, by omega⟩
          obtain ⟨m2, em2, r2⟩ : ∃ m : Nat, 12 + (cell / 2) % 2 = (m : Int) ∧ m ≤ 13 := ⟨(12 + (cell / 2) % 2).toNat, by omega, by omega⟩
          refine ⟨_, rfl, _, rfl, _, rfl, po, D, _, _, rfl, rfl, s1 _ _ L.h1, hD, by rw [List.length_map, List.length_map]; exact small (by omega), fun y ny => ?_⟩
          have w1 := same_upd ny (o := .lst (p.po.map V.str ++ ms.map V.str))
          have e1 := cat_at (G := G1) (z := y) p.po ms
          have s2 := s1.trans w1
          have hD := w1 _ _ hD
          generalize upd G1 y _ = G2 at s2 e1 hD
          refine ⟨_, rfl, _, _, rfl, rfl, ⟨by decide, by decide⟩, .inl ⟨_, rfl, _, _, rfl, rfl, (by show (0 : Int) < 2; decide), _, _, rfl, rfl, _, rfl, y, _, rfl, .of e1, fun S nS => ?_⟩⟩
          rw [em1, K07.cut_to rfl, ← List.map_take]
          have w2 := same_upd nS (o := .lst (((p.po ++ ms).take m1).map V.str))
          have e2 : SL (upd G2 S (.lst (((p.po ++ ms).take m1).map V.str))) S ((p.po ++ ms).take m1) := upd_same
          have s3 := s2.trans w2
          have hD := w2 _ _ hD
          generalize upd G2 S _ = G3 at s3 e2 hD
          refine ⟨by show 2 ≤ sizeLine; decide, fun u nu => ?_⟩
          have w3 := same_upd nu (o := .lst [V.ref po, V.ref S])
          have s4 := s3.trans w3
          obtain ⟨v2, hv2, mv2⟩ := K07.at_ex (xs := [V.ref po, V.ref S]) (i := cell % 2) (by omega) (by show cell % 2 < 2; omega)
          have mp : ∃ (ss : List Str) (pa : Addr), v2 = .ref pa ∧ SL (upd G3 u (.lst [V.ref po, V.ref S])) pa ss ∧ ss.length ≤ n + 21 ∧ ∀ x ∈ ss, GS 20 x := by
            simp only [List.mem_cons, List.not_mem_nil, or_false] at mv2
            rcases mv2 with rfl | rfl
            · exact ⟨_, _, rfl, s4 _ _ L.h1, by omega, bq.po.2⟩
            · exact ⟨_, _, rfl, w3 _ _ e2, by rw [List.length_take, List.length_append]; omega, fun x hx => (List.mem_append.mp (List.mem_of_mem_take hx)).elim (bq.po.2 x) (gm x)⟩
          obtain ⟨ss, pa, rfl, hpa, lss, gss⟩ := mp
          refine ⟨_, rfl, .inl ⟨_, rfl, _, _, rfl, rfl, (by show (0 : Int) < 2; decide), u, _, _, _, rfl, rfl, .of upd_same, hv2, ?_⟩⟩
          have hD := w3 _ _ hD
          generalize upd G3 u _ = G4 at s4 hpa hD
          refine ⟨_, rfl, _, rfl, _, rfl, inn, D, _, _, rfl, rfl, s4 _ _ L.h2, hD, by rw [List.length_map, List.length_map]; exact small (by omega), fun y2 ny2 => ?_⟩
          have w5 := same_upd ny2 (o := .lst (p.inn.map V.str ++ ms.map V.str))
          have e5 := cat_at (G := G4) (z := y2) p.inn ms
          have s5 := s4.trans w5
          have hpa := SL.same w5 hpa
          generalize upd G4 y2 _ = G5 at s5 e5 hpa
          refine ⟨_, rfl, _, _, rfl, rfl, ⟨by decide, by decide⟩, .inl ⟨_, rfl, _, _, rfl, rfl, (by show (0 : Int) < 2; decide), _, _, rfl, rfl, _, rfl, y2, _, rfl, .of e5, fun S2 nS2 => ?_⟩⟩
          rw [em2, K07.cut_to rfl, ← List.map_take]
          have w6 := same_upd nS2 (o := .lst (((p.inn ++ ms).take m2).map V.str))
          have e6 : SL (upd G5 S2 (.lst (((p.inn ++ ms).take m2).map V.str))) S2 ((p.inn ++ ms).take m2) := upd_same
          have s6 := s5.trans w6
          have hpa := SL.same w6 hpa
          generalize upd G5 S2 _ = G6 at s6 e6 hpa
          refine ⟨by show 2 ≤ sizeLine; decide, fun u2 nu2 => ?_⟩
          have w7 := same_upd nu2 (o := .lst [V.ref inn, V.ref S2])
          have s7 := s6.trans w7
          have hpa := SL.same w7 hpa
          obtain ⟨v3, hv3, mv3⟩ := K07.at_ex (xs := [V.ref inn, V.ref S2]) (i := 1 - cell % 2) (by omega) (by show 1 - cell % 2 < 2; omega)
          have mi : ∃ (ss : List Str) (ia : Addr), v3 = .ref ia ∧ SL (upd G6 u2 (.lst [V.ref inn, V.ref S2])) ia ss ∧ ss.length ≤ n + 21 ∧ ∀ x ∈ ss, GS 20 x := by
            simp only [List.mem_cons, List.not_mem_nil, or_false] at mv3
            rcases mv3 with rfl | rfl
            · exact ⟨_, _, rfl, s7 _ _ L.h2, by omega, bq.inn.2⟩
            · exact ⟨_, _, rfl, w7 _ _ e6, by rw [List.length_take, List.length_append]; omega, fun x hx => (List.mem_append.mp (List.mem_of_mem_take hx)).elim (bq.inn.2 x) (gm x)⟩
          obtain ⟨si, ia, rfl, hia, lsi, gsi⟩ := mi
          refine ⟨_, rfl, .inl ⟨_, rfl, _, _, rfl, rfl, (by show (0 : Int) < 2; decide), _, _, rfl, rfl, u2, _, _, _, rfl, rfl, .of upd_same, hv3, ?_⟩⟩
          exact nx _ ⟨p.nm, ss, si, p.pl, p.ls, p.jo⟩ pa ia pl la jo none none (some (.ref D)) none none s7 (let z := L.same s7; ⟨hpa, hia, z.h3, z.h4, z.h5⟩)
            (let z := bq.mono (Nat.le_add_right n 21); ⟨z.nm, ⟨lss, gss⟩, ⟨lsi, gsi⟩, z.pl, z.ls, z.jo⟩)
      refine ⟨_, rfl, rfl, _, rfl, ite2 (fun c => ?_) (fun c => ?_)⟩
      · have b4 := bq.ls.1
        have b5 := bq.jo.1
        obtain ⟨m1, em1, r1⟩ : ∃ m : Nat, 20 + (cell / 2) % 2 = (m : Int) ∧ m ≤ 21 := ⟨(20 + (cell / 2) % 2).toNat, by omega, by omega⟩
        obtain ⟨zs, hz, hZ⟩ := L.h4
        obtain ⟨us, hus, hU⟩ := L.h5
        have lz := hZ.len
        have lus := hU.len
        refine ⟨_, rfl, _, rfl, by show 0 ≤ sizeLine; decide, fun e0 ne0 => ⟨by show 3 ≤ sizeLine; decide, fun t0 nt0 => ⟨by show 1 ≤ sizeLine; decide, fun l1 nl1 => ?_⟩⟩⟩
        have we := same_upd ne0 (o := .lst [])
        have he := upd_same (H := G) (a := e0) (o := HO.lst [])
        have wt := same_upd nt0 (o := .tup [.str ("exact" : Str), .ref e0, .str ("" : Str)])
        have ht := upd_same (H := upd G e0 (.lst [])) (a := t0) (o := HO.tup [.str ("exact" : Str), .ref e0, .str ("" : Str)])
        have s2 := we.trans wt
        have he := wt _ _ he
        generalize upd (upd G e0 _) t0 _ = G2 at s2 he ht nl1
        have w3 := same_upd nl1 (o := .lst [V.ref t0])
        have s3 := s2.trans w3
        have he := w3 _ _ he
        have ht := w3 _ _ ht
        have hl1 := upd_same (H := G2) (a := l1) (o := HO.lst [V.ref t0])
        generalize upd G2 l1 _ = G3 at s3 he ht hl1
        refine ⟨l1, 21, _, rfl, rfl, hl1, by decide, by decide, by show 1 * 21 ≤ sizeLine; decide, fun rr nrr => ?_⟩
        have w4 := same_upd nrr (o := .lst (List.replicate (21 : Int).toNat [V.ref t0]).flatten)
        have hrr := upd_same (H := G3) (a := rr) (o := HO.lst (List.replicate (21 : Int).toNat [V.ref t0]).flatten)
        have s4 := s3.trans w4
        have he := w4 _ _ he
        have ht := w4 _ _ ht
        generalize upd G3 rr _ = G4 at s4 he ht hrr
        have hLW : LW K G4 (.ref t0) ⟨true, 0, "", [], ""⟩ := ⟨t0, e0, rfl, ⟨[], he, .nil⟩, .inl ⟨rfl, .of ht⟩⟩
        refine ⟨la, rr, _, _, rfl, rfl, s4 _ _ hz, hrr, by rw [show (List.replicate (21 : Int).toNat [V.ref t0]).flatten.length = 21 from rfl]; exact small (by omega), fun y ny => ?_⟩
        have w5 := same_upd ny (o := .lst (zs ++ (List.replicate (21 : Int).toNat [V.ref t0]).flatten))
        have hy5 := upd_same (H := G4) (a := y) (o := HO.lst (zs ++ (List.replicate (21 : Int).toNat [V.ref t0]).flatten))
        have s5 := s4.trans w5
        have hA5 : A2 (LW K (upd G4 y (.lst (zs ++ (List.replicate (21 : Int).toNat [V.ref t0]).flatten)))) (zs ++ (List.replicate (21 : Int).toNat [V.ref t0]).flatten) (p.ls ++ List.replicate 21 ⟨true, 0, "", [], ""⟩) := A2.app (a2_rep (hLW.same w5) 21) (hZ.mono fun _ _ z => z.same s5)
        generalize upd G4 y _ = G5 at s5 hy5 hA5
        refine ⟨_, rfl, _, _, rfl, rfl, ⟨by decide, by decide⟩, .inl ⟨_, rfl, _, _, rfl, rfl, (by show (0 : Int) < 2; decide), _, _, rfl, rfl, _, rfl, y, _, rfl, .of hy5, fun S nS => ?_⟩⟩
        rw [em1, K07.cut_to rfl]
        have hA6 := A2.take m1 hA5
        generalize (zs ++ (List.replicate (21 : Int).toNat [V.ref t0]).flatten).take m1 = ws at nS hA6
        have w6 := same_upd nS (o := .lst ws)
        have hS6 := upd_same (H := G5) (a := S) (o := HO.lst ws)
        have s6 := s5.trans w6
        have hA6 := hA6.mono fun _ _ z => z.same w6
        generalize upd G5 S _ = G6 at s6 hS6 hA6
        refine ⟨by show 2 ≤ sizeLine; decide, fun u nu => ?_⟩
        have w7 := same_upd nu (o := .lst [V.ref la, V.ref S])
        have s7 := s6.trans w7
        obtain ⟨v2, hv2, mv2⟩ := K07.at_ex (xs := [V.ref la, V.ref S]) (i := cell % 2) (by omega) (by show cell % 2 < 2; omega)
        have ml : ∃ (ls : List Lw) (la' : Addr), v2 = .ref la' ∧ LsL K (upd G6 u (.lst [V.ref la, V.ref S])) la' ls ∧ ls.length ≤ n + 21 ∧ ∀ l ∈ ls, BL l := by
          simp only [List.mem_cons, List.not_mem_nil, or_false] at mv2
          rcases mv2 with rfl | rfl
          · exact ⟨_, _, rfl, L.h4.lk (lk_of s7), by omega, bq.ls.2⟩
          · refine ⟨_, _, rfl, ⟨ws, w7 _ _ hS6, hA6.mono fun _ _ z => z.same w7⟩, by rw [List.length_take, List.length_append, List.length_replicate]; omega, fun l hl => ?_⟩
            rcases List.mem_append.mp (List.mem_of_mem_take hl) with h | h
            · exact bq.ls.2 l h
            · rw [(List.mem_replicate.mp h).2]
              exact bl_x all0 (by decide +kernel) (by show 0 ≤ 8; decide)
        obtain ⟨lls, la', rfl, hla', lll, gll⟩ := ml
        refine ⟨_, rfl, .inl ⟨_, rfl, _, _, rfl, rfl, (by show (0 : Int) < 2; decide), u, _, _, _, rfl, rfl, .of upd_same, hv2, ?_⟩⟩
        generalize upd G6 u _ = G7 at s7 hla'
        refine ⟨_, rfl, _, rfl, _, rfl, _, rfl, po, _, rfl, .of (s7 _ _ L.h1), fun sp nsp => ?_⟩
        rw [K07.cut_to (z := (2 : Int)) (L := 2) rfl, ← List.map_take]
        have w8 := same_upd nsp (o := .lst ((p.po.take 2).map V.str))
        have hsp : SL (upd G7 sp (.lst ((p.po.take 2).map V.str))) sp (p.po.take 2) := upd_same
        have s8 := s7.trans w8
        have hla' := hla'.lk (lk_of w8)
        generalize upd G7 sp _ = G8 at s8 hsp hla'
        refine ⟨by show 1 ≤ sizeLine; decide, fun l2 nl2 => ?_⟩
        have w9 := same_upd nl2 (o := .lst [V.ref sp])
        have hl2 := upd_same (H := G8) (a := l2) (o := HO.lst [V.ref sp])
        have s9 := s8.trans w9
        have hla' := hla'.lk (lk_of w9)
        have hsp := SL.same w9 hsp
        generalize upd G8 l2 _ = G9 at s9 hsp hla' hl2
        refine ⟨l2, 21, _, rfl, rfl, hl2, by decide, by decide, by show 1 * 21 ≤ sizeLine; decide, fun r2 nr2 => ?_⟩
        have w10 := same_upd nr2 (o := .lst (List.replicate (21 : Int).toNat [V.ref sp]).flatten)
        have hr2 := upd_same (H := G9) (a := r2) (o := HO.lst (List.replicate (21 : Int).toNat [V.ref sp]).flatten)
        have s10 := s9.trans w10
        have hla' := hla'.lk (lk_of w10)
        have hsp := SL.same w10 hsp
        generalize upd G9 r2 _ = G10 at s10 hsp hla' hr2
        refine ⟨jo, r2, _, _, rfl, rfl, s10 _ _ hus, hr2, by rw [show (List.replicate (21 : Int).toNat [V.ref sp]).flatten.length = 21 from rfl]; exact small (by omega), fun y2 ny2 => ?_⟩
        have w11 := same_upd ny2 (o := .lst (us ++ (List.replicate (21 : Int).toNat [V.ref sp]).flatten))
        have hy11 := upd_same (H := G10) (a := y2) (o := HO.lst (us ++ (List.replicate (21 : Int).toNat [V.ref sp]).flatten))
        have s11 := s10.trans w11
        have hla' := hla'.lk (lk_of w11)
        have hA11 : A2 (JoV (upd G10 y2 (.lst (us ++ (List.replicate (21 : Int).toNat [V.ref sp]).flatten)))) (us ++ (List.replicate (21 : Int).toNat [V.ref sp]).flatten) (p.jo ++ List.replicate 21 (p.po.take 2)) := A2.app (a2_rep ⟨sp, rfl, SL.same w11 hsp⟩ 21) (hU.mono fun _ _ z => JoV.lk (lk_of s11) z)
        generalize upd G10 y2 _ = G11 at s11 hy11 hA11 hla'
        refine ⟨_, rfl, _, _, rfl, rfl, ⟨by decide, by decide⟩, .inl ⟨_, rfl, _, _, rfl, rfl, (by show (0 : Int) < 2; decide), _, _, rfl, rfl, _, rfl, y2, _, rfl, .of hy11, fun S2 nS2 => ?_⟩⟩
        rw [em1, K07.cut_to rfl]
        have hA12 := A2.take m1 hA11
        generalize (us ++ (List.replicate (21 : Int).toNat [V.ref sp]).flatten).take m1 = ws2 at nS2 hA12
        have w12 := same_upd nS2 (o := .lst ws2)
        have hS12 := upd_same (H := G11) (a := S2) (o := HO.lst ws2)
        have s12 := s11.trans w12
        have hla' := hla'.lk (lk_of w12)
        have hA12 := hA12.mono fun _ _ z => JoV.lk (lk_of w12) z
        generalize upd G11 S2 _ = G12 at s12 hS12 hA12 hla'
        refine ⟨by show 2 ≤ sizeLine; decide, fun u2 nu2 => ?_⟩
        have w13 := same_upd nu2 (o := .lst [V.ref jo, V.ref S2])
        have s13 := s12.trans w13
        have hla' := hla'.lk (lk_of w13)
        have fin : ∀ bb : Bool, ∃ (v3 : V) (js : List (List Str)) (ja : Addr), atI [V.ref jo, V.ref S2] (if bb = true then 1 else 0) = some v3 ∧ v3 = .ref ja ∧ JoL (upd G12 u2 (.lst [V.ref jo, V.ref S2])) ja js ∧ js.length ≤ n + 21 ∧ ∀ j ∈ js, j.length ≤ 4 ∧ ∀ x ∈ j, GS 60 x := fun bb => by
          cases bb with
          | false => exact ⟨_, _, jo, rfl, rfl, JoL.lk (lk_of s13) L.h5, by omega, bq.jo.2⟩
          | true =>
            refine ⟨_, _, S2, rfl, rfl, ⟨ws2, w13 _ _ hS12, hA12.mono fun _ _ z => JoV.lk (lk_of w13) z⟩, by rw [List.length_take, List.length_append, List.length_replicate]; omega, fun j hj => ?_⟩
            rcases List.mem_append.mp (List.mem_of_mem_take hj) with h | h
            · exact bq.jo.2 j h
            · rw [(List.mem_replicate.mp h).2]
              exact ⟨by rw [List.length_take]; omega, fun x hx => (bq.po.2 x (List.mem_of_mem_take hx)).up (by decide)⟩
        have hu2 := upd_same (H := G12) (a := u2) (o := HO.lst [V.ref jo, V.ref S2])
        generalize upd G12 u2 _ = G13 at s13 hla' fin hu2
        refine ⟨_, rfl, po, _, rfl, .inl (.of (s13 _ _ L.h1)), _, _, rfl, rfl, _, rfl, ite2 (fun h => ?_) (fun h => ?_)⟩
        · refine ⟨_, rfl, .inl ⟨_, rfl, _, _, rfl, rfl, (by show (0 : Int) < 2; decide), rfl, ?_⟩⟩
          obtain ⟨v3, js, ja, hv3, rfl, hja, ljs, gjs⟩ := fin (decide (V.int (cell % 2) = V.int 0))
          refine .inr ⟨_, rfl, u2, _, _, _, rfl, rfl, .of hu2, hv3, ?_⟩
          exact nx _ ⟨p.nm, p.po, p.inn, p.pl, lls, js⟩ po inn pl la' ja none none none none none s13 (let z := L.same s13; ⟨z.h1, z.h2, z.h3, hla', hja⟩)
            (let z := bq.mono (Nat.le_add_right n 21); ⟨z.nm, z.po, z.inn, z.pl, ⟨lll, gll⟩, ⟨ljs, gjs⟩⟩)
        · obtain ⟨v3, js, ja, hv3, rfl, hja, ljs, gjs⟩ := fin false
          refine .inr ⟨_, rfl, u2, _, _, _, rfl, rfl, .of hu2, hv3, ?_⟩
          exact nx _ ⟨p.nm, p.po, p.inn, p.pl, lls, js⟩ po inn pl la' ja none none none none none s13 (let z := L.same s13; ⟨z.h1, z.h2, z.h3, hla', hja⟩)
            (let z := bq.mono (Nat.le_add_right n 21); ⟨z.nm, z.po, z.inn, z.pl, ⟨lll, gll⟩, ⟨ljs, gjs⟩⟩)
      refine ⟨_, rfl, rfl, _, rfl, ?_⟩
      refine twoE ?_ (fun hE => ite2 (fun c => ⟨_, rfl, _, _, rfl, rfl, _, rfl, ite2 (fun c2 => ?_) (fun _ => hE)⟩) (fun _ => hE))
      · exact nx _ p po inn pl la jo none none none none none (.refl _) L (bq.mono (Nat.le_add_right n 21))
      · have b3 := bq.pl.1
        obtain ⟨m1, em1, r1⟩ : ∃ m : Nat, 12 + cell % 2 = (m : Int) ∧ m ≤ 13 := ⟨(12 + cell % 2).toNat, by omega, by omega⟩
        obtain ⟨ys, hy, hY⟩ := L.h3
        have ly := hY.len
        have h0 : xs[0]? = some (xs[0]'(by omega)) := by simp [show 0 < xs.length by omega]
        obtain ⟨q1, hq1, hP1⟩ := hA.get h0
        have hv0 : atI xs 0 = some (xs[0]'(by omega)) := atI_nat (j := 0) h0
        obtain ⟨a1, zs1, ea1, h01, e01, -⟩ := part_at hP1
        rw [ea1] at hv0
        have gq := gnm q1 (mem_at hq1)
        refine ⟨_, rfl, 13, rfl, by decide, by decide, fun D nD => ?_⟩
        refine lc_fm (walk_range (lo := 0) (n := 13)) (List.range 13) (fun i => some (("yy" : Str) ++ Str.ofString (toString ((i : Nat) : Int)), q1.nm)) (PlX D) PlX.mono (by simp) nD (fun _ _ => trivial) (by decide) (fun i x G1 Hx ys2 l el sm hD y Qt Qf qt qf => ?_) (fun G1 zs1' s1 hD hR => ?_)
        · obtain ⟨rfl, rfl⟩ := y
          have hi : i < 13 := by
            have := (List.getElem?_eq_some_iff.mp el).1
            simpa using this
          have el2 : l = i := by
            have := (List.getElem?_eq_some_iff.mp el).2
            simpa using this.symm
          subst el2
          have gz := yy_gs ⟨l, hi⟩
          refine ⟨rfl, _, rfl, (0 + (l : Nat) : Int), rfl, by rw [Int.zero_add]; exact log13 hi, _, _, rfl, rfl, ?_, _, rfl, b, _, _, _, rfl, rfl, .of (sm _ _ hb), hv0, a1, zs1, _, _, rfl, rfl, Same.seqT sm h01, e01, by show 2 ≤ sizeLine; decide, fun c hc => ?_⟩
          · have := gz.1
            rw [Str.length_append] at this
            rw [Int.zero_add]
            exact small (Nat.le_trans this (by decide))
          · refine qt _ _ _ rfl (same_upd hc) ⟨c, rfl, (fun z => by rw [z, hD] at hc; cases hc), ?_⟩
            rw [upd_same, Int.zero_add]
        · rw [fm_id] at hR
          have lr := hR.len
          rw [List.length_map, List.length_range] at lr
          refine ⟨pl, D, _, _, rfl, rfl, s1 _ _ hy, hD, by rw [lr]; exact small (by omega), fun y2 ny2 => ?_⟩
          have w2 := same_upd ny2 (o := .lst (ys ++ zs1'))
          have s2 := s1.trans w2
          have hy2 := upd_same (H := G1) (a := y2) (o := HO.lst (ys ++ zs1'))
          have hA2 : A2 (PlV K (upd G1 y2 (.lst (ys ++ zs1')))) (ys ++ zs1') (p.pl ++ (List.range 13).map fun i => (("yy" : Str) ++ Str.ofString (toString ((i : Nat) : Int)), q1.nm)) := A2.app (hR.mono fun _ _ z => PlV.lk (lk_of w2) (PlX.pl z)) (hY.mono fun _ _ z => PlV.lk (lk_of s2) z)
          generalize upd G1 y2 _ = G2 at s2 hy2 hA2
          refine ⟨_, rfl, .inl ⟨_, rfl, _, _, rfl, rfl, (by show (0 : Int) < 2; decide), _, _, rfl, rfl, _, rfl, y2, _, rfl, .of hy2, fun S nS => ?_⟩⟩
          rw [em1, K07.cut_to rfl]
          have hA3 := A2.take m1 hA2
          have w3 := same_upd nS (o := .lst ((ys ++ zs1').take m1))
          have s3 := s2.trans w3
          refine nx _ ⟨p.nm, p.po, p.inn, (p.pl ++ (List.range 13).map fun i => (("yy" : Str) ++ Str.ofString (toString ((i : Nat) : Int)), q1.nm)).take m1, p.ls, p.jo⟩ po inn S la jo none none none none none s3 (let z := L.same s3; ⟨z.h1, z.h2, ⟨_, upd_same, hA3.mono fun _ _ z => PlV.lk (lk_of w3) z⟩, z.h4, z.h5⟩)
            (let z := bq.mono (Nat.le_add_right n 21); ⟨z.nm, z.po, z.inn, ⟨by rw [List.length_take, List.length_append, List.length_map, List.length_range]; omega, fun x hx => ?_⟩, z.ls, z.jo⟩)
          rcases List.mem_append.mp (List.mem_of_mem_take hx) with h | h
          · exact bq.pl.2 x h
          · obtain ⟨i, hi, rfl⟩ := List.mem_map.mp h
            exact ⟨yy_gs ⟨i, List.mem_range.mp hi⟩, gq⟩
    obtain ⟨xs, hbx, hA⟩ := id hb
    have kl : 0 < bk.length := List.length_pos_iff.mpr ne
    have el := hA.len
    have d0 := la0 (ds := ds) (k := k) (many := (xs.length : Int)) (by omega)
    have d1 := la1 (ds := ds) (k := k) (many := (xs.length : Int)) (by omega)
    refine ⟨.ref a, rfl, _, rfl, .ref b, rfl, b, _, rfl, .inl (.of hbx), a, ds, k, _, rfl, ha, hk, by omega, ?_⟩
    obtain ⟨at_, ea⟩ : ∃ m : Nat, la ds k (xs.length : Int) = (m : Int) := ⟨_, (Int.toNat_of_nonneg d0).symm⟩
    rw [ea] at d1
    rw [ea]
    have hat : at_ < bk.length := by omega
    have hp : bk[at_]? = some bk[at_] := by simp [hat]
    have bq0 := bq _ (mem_at hp)
    obtain ⟨v, hv, hP⟩ := hA.get' hp
    generalize bk[at_] = p at hp bq0 hP
    obtain ⟨a2, po, inn, pl, la_, jo, rfl, h0, h1, h2, h3, h4, h5⟩ := id hP
    have L0 : PTL K H po inn pl la_ jo p := ⟨h1, h2, h3, h4, h5⟩
    have b1 := bq0.po.1
    have b2 := bq0.inn.1
    have b3 := bq0.pl.1
    refine ⟨.ref b, rfl, _, rfl, b, _, _, _, rfl, rfl, .of hbx, atI_nat hv, a2, _, rfl, h0, rfl, _, _, rfl, _, _, rfl, _, _, rfl, _, _, rfl, _, _, rfl, _, _, rfl, rfl, ?_⟩
    have e0 := la0 (ds := ds) (k := k + 2) (many := 60000) (by decide)
    refine ⟨.ref a, rfl, _, rfl, _, _, rfl, rfl, a, ds, _, _, rfl, ha, by omega, by decide, ?_⟩
    refine ⟨.ref a, rfl, _, rfl, _, _, rfl, rfl, a, ds, _, _, rfl, ha, by omega, by decide, ?_⟩
    generalize la ds (k + 1) 12 = wd_
    generalize la ds (k + 2) 60000 = cell at e0
    refine ⟨by show 8 ≤ sizeLine; decide, fun u0 m0 => ?_⟩
    have w0 := same_upd m0 (o := .lst [V.str "", V.str "A", V.str "1a", V.str "a.b", V.str "a_", V.str "abcdefghijklm", V.str "abcdefghijkl", V.str "-"])
    have k0 := upd_same (H := H) (a := u0) (o := HO.lst [V.str "", V.str "A", V.str "1a", V.str "a.b", V.str "a_", V.str "abcdefghijklm", V.str "abcdefghijkl", V.str "-"])
    generalize upd H u0 _ = G0 at w0 k0
    refine ⟨_, rfl, by show 7 ≤ sizeLine; decide, fun u1 m1 => ?_⟩
    have w1 := same_upd m1 (o := .lst [V.str "a'", V.str "a*b", V.str "a+b", V.str "a=b", V.str "~", V.str "a b", V.str "a\n"])
    have k1 := upd_same (H := G0) (a := u1) (o := HO.lst [V.str "a'", V.str "a*b", V.str "a+b", V.str "a=b", V.str "~", V.str "a b", V.str "a\n"])
    have k0 := w1 _ _ k0
    have s1 := w0.trans w1
    generalize upd G0 u1 _ = G1 at s1 k0 k1
    refine ⟨u0, u1, _, _, rfl, rfl, k0, k1, by show 8 + 7 ≤ sizeLine; decide, fun u2 m2 => ?_⟩
    have w2 := same_upd m2 (o := .lst ([V.str "", V.str "A", V.str "1a", V.str "a.b", V.str "a_", V.str "abcdefghijklm", V.str "abcdefghijkl", V.str "-"] ++ [V.str "a'", V.str "a*b", V.str "a+b", V.str "a=b", V.str "~", V.str "a b", V.str "a\n"]))
    have s2 := s1.trans w2
    obtain ⟨vb, hvb, mvb⟩ := K07.at_ex (xs := [V.str "", V.str "A", V.str "1a", V.str "a.b", V.str "a_", V.str "abcdefghijklm", V.str "abcdefghijkl", V.str "-"] ++ [V.str "a'", V.str "a*b", V.str "a+b", V.str "a=b", V.str "~", V.str "a b", V.str "a\n"]) (i := cell % 15) (by omega) (by show cell % 15 < 15; omega)
    have mb : ∃ s : Str, vb = .str s ∧ GS 20 s := by
      have lit : ∀ s : Str, gsB 20 s = true → ∃ s' : Str, V.str s = .str s' ∧ GS 20 s' := fun s h => ⟨s, rfl, gs_of h⟩
      simp only [List.cons_append, List.nil_append, List.mem_cons, List.not_mem_nil, or_false] at mvb
      rcases mvb with rfl | rfl | rfl | rfl | rfl | rfl | rfl | rfl | rfl | rfl | rfl | rfl | rfl | rfl | rfl
      all_goals exact lit _ (by decide +kernel)
    obtain ⟨bad, rfl, gb⟩ := mb
    refine ⟨_, rfl, .inl ⟨_, rfl, _, _, rfl, rfl, (by show (0 : Int) < 15; decide), u2, _, _, _, rfl, rfl, .of upd_same, hvb, ?_⟩⟩
    generalize upd G1 u2 _ = G2 at s2
    rw [show L2.start ["draws", "k", "book", "at", "name", "ports", "inner", "places", "laws", "joints", "word", "cell", "bad", "taken", "texts", "kind", "joint", "more", "place", "turn"] [V.ref a, V.int k, V.ref b] = [some (.ref a), some (.int k), some (.ref b), none, none, none, none, none, none, none, none, none, none, none, none, none, none, none, none, none] from rfl]
    dsimp only [List.set]
    -- what is taken
    refine ⟨_, rfl, by show 1 ≤ sizeLine; decide, fun z0 n0 => ?_⟩
    have x0 := same_upd n0 (o := .lst [V.str p.nm])
    have c0 : SL (upd G2 z0 (.lst [V.str p.nm])) z0 [p.nm] := upd_same
    have s3 := s2.trans x0
    generalize upd G2 z0 _ = G3 at s3 c0
    refine ⟨_, rfl, z0, po, _, _, rfl, rfl, c0, s3 _ _ h1, by rw [List.length_map, List.length_map]; exact small (by show 1 + _ ≤ 60000; omega), fun z1 n1 => ?_⟩
    have x1 := same_upd n1 (o := .lst ([p.nm].map V.str ++ p.po.map V.str))
    have c1 := cat_at (G := G3) (z := z1) [p.nm] p.po
    have s4 := s3.trans x1
    generalize upd G3 z1 _ = G4 at s4 c1
    refine ⟨_, rfl, z1, inn, _, _, rfl, rfl, c1, s4 _ _ h2, by rw [List.length_map, List.length_append, List.length_map]; exact small (by show 1 + _ + _ ≤ 60000; omega), fun z2 n2 => ?_⟩
    have x2 := same_upd n2 (o := .lst (([p.nm] ++ p.po).map V.str ++ p.inn.map V.str))
    have c2 := cat_at (G := G4) (z := z2) ([p.nm] ++ p.po) p.inn
    have s5 := s4.trans x2
    generalize upd G4 z2 _ = G5 at s5 c2
    obtain ⟨ys, hy, hY⟩ := h3
    have ly := hY.len
    refine ⟨_, rfl, pl, rfl, ⟨_, .of (s5 _ _ hy)⟩, fun D nD => ?_⟩
    refine lc_fm (walk_list (K := K) (a := pl) (xs := ys)) p.pl (fun x => some x.1) (fun _ v b => v = .str b) (fun _ _ _ _ _ z => z) hY.len.symm nD (fun H' s => .of (s _ _ (s5 _ _ hy))) (small' (by omega)) (fun i x G6 Gx ys2 l el sm3 hD y Qt Qf qt qf => ?_) (fun G6 zs3 sm3 hD hR => ?_)
    · obtain ⟨rfl, hx⟩ := y
      obtain ⟨pr, hpr, t, rfl, hq⟩ := hY.get hx
      obtain rfl := Option.some.inj (el.symm.trans hpr)
      exact ⟨rfl, _, rfl, t, _, _, _, rfl, rfl, Same.seqT (s5.trans sm3) hq, rfl, qt _ _ _ rfl (.refl _) rfl⟩
    rw [fm_id] at hR
    rw [a2_eq (f := V.str) hR] at hD
    have s6 := s5.trans sm3
    refine ⟨z2, D, _, _, rfl, rfl, sm3 _ _ c2, hD, by simp only [List.length_map, List.length_append, List.length_cons, List.length_nil]; exact small (by omega), fun z3 n3 => ?_⟩
    have x3 := same_upd n3 (o := .lst (([p.nm] ++ p.po ++ p.inn).map V.str ++ (p.pl.map (·.1)).map V.str))
    have c3 := cat_at (G := G6) (z := z3) ([p.nm] ++ p.po ++ p.inn) (p.pl.map (·.1))
    have s7 := s6.trans x3
    generalize upd G6 z3 _ = G7 at s7 c3
    refine ⟨by show 1 ≤ sizeLine; decide, fun z4 n4 => ?_⟩
    have x4 := same_upd n4 (o := .lst [V.str "new"])
    have c4 : SL (upd G7 z4 (.lst [V.str "new"])) z4 [("new" : Str)] := upd_same
    have c3 := SL.same x4 c3
    have s8 := s7.trans x4
    generalize upd G7 z4 _ = G8 at s8 c3 c4
    refine ⟨z3, z4, _, _, rfl, rfl, c3, c4, by simp only [List.length_map, List.length_append, List.length_cons, List.length_nil]; exact small (by omega), fun z5 n5 => ?_⟩
    have x5 := same_upd n5 (o := .lst (([p.nm] ++ p.po ++ p.inn ++ p.pl.map (·.1)).map V.str ++ [("new" : Str)].map V.str))
    have c5 := cat_at (G := G8) (z := z5) ([p.nm] ++ p.po ++ p.inn ++ p.pl.map (·.1)) [("new" : Str)]
    have s9 := s8.trans x5
    have lT : (([p.nm] ++ p.po ++ p.inn ++ p.pl.map (·.1) ++ [("new" : Str)]).map V.str).length = 1 + p.po.length + p.inn.length + p.pl.length + 1 := by simp only [List.length_map, List.length_append, List.length_cons, List.length_nil]
    generalize upd G8 z5 _ = G9 at s9 c5
    obtain ⟨vt, hvt, mvt⟩ := K07.at_ex (xs := ([p.nm] ++ p.po ++ p.inn ++ p.pl.map (·.1) ++ [("new" : Str)]).map V.str) (i := (cell / 8) % (2 + (p.po.length : Int))) (Int.emod_nonneg _ (by omega)) (by have := Int.emod_lt_of_pos (cell / 8) (show (0 : Int) < 2 + (p.po.length : Int) by omega); rw [lT]; omega)
    obtain ⟨taken, mt, rfl⟩ := List.mem_map.mp mvt
    have gt : GS 20 taken := by
      rcases List.mem_append.mp mt with mt | mt
      · rcases List.mem_append.mp mt with mt | mt
        · rcases List.mem_append.mp mt with mt | mt
          · rcases List.mem_append.mp mt with mt | mt
            · rw [List.mem_singleton.mp mt]; exact bq0.nm
            · exact bq0.po.2 _ mt
          · exact bq0.inn.2 _ mt
        · obtain ⟨x, hx, rfl⟩ := List.mem_map.mp mt
          exact (bq0.pl.2 x hx).1
      · rw [List.mem_singleton.mp mt]; exact gs_of (by decide +kernel)
    refine ⟨_, rfl, _, _, rfl, rfl, ⟨by decide, by decide⟩, .inl ⟨_, rfl, _, rfl, po, _, rfl, .inl (.of (s9 _ _ h1)), _, _, rfl, rfl, _, _, rfl, rfl, by rw [List.length_map]; omega, z5, _, _, _, rfl, rfl, .of c5, by rw [List.length_map]; exact hvt, ?_⟩⟩
    -- texts
    refine ⟨_, rfl, _, rfl, pl, rfl, ⟨_, .of (s9 _ _ hy)⟩, fun D2 nD2 => ?_⟩
    refine lc_fm (walk_list (K := K) (a := pl) (xs := ys)) p.pl (fun x => some (x.1 ++ (".p" : Str))) (fun _ v b => v = .str b) (fun _ _ _ _ _ z => z) hY.len.symm nD2 (fun H' s => .of (s _ _ (s9 _ _ hy))) (small' (by omega)) (fun i x G6 Gx ys2 l el sm3 hD y Qt Qf qt qf => ?_) (fun G10 zs4 sm4 hD2 hR2 => ?_)
    · obtain ⟨rfl, hx⟩ := y
      obtain ⟨pr, hpr, t, rfl, hq⟩ := hY.get hx
      obtain rfl := Option.some.inj (el.symm.trans hpr)
      have g1 := (bq0.pl.2 l (mem_at el)).1.1
      exact ⟨rfl, _, rfl, t, _, _, _, rfl, rfl, Same.seqT (s9.trans sm3) hq, rfl, _, _, rfl, rfl, small (by rw [show (".p" : Str).length = 2 from by decide +kernel]; omega), qt _ _ _ rfl (.refl _) rfl⟩
    rw [fm_id] at hR2
    rw [a2_eq (f := V.str) hR2] at hD2
    have s10 := s9.trans sm4
    refine ⟨po, D2, _, _, rfl, rfl, s10 _ _ h1, hD2, by simp only [List.length_map]; exact small (by omega), fun z6 n6 => ?_⟩
    have x6 := same_upd n6 (o := .lst (p.po.map V.str ++ (p.pl.map fun x => x.1 ++ (".p" : Str)).map V.str))
    have c6 := cat_at (G := G10) (z := z6) p.po (p.pl.map fun x => x.1 ++ (".p" : Str))
    have s11 := s10.trans x6
    generalize upd G10 z6 _ = G11 at s11 c6
    refine ⟨by show 2 ≤ sizeLine; decide, fun z7 n7 => ?_⟩
    have x7 := same_upd n7 (o := .lst [V.str "no", V.str "a.b.c"])
    have c7 : SL (upd G11 z7 (.lst [V.str "no", V.str "a.b.c"])) z7 [("no" : Str), ("a.b.c" : Str)] := upd_same
    have c6 := SL.same x7 c6
    have s12 := s11.trans x7
    generalize upd G11 z7 _ = G12 at s12 c6 c7
    refine ⟨z6, z7, _, _, rfl, rfl, c6, c7, by simp only [List.length_map, List.length_append, List.length_cons, List.length_nil]; exact small (by omega), fun tx ntx => ?_⟩
    have x8 := same_upd ntx (o := .lst ((p.po ++ p.pl.map fun x => x.1 ++ (".p" : Str)).map V.str ++ [("no" : Str), ("a.b.c" : Str)].map V.str))
    have c8 := cat_at (G := G12) (z := tx) (p.po ++ p.pl.map fun x => x.1 ++ (".p" : Str)) [("no" : Str), ("a.b.c" : Str)]
    have s13 := s12.trans x8
    generalize upd G12 tx _ = G13 at s13 c8
    have gtx : ∀ s ∈ (p.po ++ p.pl.map fun x => x.1 ++ (".p" : Str)) ++ [("no" : Str), ("a.b.c" : Str)], GS 60 s := fun s hs => by
      rcases List.mem_append.mp hs with hs | hs
      · rcases List.mem_append.mp hs with hs | hs
        · exact (bq0.po.2 s hs).up (by decide)
        · obtain ⟨x, hx, rfl⟩ := List.mem_map.mp hs
          exact (GS.cat (bq0.pl.2 x hx).1 (gs_of (n := 2) (by decide +kernel))).up (by decide)
      · simp only [List.mem_cons, List.not_mem_nil, or_false] at hs
        rcases hs with rfl | rfl
        · exact gs_of (by decide +kernel)
        · exact gs_of (by decide +kernel)
    refine ⟨a, b, po, inn, pl, la_, jo, tx, k, cell, wd_, n, at_, bk, p, bad, taken, (p.po ++ p.pl.map fun x => x.1 ++ (".p" : Str)) ++ [("no" : Str), ("a.b.c" : Str)], rfl, e0, n40, ⟨xs, s13 _ _ hbx, hA.mono fun _ _ z => z.same s13⟩, ne, lb, fun q hq => (bq q hq).nm, bq0, L0.same s13, gb, gt, c8, by simp, by simp only [List.length_map, List.length_append, List.length_cons, List.length_nil]; omega, gtx, fun G' p' po' inn' pl' la' jo' y15 y16 y17 y18 y19 sL L' bq' => ?_⟩
    have sG := s13.trans sL
    have hb1 := sG _ _ hbx
    have la21 : at_ ≤ 16 := by omega
    refine ⟨_, rfl, _, rfl, _, rfl, b, _, rfl, .of hb1, fun S nS => ?_⟩
    rw [K07.cut_to rfl]
    have y1 := same_upd nS (o := .lst (xs.take at_))
    have k1 := upd_same (H := G') (a := S) (o := HO.lst (xs.take at_))
    have t1 := sG.trans y1
    have L1 := L'.same y1
    generalize upd G' S _ = H1 at t1 k1 L1
    refine ⟨_, rfl, _, rfl, _, rfl, _, rfl, _, rfl, _, rfl, by show 6 ≤ sizeLine; decide, fun t nt => ?_⟩
    have y2 := same_upd nt (o := .tup [.str p'.nm, .ref po', .ref inn', .ref pl', .ref la', .ref jo'])
    have kt := upd_same (H := H1) (a := t) (o := HO.tup [.str p'.nm, .ref po', .ref inn', .ref pl', .ref la', .ref jo'])
    have k1 := y2 _ _ k1
    have t2 := t1.trans y2
    have L2' := L1.same y2
    generalize upd H1 t _ = H2 at t2 k1 kt L2'
    have hPT : PT K H2 (.ref t) p' := ⟨t, po', inn', pl', la', jo', rfl, .of kt, L2'.h1, L2'.h2, L2'.h3, L2'.h4, L2'.h5⟩
    refine ⟨by show 1 ≤ sizeLine; decide, fun z nz => ?_⟩
    have y3 := same_upd nz (o := .lst [V.ref t])
    have kz := upd_same (H := H2) (a := z) (o := HO.lst [V.ref t])
    have k1 := y3 _ _ k1
    have t3 := t2.trans y3
    have hPT := hPT.same y3
    generalize upd H2 z _ = H3 at t3 k1 kz hPT
    refine ⟨S, z, _, _, rfl, rfl, k1, kz, by rw [List.length_take]; exact small (by show _ + 1 ≤ 60000; omega), fun y ny => ?_⟩
    have y4 := same_upd ny (o := .lst (xs.take at_ ++ [V.ref t]))
    have ky := upd_same (H := H3) (a := y) (o := HO.lst (xs.take at_ ++ [V.ref t]))
    have t4 := t3.trans y4
    have hPT := hPT.same y4
    generalize upd H3 y _ = H4 at t4 ky hPT
    refine ⟨_, rfl, _, rfl, _, _, rfl, rfl, _, rfl, b, _, rfl, .of (t4 _ _ hbx), fun S2 nS2 => ?_⟩
    rw [cut_from (L := at_ + 1) (by omega)]
    have y5 := same_upd nS2 (o := .lst (xs.drop (at_ + 1)))
    have k5 := upd_same (H := H4) (a := S2) (o := HO.lst (xs.drop (at_ + 1)))
    have t5 := t4.trans y5
    have ky := y5 _ _ ky
    have hPT := hPT.same y5
    generalize upd H4 S2 _ = H5 at t5 ky k5 hPT
    refine ⟨y, S2, _, _, rfl, rfl, ky, k5, by rw [List.length_append, List.length_take, List.length_drop]; exact small (by show _ + 1 + _ ≤ 60000; omega), fun r nr => ?_⟩
    have y6 := same_upd nr (o := .lst (xs.take at_ ++ [V.ref t] ++ xs.drop (at_ + 1)))
    have t6 := t5.trans y6
    have hA6 := hA.mono fun _ _ z => PT.same t6 z
    refine q _ r (bk.take at_ ++ [p'] ++ bk.drop (at_ + 1)) t6 ⟨_, upd_same, A2.app (A2.drop _ hA6) (A2.app (.cons (hPT.same y6) .nil) (A2.take _ hA6))⟩ ?_ fun x hx => ?_
    · rw [List.length_append, List.length_append, List.length_take, List.length_drop]
      show min at_ bk.length + 1 + _ = _
      omega
    · rcases List.mem_append.mp hx with hx | hx
      · rcases List.mem_append.mp hx with hx | hx
        · exact (bq x (List.mem_of_mem_take hx)).mono (Nat.le_add_right n 21)
        · rw [List.mem_singleton.mp hx]; exact bq'
      · exact (bq x (List.mem_of_mem_drop hx)).mono (Nat.le_add_right n 21)
end
end K07Z
-- LA07
namespace K07Z
open PySem PySem.Spec PyProof.Rows L2 K07 TL
open K05 (wd)
/-! ### books as data, and drawn books as books -/
theorem gd_ss20 {ss : List Str} (n : ss.length ≤ 46) (g : ∀ x ∈ ss, GS 20 x) : Gd 4 9400 (dSs ss) := (Gd.list (GdAll.map (n := 202) fun x hx => Gd.str (g x hx))).mono (by decide) (by show ss.length * 204 + 2 ≤ _; omega)
theorem gd_q {p : Prt} (h : BQ 46 p) : Gd 5 705000 (dPt p) := by
  have h1 := gd_ss20 h.po.1 h.po.2
  have h2 := gd_ss20 h.inn.1 h.inn.2
  have h3 : Gd 4 20000 (.list (p.pl.map dPl)) := (Gd.list (GdAll.map (n := 412) fun x hx => (Gd.tup (.cons (Gd.str (h.pl.2 x hx).1) (.cons (Gd.str (h.pl.2 x hx).2) .nil))).mono (Nat.le_refl _) (by decide))).mono (by decide) (by have := h.pl.1; show p.pl.length * 414 + 2 ≤ _; omega)
  have h4 : Gd 4 553000 (.list (p.ls.map dLw)) := (Gd.list (GdAll.map fun l hl => gd_lw (h.ls.2 l hl))).mono (Nat.le_refl _) (by have := h.ls.1; show p.ls.length * 12002 + 2 ≤ _; omega)
  have hj : ∀ j ∈ p.jo, Gd 1 2418 (dSs j) := fun j hj => (Gd.list (GdAll.map (n := 602) fun x hx => gd_s ((h.jo.2 j hj).2 x hx))).mono (Nat.le_refl _) (by have := (h.jo.2 j hj).1; show j.length * 604 + 2 ≤ _; omega)
  have h5 : Gd 4 112000 (.list (p.jo.map dSs)) := (Gd.list (GdAll.map hj)).mono (by decide) (by have := h.jo.1; show p.jo.length * 2420 + 2 ≤ _; omega)
  exact (Gd.tup (.cons ((Gd.str h.nm).mono (by decide) (Nat.le_refl _)) (.cons h1 (.cons h2 (.cons h3 (.cons h4 (.cons h5 .nil))))))).mono (Nat.le_refl _) (by decide)
theorem gd_bk {bk : List Prt} (l : bk.length ≤ 16) (h : ∀ p ∈ bk, BQ 46 p) : Gd 6 12000000 (dBk bk) := (Gd.list (GdAll.map fun p hp => gd_q (h p hp))).mono (Nat.le_refl _) (by show bk.length * 705002 + 2 ≤ _; omega)
section
variable {K : PySem.W.Frag} {H : Hp}
theorem dp_ss {a : Addr} {ss : List Str} (h : SL H a ss) : Dp K H (.ref a) (dSs ss) := .lst (.of h) (dp_strs ss)
theorem dp_pl {v : V} {p : Str × Str} (h : PlV K H v p) : Dp K H v (dPl p) := by
  obtain ⟨a, rfl, q⟩ := h
  exact .tup q (.cons (.str _) (.cons (.str _) .nil))
theorem dp_jo {v : V} {j : List Str} (h : JoV H v j) : Dp K H v (dSs j) := by
  obtain ⟨a, rfl, q⟩ := h
  exact dp_ss q
theorem dp_pt {v : V} {p : Prt} (h : PT K H v p) : Dp K H v (dPt p) := by
  obtain ⟨a, po, inn, pl, la, jo, rfl, h0, h1, h2, ⟨ys, hy, hY⟩, ⟨zs, hz, hZ⟩, ⟨js, hj, hJ⟩⟩ := h
  exact .tup h0 (.cons (.str _) (.cons (dp_ss h1) (.cons (dp_ss h2) (.cons (.lst (.of hy) (dpAll_of (f := dPl) (fun _ _ => dp_pl) hY)) (.cons (.lst (.of hz) (dpAll_of (f := dLw) (fun _ _ => dp_lw) hZ)) (.cons (.lst (.of hj) (dpAll_of (f := dSs) (fun _ _ => dp_jo) hJ)) .nil))))))
theorem dp_bk {b : Addr} {bk : List Prt} (h : BK K H b bk) : Dp K H (.ref b) (dBk bk) := by
  obtain ⟨xs, hx, hA⟩ := h
  exact .lst (.of hx) (dpAll_of (f := dPt) (fun _ _ => dp_pt) hA)
end
/-- the orders as whole numbers -/
def toT (t : K07.Trm) : Trm := ⟨t.h, (t.k : Int), t.q⟩
def toL (l : K07.Lw) : Lw := ⟨l.ex, if l.ex then 0 else (l.k : Int), if l.ex then "" else l.q, l.ts.map toT, l.src⟩
def toP (p : K07.Prt) : Prt := ⟨p.nm, p.po, p.inn, p.pl, p.ls.map toL, p.jo⟩
theorem a2_to {α β γ : Type} {R : α → β → Prop} {S : α → γ → Prop} {f : β → γ} (h : ∀ a b, R a b → S a (f b)) : ∀ {as : List α} {bs : List β}, A2 R as bs → A2 S as (bs.map f)
  | _, _, .nil => .nil
  | _, _, .cons a t => .cons (h _ _ a) (a2_to h t)
section
variable {K : PySem.W.Frag} {H : Hp}
theorem to_lw {v : V} {l : K07.Lw} (h : K07.LW K H v l) : LW K H v (toL l) := by
  obtain ⟨a, p, rfl, ⟨xs, hx, hA⟩, hh⟩ := h
  have hT : TsL K H p (toL l).ts := ⟨xs, hx, a2_to (fun _ _ ⟨a, e, q⟩ => ⟨a, e, q⟩) hA⟩
  refine ⟨a, p, rfl, hT, ?_⟩
  rcases hh with ⟨e, q⟩ | ⟨e, q⟩
  · exact .inl ⟨e, q⟩
  · refine .inr ⟨e, ?_⟩
    show SqT K H a [.str "sized", .int (if l.ex then 0 else (l.k : Int)), .str (if l.ex then "" else l.q), .ref p, .str l.src]
    rw [e]
    exact q
theorem to_pt {v : V} {p : K07.Prt} (h : K07.PT K H v p) : PT K H v (toP p) := by
  obtain ⟨a, po, inn, pl, la, jo, rfl, h0, h1, h2, h3, ⟨zs, hz, hZ⟩, h5⟩ := h
  exact ⟨a, po, inn, pl, la, jo, rfl, h0, h1, h2, h3, ⟨zs, hz, a2_to (f := toL) (fun _ _ h => to_lw h) hZ⟩, h5⟩
theorem to_bk {b : Addr} {bk : List K07.Prt} (h : K07.BK K H b bk) : BK K H b (bk.map toP) := by
  obtain ⟨xs, hx, hA⟩ := h
  exact ⟨xs, hx, a2_to (f := toP) (fun _ _ h => to_pt h) hA⟩
end
theorem gs_z {n m : Nat} {s : Str} (h : K07.GS n s) (l : n ≤ m) : GS m s := ⟨Nat.le_trans h.1 l, h.2⟩
theorem pp_gs : ∀ n : Fin 9, K07.GS 9 (Txt.mul ("p" : Str) ((n.val : Nat) : Int)) := by decide +kernel
theorem bn_gs {s n i : Nat} (h : n < 9) : K07.GS 12 (bn s n i) := ((K07.GS.one (c := 97 + (i + s) % 12) (by omega)).add (pp_gs ⟨n, h⟩)).mono (by decide)
theorem to_bl {ow : List Str} (g : ∀ x ∈ ow, K07.GS 14 x) {l : K07.Lw} (h : VL ow l) : BL (toL l) := by
  have pt : ∀ t ∈ l.ts, t.k < 4 ∧ t.q ∈ ow := fun t ht => h.pl (t.k, t.q) (by
    unfold K07.Lw.places
    split
    · exact List.mem_map.mpr ⟨t, ht, rfl⟩
    · exact List.mem_cons_of_mem _ (List.mem_map.mpr ⟨t, ht, rfl⟩))
  refine ⟨fun t ht => ?_, ?_, fun e t ht => ?_, fun e t ht => ?_, ?_, ?_⟩
  · obtain ⟨t, ht2, rfl⟩ := List.mem_map.mp ht
    obtain ⟨a, b⟩ := pt t ht2
    exact ⟨by show ((t.k : Nat) : Int).natAbs < _; omega, gs_z (g _ b) (by decide)⟩
  · show (if l.ex then (0 : Int) else (l.k : Int)).natAbs < 10 ^ 8 ∧ GS 60 (if l.ex then "" else l.q)
    cases e : l.ex with
    | true => exact ⟨by show (0 : Int).natAbs < 10 ^ 8; decide, by show GS 60 ("" : Str); exact gs_of (by decide +kernel)⟩
    | false =>
      obtain ⟨a, b⟩ := h.pl (l.k, l.q) (by
        unfold K07.Lw.places
        rw [e]
        exact List.mem_cons_self)
      exact ⟨by show ((l.k : Nat) : Int).natAbs < _; have : l.k < 4 := a; omega, gs_z (g _ b) (by decide)⟩
  · obtain ⟨t, ht2, rfl⟩ := List.mem_map.mp ht
    obtain ⟨n, a, _, b⟩ := h.num e t ht2
    exact ⟨n, a, by omega⟩
  · obtain ⟨t, ht2, rfl⟩ := List.mem_map.mp ht
    obtain ⟨s, a, b⟩ := (h.nam e).2 t ht2
    exact ⟨s, a, gs_z b (by decide)⟩
  · show GS 60 l.src
    rcases h.src with e | e | e
    · rw [e]; exact gs_of (by decide +kernel)
    · rw [e]; exact gs_of (by decide +kernel)
    · rw [e]; exact gs_of (by decide +kernel)
  · show (l.ts.map toT).length ≤ 8
    rw [List.length_map]
    have := h.many
    omega
theorem to_bq {s n : Nat} {bk : List K07.Prt} (h : VB s n bk) : ∀ p ∈ bk.map toP, BQ 4 p := fun p hp => by
  obtain ⟨p, hp1, rfl⟩ := List.mem_map.mp hp
  clear hp
  have hp := hp1
  obtain ⟨i, hi⟩ := List.mem_iff_getElem?.mp hp
  have gn : ∀ x ∈ bk, K07.GS 12 x.nm := fun x hx => by
    obtain ⟨j, hj⟩ := List.mem_iff_getElem?.mp hx
    rw [h.nm j x hj]
    exact bn_gs h.hn
  obtain ⟨s', l, a, b, pk, hv⟩ := h.vp i p hi
  have hin : ∀ x ∈ pk, x.2 ∈ bk := fun x hx => List.mem_of_mem_take (hv.inb x hx)
  have gpo : ∀ x ∈ p.po, K07.GS 12 x := fun x hx => by
    rw [hv.po] at hx
    exact pool_gs hv.hl x (List.mem_of_mem_take hx)
  have ginn : ∀ x ∈ p.inn, K07.GS 12 x := fun x hx => by
    rw [hv.inn] at hx
    exact pool_gs hv.hl x (List.mem_of_mem_drop (List.mem_of_mem_take hx))
  have gpk : ∀ x ∈ pk, K07.GS 12 x.1 := fun x hx => by
    have : x.1 ∈ pk.map (·.1) := List.mem_map.mpr ⟨x, hx, rfl⟩
    rw [hv.nm] at this
    obtain ⟨j, hj, e⟩ := List.mem_map.mp this
    rw [← e]
    have := List.mem_range.mp hj
    have := hv.many
    exact pn_gs hv.hl (by omega)
  have hgo := K07.own_gs gpo ginn
  have ha := hv.ha
  have hb := hv.hb
  have hm := hv.many
  refine ⟨gs_z (gn p hp) (by decide), ⟨?_, fun x hx => gs_z (gpo x hx) (by decide)⟩, ⟨?_, fun x hx => gs_z (ginn x hx) (by decide)⟩, ⟨?_, fun x hx => ?_⟩, ⟨?_, fun x hx => ?_⟩, ⟨?_, fun j hj => ?_⟩⟩
  · show p.po.length ≤ 4
    rw [hv.po, List.length_take]; omega
  · show p.inn.length ≤ 4
    rw [hv.inn, List.length_take]; omega
  · show p.pl.length ≤ 4
    rw [hv.pl, List.length_map]; omega
  · have hx : x ∈ p.pl := hx
    rw [hv.pl] at hx
    obtain ⟨y, hy, rfl⟩ := List.mem_map.mp hx
    exact ⟨gs_z (gpk y hy) (by decide), gs_z (gn _ (hin y hy)) (by decide)⟩
  · show (p.ls.map toL).length ≤ 4
    rw [List.length_map]
    have := hv.ls.many
    omega
  · obtain ⟨y, hy, rfl⟩ := List.mem_map.mp hx
    exact to_bl hgo (hv.ls.ok y hy)
  · show p.jo.length ≤ 4
    have := hv.jm
    omega
  · obtain ⟨-, -, l4, hx⟩ := hv.jo j hj
    refine ⟨l4, fun t ht => ?_⟩
    rcases List.mem_append.mp (hx t ht) with ht | ht
    · exact gs_z (gpo t ht) (by decide)
    · obtain ⟨y, hy, ht⟩ := List.mem_flatMap.mp ht
      obtain ⟨q, hq, rfl⟩ := List.mem_map.mp ht
      obtain ⟨k, hk⟩ := List.mem_iff_getElem?.mp (hin y hy)
      obtain ⟨s2, l2, a2, b2, pk2, hv2⟩ := h.vp k _ hk
      have gq : K07.GS 12 q := (vp_po hv2).2 q hq
      exact gs_z (((gpk y hy).add (m := 1) ⟨by decide +kernel, by decide +kernel⟩).add gq) (by decide)
/-! ### what is told and what is due -/
def Res (bk : List Prt) : Option (Nat × Nat) → Prop
  | none => NoFault bk bk.length
  | some (f, n) => FirstF bk f n
theorem first_lt {bk : List Prt} {f n : Nat} (h : FirstF bk f n) : n < bk.length := by
  obtain ⟨p, hp, _⟩ := h
  exact (List.getElem?_eq_some_iff.mp hp).1
theorem first_uniq {bk : List Prt} {f n g m : Nat} (h : FirstF bk f n) (k : FirstF bk g m) : f = g ∧ n = m := by
  obtain ⟨p, hp, hf, hn⟩ := h
  obtain ⟨q, hq, hg, hm⟩ := k
  rcases Nat.lt_trichotomy n m with c | c | c
  · rw [hm n p c hp] at hf; cases hf
  · subst c
    obtain rfl := Option.some.inj (hp.symm.trans hq)
    exact ⟨Option.some.inj (hf.symm.trans hg), rfl⟩
  · rw [hn m q c hq] at hg; cases hg
theorem first_no {bk : List Prt} {f n : Nat} (h : FirstF bk f n) (k : NoFault bk bk.length) : False := by
  have l := first_lt h
  obtain ⟨p, hp, hf, _⟩ := h
  rw [k n p l hp] at hf
  cases hf
theorem res_uniq {bk : List Prt} : ∀ {r s : Option (Nat × Nat)}, Res bk r → Res bk s → r = s
  | none, none, _, _ => rfl
  | none, some (_, _), h, k => (first_no k h).elim
  | some (_, _), none, h, k => (first_no h k).elim
  | some (_, _), some (_, _), h, k => by obtain ⟨rfl, rfl⟩ := first_uniq h k; rfl
def RV (H : Hp) (v : V) : Option (Nat × Nat) → Prop
  | none => v = .non
  | some (f, n) => ∃ t, v = .ref t ∧ H t = some (.tup [.str (wordOf f), .int (n : Nat)])
def dRes : Option (Nat × Nat) → PyData
  | none => .none
  | some (f, n) => .tuple [.str (wordOf f), .int (n : Nat)]
theorem RV.same {H H' : Hp} (s : Same H H') {v : V} : ∀ {r : Option (Nat × Nat)}, RV H v r → RV H' v r
  | none, h => h
  | some _, ⟨t, e, q⟩ => ⟨t, e, s _ _ q⟩
theorem RV.dp {K : PySem.W.Frag} {H : Hp} {v : V} : ∀ {r : Option (Nat × Nat)}, RV H v r → Dp K H v (dRes r)
  | none, h => by rw [show v = .non from h]; exact .non
  | some _, ⟨t, e, q⟩ => by rw [e]; exact .tup (.of q) (.cons (.str _) (.cons (.int _) .nil))
theorem word_lay : ∀ f : Nat, (PyData.str (wordOf f)).canLay0 = true
  | 0 => by decide +kernel
  | 1 => by decide +kernel
  | 2 => by decide +kernel
  | 3 => by decide +kernel
  | 4 => by decide +kernel
  | 5 => by decide +kernel
  | _ + 6 => by show (PyData.str "same").canLay0 = true; decide +kernel
theorem res_lay : ∀ r : Option (Nat × Nat), (dRes r).canLay0 = true
  | none => rfl
  | some (f, n) => by
    show ((PyData.str (wordOf f)).canLay0 && ((PyData.int (n : Nat)).canLay0 && true)) = true
    rw [word_lay]; rfl
theorem res_shp : ∀ r : Option (Nat × Nat), SeqAt.shaped (dRes r) = true
  | none => by decide +kernel
  | some (f, n) => shaped_of (res_lay _) (by show max 0 (max 0 0) + 1 ≤ 64; decide)
theorem res_eq (r : Option (Nat × Nat)) : PyData.eqv (dRes r) (dRes r) = true := SeqAt.eqv_refl _ (res_lay r)
theorem told_of {bk : List Prt} {Ps : List Addr} {H : Hp} {Q : VK} (h : ∀ r v H', Res bk r → Lk H H' → TGs Ps H' → RV H' v r → Q v H') :
    (∀ f n, FirstF bk f n → ∀ H' t, Lk H H' → TGs Ps H' → H' t = some (.tup [.str (wordOf f), .int (n : Nat)]) → Q (.ref t) H') ∧ (NoFault bk bk.length → ∀ H', Lk H H' → TGs Ps H' → Q .non H') :=
  ⟨fun f n hf H' t lk tg ht => h (some (f, n)) _ _ hf lk tg ⟨t, rfl, ht⟩, fun nf H' lk tg => h none _ _ nf lk tg rfl⟩
theorem due_of {bk : List Prt} {H : Hp} {Q : VK} (h : ∀ r v H', Res bk r → Same H H' → RV H' v r → Q v H') :
    (∀ f n, FirstF bk f n → ∀ H' t, Same H H' → H' t = some (.tup [.str (wordOf f), .int (n : Nat)]) → Q (.ref t) H') ∧ (NoFault bk bk.length → ∀ H', Same H H' → Q .non H') :=
  ⟨fun f n hf H' t s ht => h (some (f, n)) _ _ hf s ⟨t, rfl, ht⟩, fun nf H' s => h none _ _ nf s rfl⟩
theorem bb_of {n : Nat} {bk : List Prt} (l : bk.length ≤ 16) (h : ∀ p ∈ bk, BQ n p) (hn : n ≤ 64) : BB bk := ⟨l, fun p hp => (h p hp).bp hn⟩
theorem bb_nil : BB [] := ⟨by decide, fun p hp => by cases hp⟩
theorem nof_nil : NoFault [] 0 := fun j p h => by omega
theorem eleven_all : ∀ i : Fin 14, gsB 20 (("m" : Str) ++ Str.ofString (toString ((i.val : Nat) : Int))) = true := by decide +kernel
theorem mm_gs {i : Nat} (h : i < 14) : GS 20 (("m" : Str) ++ Str.ofString (toString ((i : Nat) : Int))) := gs_of (eleven_all ⟨i, h⟩)
/-- an empty part, not the list D itself -/
def PX (D : Addr) (H : Hp) (v : V) (p : Prt) : Prop := ∃ a po inn pl la jo nm, v = .ref a ∧ p = ⟨nm, [], [], [], [], []⟩ ∧ a ≠ D ∧ po ≠ D ∧ inn ≠ D ∧ pl ≠ D ∧ la ≠ D ∧ jo ≠ D ∧
  H a = some (.tup [.str nm, .ref po, .ref inn, .ref pl, .ref la, .ref jo]) ∧ H po = some (.lst []) ∧ H inn = some (.lst []) ∧ H pl = some (.lst []) ∧ H la = some (.lst []) ∧ H jo = some (.lst [])
theorem PX.mono {D : Addr} (H H' : Hp) (v : V) (p : Prt) (s : SameX D H H') (h : PX D H v p) : PX D H' v p := by
  obtain ⟨a, po, inn, pl, la, jo, nm, e, e2, n0, n1, n2, n3, n4, n5, h0, h1, h2, h3, h4, h5⟩ := h
  exact ⟨a, po, inn, pl, la, jo, nm, e, e2, n0, n1, n2, n3, n4, n5, s _ _ n0 h0, s _ _ n1 h1, s _ _ n2 h2, s _ _ n3 h3, s _ _ n4 h4, s _ _ n5 h5⟩
theorem PX.pt {K : PySem.W.Frag} {D : Addr} {H : Hp} {v : V} {p : Prt} (h : PX D H v p) : PT K H v p := by
  obtain ⟨a, po, inn, pl, la, jo, nm, e, rfl, -, -, -, -, -, -, h0, h1, h2, h3, h4, h5⟩ := h
  exact ⟨a, po, inn, pl, la, jo, e, .of h0, h1, h2, ⟨[], h3, .nil⟩, ⟨[], h4, .nil⟩, ⟨[], h5, .nil⟩⟩
end K07Z
-- LB07
namespace K07Z
open PySem PySem.Spec PyProof.Rows L2 K07 TL
open K05 (wd)
/-! ### the law -/
/-- a drawn book, or one of empty parts -/
def TSl (K : PySem.W.Frag) (Ps : List Addr) : TS := fun Dn σ G => ∃ (a da b : Addr) (ds : List Int) (bk : List Prt), σ = [some (.ref a), some (.ref da), some (.ref b), none, none, none] ∧ IL G da ds ∧ BK K G b bk ∧ bk.length ≤ 11 ∧ (∀ p ∈ bk, BQ 4 p) ∧ TGs Ps G ∧
  ∀ (G' : Hp) (b' : Addr) (bk' : List Prt) (x3 : Option V), Same G G' → BK K G' b' bk' → bk'.length ≤ 13 → (∀ p ∈ bk', BQ 4 p) → Dn.nx [some (.ref a), some (.ref da), some (.ref b'), x3, none, none] G'
theorem dF {A B : Prop} {c : Bool} (h : c = false) (b : B) : if c = true then A else B := by rw [if_neg (by rw [h]; decide)]; exact b
/-- a spoilt book, once or twice -/
def TSm (K : PySem.W.Frag) (Ps : List Addr) : TS := fun Dn σ G => ∃ (a da b b1 : Addr) (i : Int) (kept : Str) (ds : List Int) (bk : List Prt), σ = [some (.ref a), some (.ref da), some (.ref b), some (.int i), some (.str kept), some (.ref b1)] ∧ IL G da ds ∧ 0 ≤ i ∧ i ≤ 10 ∧ BK K G b1 bk ∧ bk ≠ [] ∧ bk.length ≤ 13 ∧ (∀ p ∈ bk, BQ 25 p) ∧
  ∀ (G' : Hp) (b' : Addr) (bk' : List Prt), Same G G' → BK K G' b' bk' → bk'.length ≤ 13 → (∀ p ∈ bk', BQ 46 p) → Dn.nx [some (.ref a), some (.ref da), some (.ref b), some (.int i), some (.str kept), some (.ref b')] G'
section
variable {P : Program} {w : World} {K : PySem.W.Frag} {mg : Str → Option Value} {base : Heap}
theorem Lk.il {H H' : Hp} (s : Lk H H') {a : Addr} {ns : List Int} (h : IL H a ns) : IL H' a ns := s.lst h
def sp_told2 (K : PySem.W.Frag) (Ps : List Addr) : Sp := fun vs H Q _ => ∃ (b : Addr) (bk : List Prt), vs = [.ref b] ∧ BK K H b bk ∧ BB bk ∧ TGs Ps H ∧ ∀ r v H', Res bk r → Lk H H' → TGs Ps H' → RV H' v r → Q v H'
def sp_due2 (K : PySem.W.Frag) : Sp := fun vs H Q _ => ∃ (b : Addr) (bk : List Prt), vs = [.ref b] ∧ BK K H b bk ∧ BB bk ∧ ∀ r v H', Res bk r → Same H H' → RV H' v r → Q v H'
theorem told2 {Ps : List Addr} {vs : List V} {H : Hp} {Q : VK} {E : XK} (h : sp_told2 K Ps vs H Q E) : sp_law_told K Ps vs H Q E := let ⟨b, bk, e, hb, bb, tg, h⟩ := h; ⟨b, bk, e, hb, bb, tg, told_of h⟩
theorem due2 {vs : List V} {H : Hp} {Q : VK} {E : XK} (h : sp_due2 K vs H Q E) : sp_law_due K vs H Q E := let ⟨b, bk, e, hb, bb, h⟩ := h; ⟨b, bk, e, hb, bb, due_of h⟩
theorem ok_told2 (T : Txt K mg) (X : Errs K mg) {Ps : List Addr} (TB : Tbs base T Ps) : FnOk P w K mg base CX0 9 T.law_told.a T.law_told.fd ["book"] (sp_told2 K Ps) :=
  ⟨fun vs H Q E h => (ok_law_told (P := P) (w := w) T X TB).len vs H Q E (told2 h), fun A ou s H ar us vs Q E a b c d h => (ok_law_told T X TB).run A ou s H ar us vs Q E a b c d (told2 h)⟩
theorem ok_due2 (T : Txt K mg) : FnOk P w K mg base CX0 4 T.law_due.a T.law_due.fd ["book"] (sp_due2 K) :=
  ⟨fun vs H Q E h => (ok_law_due (P := P) (w := w) (base := base) T).len vs H Q E (due2 h), fun A ou s H ar us vs Q E a b c d h => (ok_law_due T).run A ou s H ar us vs Q E a b c d (due2 h)⟩
def sp_law (K : PySem.W.Frag) (P1 P2 P3 P4 P5 P6 : Addr) : Sp := fun vs H Q _ => ∃ (a : Addr) (ns : List Int), vs = [.ref a] ∧ SqL K H a (ns.map V.int) ∧ ns.length ≤ 63 ∧ GxR.TabG H P1 ∧ GxR.TabG H P2 ∧ GxR.TabG H P3 ∧ GxR.TabG H P4 ∧ GxR.TabG H P5 ∧ GxR.TabG H P6 ∧ ∀ H', Q (.bl true) H'
theorem ok_law (T : Txt K mg) (X : Errs K mg) {P1 P2 P3 P4 P5 P6 : Addr} (B1 : GxR.TabB base mg T.is_in_range.c P1) (B2 : GxR.TabB base mg T.is_word.c P2) (B3 : GxR.TabB base mg T.is_named.c P3) (B4 : GxR.TabB base mg T.is_too_long.c P4) (B5 : GxR.TabB base mg T.has_unknown_name.c P5) (B6 : GxR.TabB base mg T.check_part.c P6) : LG.FnG P w K mg base CX0 10 T.law.a T.law.fd ["script"] (sp_law K P1 P2 P3 P4 P5 P6) := by
  let TB : Tbs base T [P1, P2, P3, P4, P5, P6] := ⟨P1, P2, P3, P4, P5, P6, B1, B2, B3, B4, B5, B6, by simp, by simp, by simp, by simp, by simp, by simp⟩
  refine LG.fun_okG T.law.F sc_law (fun vs H Q E h => ?_) (fun cdv A outer s H vs Q E hr gd h => ?_)
  · obtain ⟨a, ns, rfl, _⟩ := h
    rfl
  · obtain ⟨a, ns, rfl, ha, hl, t1, t2, t3, t4, t5, t6, q⟩ := h
    have tg : TGs [P1, P2, P3, P4, P5, P6] H := fun P hP => by
      simp only [List.mem_cons, List.not_mem_nil, or_false] at hP
      rcases hP with rfl | rfl | rfl | rfl | rfl | rfl
      · exact t1
      · exact t2
      · exact t3
      · exact t4
      · exact t5
      · exact t6
    refine ⟨_, (pss_cons (ps_set (i := 1) sc_law.nd rfl (.inl rfl) (pe_call (ok_law_draws T) (hr.mono (by decide)) (by rfl) T.law_draws.g T.law_draws.F.kp T.law_draws.b .nil pass0 (pa_cons (pv 0) pa_nil)))
      (pss_cons (ps_set (i := 2) sc_law.nd rfl (.inl rfl) (pe_call (ok_law_book T) (hr.mono (by decide)) (by rfl) T.law_book.g T.law_book.F.kp T.law_book.b .nil pass0 (pa_cons (pv 1) (pa_cons pe_int (pa_cons pe_int pa_nil)))))
      (pss_cons (K07.ps_via (t' := TSl K [P1, P2, P3, P4, P5, P6]) (ps_if (pt_cmpR op_eq (pe_call (ok_law_at T) (hr.mono (by decide)) (by rfl) T.law_at.g T.law_at.F.kp T.law_at.b .nil pass0 (pa_cons (pv 1) (pa_cons pe_int (pa_cons pe_int pa_nil)))) pe_int (nomark _))
        (pss_one (ps_setLc (i := 2) (own := [("turn", 3)]) rfl sc_law.nd rfl rfl (sw_true rfl rfl rfl (by decide +kernel)) (pi_range1 (by rfl) T.m_range (pa_cons (pe_op op_add pe_int (pe_call (ok_law_at T) (hr.mono (by decide)) (by rfl) T.law_at.g T.law_at.F.kp T.law_at.b .nil pass0 (pa_cons (pv 1) (pa_cons pe_int (pa_cons pe_int pa_nil))))) pa_nil)) (blkOk_by (N := ["script", "draws", "book", "turn", "kept", "other"]) (sc := defScope s_law) (by decide +kernel)) (fun _ _ _ _ _ => (pg_name (i := 3) sc_law.nd rfl (.inl rfl))) (fun _ _ _ _ _ => pts_nil) (fun _ _ _ _ _ => (pe_tup (pa_cons (pe_op op_add_str pe_str (pe_callTy call_str_int (by rfl) T.m_str (by decide +kernel) (pa_cons (pv 3) pa_nil))) (pa_cons (pe_lst pa_nil) (pa_cons (pe_lst pa_nil) (pa_cons (pe_lst pa_nil) (pa_cons (pe_lst pa_nil) (pa_cons (pe_lst pa_nil) pa_nil))))))))))
        pss_nil) ?vias)
      (pss_cons (ps_set (i := 4) sc_law.nd rfl (.inl rfl) (pe_callB (LG.call_reprD gd hr.units) (by rfl) T.m_repr (by decide +kernel) (pa_cons (pv 2) pa_nil)))
      (pss_cons (ps_if (PW.pt (pw_or (pt_cmpR (op_neD hr.units) (pe_call (ok_told2 T X TB) (hr.mono (by decide)) (by rfl) T.law_told.g T.law_told.F.kp T.law_told.b .nil pass0 (pa_cons (pv 2) pa_nil)) (pe_call (ok_due2 T) (hr.mono (by decide)) (by rfl) T.law_due.g T.law_due.F.kp T.law_due.b .nil pass0 (pa_cons (pv 2) pa_nil)) (nomark _)) (pw_or1 (pt_cmpR op_ne (pe_callB (LG.call_reprD gd hr.units) (by rfl) T.m_repr (by decide +kernel) (pa_cons (pv 2) pa_nil)) (pv 4) (nomark _)))))
        (pss_one (ps_ret pe_bl))
        pss_nil)
      (pss_cons (ps_for PassesOwn.never rfl (pi_range1 (by rfl) T.m_range (pa_cons (pe_op op_mul pe_int (pe_callTy call_int1 (by rfl) T.m_int (by decide +kernel) (pa_cons (pe_cmpR op_gt (pe_callB call_len_seq (by rfl) T.m_len (by decide +kernel) (pa_cons (pv 2) pa_nil)) pe_int (nomark _)) pa_nil))) pa_nil)) (pg_name (i := 3) sc_law.nd rfl (.inl rfl))
        (pss_cons (ps_set (i := 5) sc_law.nd rfl (.inl rfl) (pe_call (ok_law_spoilt T) (hr.mono (by decide)) (by rfl) T.law_spoilt.g T.law_spoilt.F.kp T.law_spoilt.b .nil pass0 (pa_cons (pv 1) (pa_cons (pe_op op_add pe_int (pe_op op_mul pe_int (pv 3))) (pa_cons (pv 2) pa_nil)))))
        (pss_cons (K07.ps_via (t' := TSm K [P1, P2, P3, P4, P5, P6]) (ps_if (pt_cmpR op_eq (pe_call (ok_law_at T) (hr.mono (by decide)) (by rfl) T.law_at.g T.law_at.F.kp T.law_at.b .nil pass0 (pa_cons (pv 1) (pa_cons (pe_op op_add pe_int (pv 3)) (pa_cons pe_int pa_nil)))) pe_int (nomark _))
          (pss_one (ps_set (i := 5) sc_law.nd rfl (.inl rfl) (pe_call (ok_law_spoilt T) (hr.mono (by decide)) (by rfl) T.law_spoilt.g T.law_spoilt.F.kp T.law_spoilt.b .nil pass0 (pa_cons (pv 1) (pa_cons (pe_op op_add pe_int (pe_op op_mul pe_int (pv 3))) (pa_cons (pv 5) pa_nil))))))
          pss_nil) ?viam)
        (pss_cons (ps_set (i := 4) sc_law.nd rfl (.inl rfl) (pe_callB (LG.call_reprD gd hr.units) (by rfl) T.m_repr (by decide +kernel) (pa_cons (pv 5) pa_nil)))
        (pss_one (ps_if (PW.pt (pw_or (pt_cmpR (op_neD hr.units) (pe_call (ok_told2 T X TB) (hr.mono (by decide)) (by rfl) T.law_told.g T.law_told.F.kp T.law_told.b .nil pass0 (pa_cons (pv 5) pa_nil)) (pe_call (ok_due2 T) (hr.mono (by decide)) (by rfl) T.law_due.g T.law_due.F.kp T.law_due.b .nil pass0 (pa_cons (pv 5) pa_nil)) (nomark _)) (pw_or1 (pt_cmpR op_ne (pe_callB (LG.call_reprD gd hr.units) (by rfl) T.m_repr (by decide +kernel) (pa_cons (pv 5) pa_nil)) (pv 4) (nomark _)))))
          (pss_one (ps_ret pe_bl))
          pss_nil))))))
      (pss_one (ps_ret (pe_and (pe_cmpR (op_eqD hr.units) (pe_call (ok_told2 T X TB) (hr.mono (by decide)) (by rfl) T.law_told.g T.law_told.F.kp T.law_told.b .nil pass0 (pa_cons (pv 2) pa_nil)) (pe_call (ok_due2 T) (hr.mono (by decide)) (by rfl) T.law_due.g T.law_due.F.kp T.law_due.b .nil pass0 (pa_cons (pv 2) pa_nil)) (nomark _)) (pe_one (pe_cmpR op_isN (pe_call (ok_check_book T X TB) (hr.mono (by decide)) (by rfl) T.check_book.g T.check_book.F.kp T.check_book.b .nil (L2N.passes_call HX.takes0N fun _ _ _ _ h => h) (pa_cons (pe_lst pa_nil) pa_nil)) pe_non (nomark _)))))))))))), ?_⟩
    case viam =>
      intro Dn σ G h
      obtain ⟨a, da, b, b1, i, kept, ds, bk, rfl, hd, i0, i1, hb, ne, lb, bq, nx⟩ := h
      refine ⟨.ref da, rfl, _, rfl, _, _, rfl, rfl, da, ds, _, _, rfl, hd, by omega, by decide, rfl, _, rfl, ite2 (fun c => ?_) (fun c => ?_)⟩
      · refine ⟨.ref da, rfl, _, rfl, _, _, rfl, rfl, .inl ⟨by omega, by decide⟩, _, _, rfl, rfl, .ref b1, rfl, da, b1, ds, _, bk, 25, rfl, hd, by omega, hb, ne, by omega, by decide, bq, fun G1 b' bk' s1 hb' lb' bq' => ?_⟩
        exact nx G1 b' bk' s1 hb' (by omega) bq'
      · exact nx G b1 bk (.refl _) hb lb fun p hp => (bq p hp).mono (by decide)
    case vias =>
      intro Dn σ G h
      obtain ⟨a, da, b, ds, bk, rfl, hd, hb, lb, bq, tg, nx⟩ := h
      refine ⟨.ref da, rfl, da, ds, _, _, rfl, hd, by decide, by decide, rfl, _, rfl, ite2 (fun c => ?_) (fun c => ?_)⟩
      · have b0 := la0 (ds := ds) (k := 0) (many := 3) (by decide)
        have b1 := la1 (ds := ds) (k := 0) (many := 3) (by decide)
        obtain ⟨m, em⟩ : ∃ m : Nat, 11 + la ds 0 3 = (m : Int) := ⟨(11 + la ds 0 3).toNat, by omega⟩
        have m14 : m ≤ 13 := by omega
        refine ⟨.ref da, rfl, da, ds, _, _, rfl, hd, by decide, by decide, _, _, rfl, rfl, m, by show [V.int (11 + la ds 0 3)] = _; rw [em], by omega, by omega, fun D nD => ?_⟩
        refine lc_fm (walk_range (lo := 0) (n := m)) (List.range m) (fun i => some (⟨("m" : Str) ++ Str.ofString (toString ((i : Nat) : Int)), [], [], [], [], []⟩ : Prt)) (PX D) PX.mono (by simp) nD (fun _ _ => trivial) (small' (by omega)) (fun i x G1 Hx ys2 l el sm hD y Qt Qf qt qf => ?_) (fun G1 zs s1 hD hR => ?_)
        · obtain ⟨rfl, rfl⟩ := y
          have hi : i < m := by
            have := (List.getElem?_eq_some_iff.mp el).1
            simpa using this
          have el2 : l = i := by
            have := (List.getElem?_eq_some_iff.mp el).2
            simpa using this.symm
          subst el2
          have gz := mm_gs (i := l) (by omega)
          have el : (0 + (l : Nat) : Int) = (l : Nat) := Int.zero_add _
          refine ⟨rfl, _, rfl, (0 + (l : Nat) : Int), rfl, by rw [el]; exact log_small (by omega), _, _, rfl, rfl, ?_, by show 0 ≤ sizeLine; decide, fun a1 f1 => ⟨by show 0 ≤ sizeLine; decide, fun a2 f2 => ⟨by show 0 ≤ sizeLine; decide, fun a3 f3 => ⟨by show 0 ≤ sizeLine; decide, fun a4 f4 => ⟨by show 0 ≤ sizeLine; decide, fun a5 f5 => ⟨by show 6 ≤ sizeLine; decide, fun a6 f6 => ?_⟩⟩⟩⟩⟩⟩
          · have := gz.1
            rw [Str.length_append] at this
            rw [el]
            exact small (Nat.le_trans this (by decide))
          · rw [el]
            have nn : ∀ {H' : Hp} {c : Addr}, Same Hx H' → H' c = none → c ≠ D := fun s z e => by rw [e, s _ _ hD] at z; cases z
            have u1 := same_upd f1 (o := .lst [])
            have u2 := u1.trans (same_upd f2 (o := .lst []))
            have u3 := u2.trans (same_upd f3 (o := .lst []))
            have u4 := u3.trans (same_upd f4 (o := .lst []))
            have u5 := u4.trans (same_upd f5 (o := .lst []))
            have w6 := same_upd f6 (o := .tup [.str (("m" : Str) ++ Str.ofString (toString ((l : Nat) : Int))), .ref a1, .ref a2, .ref a3, .ref a4, .ref a5])
            have w5 := (same_upd f5 (o := .lst [])).trans w6
            have w4 := (same_upd f4 (o := .lst [])).trans w5
            have w3 := (same_upd f3 (o := .lst [])).trans w4
            have w2 := (same_upd f2 (o := .lst [])).trans w3
            exact qt _ _ _ rfl (u5.trans w6) ⟨a6, a1, a2, a3, a4, a5, _, rfl, rfl, nn u5 f6, nn (.refl _) f1, nn u1 f2, nn u2 f3, nn u3 f4, nn u4 f5, upd_same, w2 _ _ upd_same, w3 _ _ upd_same, w4 _ _ upd_same, w5 _ _ upd_same, w6 _ _ upd_same⟩
        · rw [fm_id] at hR
          have lr := hR.len
          rw [List.length_map, List.length_range] at lr
          exact nx G1 D _ _ s1 ⟨zs, hD, hR.mono fun _ _ z => z.pt⟩ (by rw [List.length_map, List.length_range]; exact m14) fun p hp => by
            obtain ⟨i, hi, rfl⟩ := List.mem_map.mp hp
            have := List.mem_range.mp hi
            exact ⟨mm_gs (by omega), ⟨Nat.zero_le _, fun _ z => by cases z⟩, ⟨Nat.zero_le _, fun _ z => by cases z⟩, ⟨Nat.zero_le _, fun _ z => by cases z⟩, ⟨Nat.zero_le _, fun _ z => by cases z⟩, ⟨Nat.zero_le _, fun _ z => by cases z⟩⟩
      · exact nx G b bk none (.refl _) hb (by omega) bq
    refine ⟨.ref a, rfl, a, ns, rfl, ha, hl, fun H1 d0 ds0 s1 n1 hd0 hl0 => ?_⟩
    refine ⟨.ref d0, rfl, d0, ds0, 0, 4, rfl, hd0, by decide, by decide, by decide, fun H2 b kb sb nb s2 fb hbk vb lb => ?_⟩
    have hb := to_bk (hbk H2 fun _ _ _ h => h)
    have tg2 := (tg.same s1).same s2
    refine ⟨a, d0, b, ds0, kb.map toP, rfl, hd0.same s2, hb, by rw [List.length_map]; exact vb.many, to_bq vb, tg2, fun H3 b bk x3 s3 hb lb bq => ?_⟩
    have hd3 := (hd0.same s2).same s3
    have tg3 := tg2.same s3
    have bb := bb_of (by omega) bq (by decide)
    have g := gd_bk (bk := bk) (by omega) fun p hp => (bq p hp).mono (by decide)
    have gd0 := PyData.hasDict_of_canLay _ g.lay
    refine ⟨.ref b, rfl, b, dBk bk, rfl, dp_bk hb, g.sh, gd0, Nat.le_trans g.dep (by decide), Nat.le_trans g.len (by decide), ?_⟩
    generalize hkept : (dBk bk).shown = kept
    refine ⟨.ref b, rfl, b, bk, rfl, hb, bb, tg3, fun r v G hr lk tgG rv => ?_⟩
    have hbG := hb.lk lk
    refine ⟨.ref b, rfl, b, bk, rfl, hbG, bb, fun r2 v2 G2 hr2 s4 rv2 => ?_⟩
    obtain rfl := res_uniq hr hr2
    refine ⟨dRes r, dRes r, (rv.same s4).dp, rv2.dp, res_shp r, res_shp r, _, rfl, dF (by rw [res_eq]; rfl) ?_⟩
    have hb2 := hbG.same s4
    refine ⟨.ref b, rfl, b, dBk bk, rfl, dp_bk hb2, g.sh, gd0, Nat.le_trans g.dep (by decide), Nat.le_trans g.len (by decide), _, rfl, rfl, _, rfl, ?_⟩
    rw [hkept, decide_eq_true rfl]
    refine iteF ?_
    obtain ⟨xs, hx, hA⟩ := id hb2
    have el := hA.len
    obtain ⟨u, eu, u1, u2⟩ : ∃ u : Nat, (if decide ((0 : Int) < (xs.length : Nat)) = true then (1 : Int) else 0) = (u : Nat) ∧ u ≤ 1 ∧ (0 < u → bk ≠ []) := by
      cases bk with
      | nil => exact ⟨0, by rw [el]; rfl, by decide, fun h => by omega⟩
      | cons p r => exact ⟨1, by rw [el]; exact if_pos (decide_eq_true (by rw [List.length_cons]; omega)), by decide, fun _ h => by cases h⟩
    refine ⟨.ref b, rfl, b, xs, rfl, .inl (.of hx), _, _, rfl, rfl, .inr ⟨_, rfl, ?_⟩⟩
    rw [eu]
    refine ⟨_, _, rfl, rfl, .inl ⟨by decide, by omega⟩, 5 * u, by show [V.int (5 * (u : Nat))] = [V.int ((5 * u : Nat) : Int)]; rw [Int.natCast_mul]; rfl, by omega, by omega, ?_⟩
    have lk2 := lk.trans (lk_of s4)
    refine for_range (n := 5 * u) (lo := 0) (fun i σ G => Lk H3 G ∧ TGs [P1, P2, P3, P4, P5, P6] G ∧ ∃ (k : Str) (x3 x5 : Option V), σ = [some (.ref a), some (.ref d0), some (.ref b), x3, some (.str k), x5]) ⟨lk2, tgG.same s4, kept, _, none, rfl⟩ (fun i σ G hi hP => ?_) (fun σ G hP => ?_)
    · obtain ⟨kk, tgg, k, y3, y5, rfl⟩ := hP
      have ne : bk ≠ [] := u2 (by omega)
      refine ⟨.ref d0, rfl, _, rfl, _, _, rfl, rfl, .inl ⟨by omega, by decide⟩, _, _, rfl, rfl, .ref b, rfl, d0, b, ds0, _, bk, 4, rfl, Lk.il kk hd3, by omega, hb.lk kk, ne, by omega, by decide, bq, fun G1 b' bk' s5 hb' lb' bq' => ?_⟩
      refine ⟨a, d0, b, b', _, k, ds0, bk', rfl, (Lk.il kk hd3).same s5, by omega, by omega, hb', (fun z => ne (List.length_eq_zero_iff.mp (by rw [← lb', z]; rfl))), by omega, bq', fun G2' b2 bk2 s6 hbx lbx bqx => ?_⟩
      have bb2 := bb_of (by omega) bqx (by decide)
      have g2 := gd_bk (bk := bk2) (by omega) bqx
      have gd2 := PyData.hasDict_of_canLay _ g2.lay
      refine ⟨.ref b2, rfl, b2, dBk bk2, rfl, dp_bk hbx, g2.sh, gd2, Nat.le_trans g2.dep (by decide), Nat.le_trans g2.len (by decide), ?_⟩
      generalize hkept2 : (dBk bk2).shown = kept2
      refine ⟨.ref b2, rfl, b2, bk2, rfl, hbx, bb2, (tgg.same s5).same s6, fun r' v' G3 hr' lk' tg' rv' => ?_⟩
      have hbx3 := hbx.lk lk'
      refine ⟨.ref b2, rfl, b2, bk2, rfl, hbx3, bb2, fun r2 v2 G4 hr2' s7 rv2' => ?_⟩
      obtain rfl := res_uniq hr' hr2'
      refine ⟨dRes r', dRes r', (rv'.same s7).dp, rv2'.dp, res_shp r', res_shp r', _, rfl, dF (by rw [res_eq]; rfl) ?_⟩
      refine ⟨.ref b2, rfl, b2, dBk bk2, rfl, dp_bk (hbx3.same s7), g2.sh, gd2, Nat.le_trans g2.dep (by decide), Nat.le_trans g2.len (by decide), _, rfl, rfl, _, rfl, ?_⟩
      rw [hkept2, decide_eq_true rfl]
      exact iteF ⟨(((kk.trans (lk_of s5)).trans (lk_of s6)).trans lk').trans (lk_of s7), tg'.same s7, _, _, _, rfl⟩
    · obtain ⟨kk, tgg, k, y3, y5, rfl⟩ := hP
      refine ⟨.ref b, rfl, b, bk, rfl, hb.lk kk, bb, tgg, fun r' v' G' hr' lk' tg' rv' => ?_⟩
      refine ⟨.ref b, rfl, b, bk, rfl, (hb.lk kk).lk lk', bb, fun r2 v2 G2' hr2' s4' rv2' => ?_⟩
      obtain rfl := res_uniq hr' hr2'
      refine ⟨dRes r', dRes r', (rv'.same s4').dp, rv2'.dp, res_shp r', res_shp r', ?_⟩
      rw [res_eq]
      refine ⟨_, rfl, ?_⟩
      rw [if_pos rfl]
      refine ⟨by show 0 ≤ sizeLine; decide, fun e1 f1 => ?_⟩
      refine ⟨e1, [], rfl, ⟨[], upd_same, .nil⟩, bb_nil, (tg'.same s4').same (same_upd f1), fun f n hf => ?_, fun _ G5 lk5 tg5 => ?_⟩
      · have := first_lt hf
        exact absurd this (Nat.not_lt_zero _)
      · exact ⟨rfl, q _⟩
end

section
/-- the facts of the text, from what stands behind the top -/
theorem all_mk {l : PySem.W.OpenLaw} {w : World} {K : PySem.W.Frag} {h : Heap} {mg : Str → Option Value} {fa : Addr} (X : K.In h) (G : h.Ns mainGlobals mg) (hfa : mg "law" = some (.ref fa))
    {f0 : Addr} {od0 an0 : Option Addr} {sl0 : Array (Option Value)} {oc0 kV0 dc0 pm0 cd0 ct0 : Value}
    {f1 : Addr} {od1 an1 : Option Addr} {sl1 : Array (Option Value)} {oc1 kV1 dc1 pm1 cd1 ct1 : Value}
    {f2 : Addr} {od2 an2 : Option Addr} {sl2 : Array (Option Value)} {oc2 kV2 dc2 pm2 cd2 ct2 : Value}
    {f3 : Addr} {od3 an3 : Option Addr} {sl3 : Array (Option Value)} {oc3 kV3 dc3 pm3 cd3 ct3 : Value}
    {f4 : Addr} {od4 an4 : Option Addr} {sl4 : Array (Option Value)} {oc4 kV4 dc4 pm4 cd4 ct4 : Value}
    {f5 : Addr} {od5 an5 : Option Addr} {sl5 : Array (Option Value)} {oc5 kV5 dc5 pm5 cd5 ct5 : Value}
    {f6 : Addr} {od6 an6 : Option Addr} {sl6 : Array (Option Value)} {oc6 kV6 dc6 pm6 cd6 ct6 : Value}
    {f7 C7 P7 : Addr} {od7 an7 td7 : Option Addr} {sl7 tl7 : Array (Option Value)} {tv7 : Array Value} {oc7 kV7 dc7 pm7 ct7 te7 : Value}
    {f8 C8 P8 : Addr} {od8 an8 td8 : Option Addr} {sl8 tl8 : Array (Option Value)} {tv8 : Array Value} {oc8 kV8 dc8 pm8 ct8 te8 : Value}
    {f9 : Addr} {od9 an9 : Option Addr} {sl9 : Array (Option Value)} {oc9 kV9 dc9 pm9 cd9 ct9 : Value}
    {f10 : Addr} {od10 an10 : Option Addr} {sl10 : Array (Option Value)} {oc10 kV10 dc10 pm10 cd10 ct10 : Value}
    {f11 : Addr} {od11 an11 : Option Addr} {sl11 : Array (Option Value)} {oc11 kV11 dc11 pm11 cd11 ct11 : Value}
    {f12 : Addr} {od12 an12 : Option Addr} {sl12 : Array (Option Value)} {oc12 kV12 dc12 pm12 cd12 ct12 : Value}
    {f13 : Addr} {od13 an13 : Option Addr} {sl13 : Array (Option Value)} {oc13 kV13 dc13 pm13 cd13 ct13 : Value}
    {f14 C14 P14 : Addr} {od14 an14 td14 : Option Addr} {sl14 tl14 : Array (Option Value)} {tv14 : Array Value} {oc14 kV14 dc14 pm14 ct14 te14 : Value}
    {f15 C15 P15 : Addr} {od15 an15 td15 : Option Addr} {sl15 tl15 : Array (Option Value)} {tv15 : Array Value} {oc15 kV15 dc15 pm15 ct15 te15 : Value}
    {f16 : Addr} {od16 an16 : Option Addr} {sl16 : Array (Option Value)} {oc16 kV16 dc16 pm16 cd16 ct16 : Value}
    {f17 C17 P17 : Addr} {od17 an17 td17 : Option Addr} {sl17 tl17 : Array (Option Value)} {tv17 : Array Value} {oc17 kV17 dc17 pm17 ct17 te17 : Value}
    {f18 C18 P18 : Addr} {od18 an18 td18 : Option Addr} {sl18 tl18 : Array (Option Value)} {tv18 : Array Value} {oc18 kV18 dc18 pm18 ct18 te18 : Value}
    {f19 : Addr} {od19 an19 : Option Addr} {sl19 : Array (Option Value)} {oc19 kV19 dc19 pm19 cd19 ct19 : Value}
    {f20 : Addr} {od20 an20 : Option Addr} {sl20 : Array (Option Value)} {oc20 kV20 dc20 pm20 cd20 ct20 : Value}
    {f21 : Addr} {od21 an21 : Option Addr} {sl21 : Array (Option Value)} {oc21 kV21 dc21 pm21 cd21 ct21 : Value}
    {f22 : Addr} {od22 an22 : Option Addr} {sl22 : Array (Option Value)} {oc22 kV22 dc22 pm22 cd22 ct22 : Value}
    {f23 : Addr} {od23 an23 : Option Addr} {sl23 : Array (Option Value)} {oc23 kV23 dc23 pm23 cd23 ct23 : Value}
    {f24 : Addr} {od24 an24 : Option Addr} {sl24 : Array (Option Value)} {oc24 kV24 dc24 pm24 cd24 ct24 : Value}
    {f25 : Addr} {od25 an25 : Option Addr} {sl25 : Array (Option Value)} {oc25 kV25 dc25 pm25 cd25 ct25 : Value}
    {f26 : Addr} {od26 an26 : Option Addr} {sl26 : Array (Option Value)} {oc26 kV26 dc26 pm26 cd26 ct26 : Value}
    {f27 : Addr} {od27 an27 : Option Addr} {sl27 : Array (Option Value)} {oc27 kV27 dc27 pm27 cd27 ct27 : Value}
    {f28 : Addr} {od28 an28 : Option Addr} {sl28 : Array (Option Value)} {oc28 kV28 dc28 pm28 cd28 ct28 : Value}
    {f29 : Addr} {od29 an29 : Option Addr} {sl29 : Array (Option Value)} {oc29 kV29 dc29 pm29 cd29 ct29 : Value}
    {f30 : Addr} {od30 an30 : Option Addr} {sl30 : Array (Option Value)} {oc30 kV30 dc30 pm30 cd30 ct30 : Value}
    {f31 : Addr} {od31 an31 : Option Addr} {sl31 : Array (Option Value)} {oc31 kV31 dc31 pm31 cd31 ct31 : Value}
    {f32 : Addr} {od32 an32 : Option Addr} {sl32 : Array (Option Value)} {oc32 kV32 dc32 pm32 cd32 ct32 : Value}
    {f33 : Addr} {od33 an33 : Option Addr} {sl33 : Array (Option Value)} {oc33 kV33 dc33 pm33 cd33 ct33 : Value}
    {f34 : Addr} {od34 an34 : Option Addr} {sl34 : Array (Option Value)} {oc34 kV34 dc34 pm34 cd34 ct34 : Value}
    {f35 : Addr} {od35 an35 : Option Addr} {sl35 : Array (Option Value)} {oc35 kV35 dc35 pm35 cd35 ct35 : Value}
    {f36 : Addr} {od36 an36 : Option Addr} {sl36 : Array (Option Value)} {oc36 kV36 dc36 pm36 cd36 ct36 : Value}
    {f37 : Addr} {od37 an37 : Option Addr} {sl37 : Array (Option Value)} {oc37 kV37 dc37 pm37 cd37 ct37 : Value}
    {q_LETTERS : Tok}
    {q_MOST_NUMBER : Tok}
    {q_MOST_ORDER : Tok}
    {q_MOST_PARTS : Tok}
    {q_SIGNS : Tok}
    {CM fI : Addr} {odI anI : Option Addr} {slI : Array (Option Value)} {ocI kVI dcI pmI cdI ctI : Value}
    {e0_C e0_N : Addr} {e0_nm e0_q e0_nk : Str} {e0_tk : Tok} {e0_bs : List Value} {e0_sn : List Str} {e0_sub : List Value} {e0_ab : Bool} {e0_col : Option Bool} {e0_dd : Option Addr} {e0_m0 e0_m1 e0_m3 e0_m5 : Option Value}
    {e1_C e1_N : Addr} {e1_nm e1_q e1_nk : Str} {e1_tk : Tok} {e1_bs : List Value} {e1_sn : List Str} {e1_sub : List Value} {e1_ab : Bool} {e1_col : Option Bool} {e1_dd : Option Addr} {e1_m0 e1_m1 e1_m3 e1_m5 : Option Value}
    {e2_C e2_N : Addr} {e2_nm e2_q e2_nk : Str} {e2_tk : Tok} {e2_bs : List Value} {e2_sn : List Str} {e2_sub : List Value} {e2_ab : Bool} {e2_col : Option Bool} {e2_dd : Option Addr} {e2_m0 e2_m1 e2_m3 e2_m5 : Option Value}
    {e3_C e3_N : Addr} {e3_nm e3_q e3_nk : Str} {e3_tk : Tok} {e3_bs : List Value} {e3_sn : List Str} {e3_sub : List Value} {e3_ab : Bool} {e3_col : Option Bool} {e3_dd : Option Addr} {e3_m0 e3_m1 e3_m3 e3_m5 : Option Value}
    {e4_C e4_N : Addr} {e4_nm e4_q e4_nk : Str} {e4_tk : Tok} {e4_bs : List Value} {e4_sn : List Str} {e4_sub : List Value} {e4_ab : Bool} {e4_col : Option Bool} {e4_dd : Option Addr} {e4_m0 e4_m1 e4_m3 e4_m5 : Option Value}
    {e5_C e5_N : Addr} {e5_nm e5_q e5_nk : Str} {e5_tk : Tok} {e5_bs : List Value} {e5_sn : List Str} {e5_sub : List Value} {e5_ab : Bool} {e5_col : Option Bool} {e5_dd : Option Addr} {e5_m0 e5_m1 e5_m3 e5_m5 : Option Value}
    {e6_C e6_N : Addr} {e6_nm e6_q e6_nk : Str} {e6_tk : Tok} {e6_bs : List Value} {e6_sn : List Str} {e6_sub : List Value} {e6_ab : Bool} {e6_col : Option Bool} {e6_dd : Option Addr} {e6_m0 e6_m1 e6_m3 e6_m5 : Option Value}
    (a0 : PySem.W.nsIn K mainGlobals "_wording" = some (some (.ref f0))) (l0 : K.lookup f0 = some ⟨oc0, od0, .func (PySem.W.fnOf "_wording" "_wording" (defArgs s_wording) (defBody s_wording) (defScope s_wording) .none kV0 dc0 pm0 an0 cd0 ct0), sl0⟩) (c0 : PySem.W.codeIn K cd0 "_wording" = true) (k0 : PySem.W.keepIn K (.ref f0) = true)
    (a1 : PySem.W.nsIn K mainGlobals "is_exact" = some (some (.ref f1))) (l1 : K.lookup f1 = some ⟨oc1, od1, .func (PySem.W.fnOf "is_exact" "is_exact" (defArgs s_is_exact) (defBody s_is_exact) (defScope s_is_exact) .none kV1 dc1 pm1 an1 cd1 ct1), sl1⟩) (c1 : PySem.W.codeIn K cd1 "is_exact" = true) (k1 : PySem.W.keepIn K (.ref f1) = true)
    (a2 : PySem.W.nsIn K mainGlobals "terms_of" = some (some (.ref f2))) (l2 : K.lookup f2 = some ⟨oc2, od2, .func (PySem.W.fnOf "terms_of" "terms_of" (defArgs s_terms_of) (defBody s_terms_of) (defScope s_terms_of) .none kV2 dc2 pm2 an2 cd2 ct2), sl2⟩) (c2 : PySem.W.codeIn K cd2 "terms_of" = true) (k2 : PySem.W.keepIn K (.ref f2) = true)
    (a3 : PySem.W.nsIn K mainGlobals "source_of" = some (some (.ref f3))) (l3 : K.lookup f3 = some ⟨oc3, od3, .func (PySem.W.fnOf "source_of" "source_of" (defArgs s_source_of) (defBody s_source_of) (defScope s_source_of) .none kV3 dc3 pm3 an3 cd3 ct3), sl3⟩) (c3 : PySem.W.codeIn K cd3 "source_of" = true) (k3 : PySem.W.keepIn K (.ref f3) = true)
    (a4 : PySem.W.nsIn K mainGlobals "sizes_in" = some (some (.ref f4))) (l4 : K.lookup f4 = some ⟨oc4, od4, .func (PySem.W.fnOf "sizes_in" "sizes_in" (defArgs s_sizes_in) (defBody s_sizes_in) (defScope s_sizes_in) .none kV4 dc4 pm4 an4 cd4 ct4), sl4⟩) (c4 : PySem.W.codeIn K cd4 "sizes_in" = true) (k4 : PySem.W.keepIn K (.ref f4) = true)
    (a5 : PySem.W.nsIn K mainGlobals "places_of" = some (some (.ref f5))) (l5 : K.lookup f5 = some ⟨oc5, od5, .func (PySem.W.fnOf "places_of" "places_of" (defArgs s_places_of) (defBody s_places_of) (defScope s_places_of) .none kV5 dc5 pm5 an5 cd5 ct5), sl5⟩) (c5 : PySem.W.codeIn K cd5 "places_of" = true) (k5 : PySem.W.keepIn K (.ref f5) = true)
    (a6 : PySem.W.nsIn K mainGlobals "has_twice" = some (some (.ref f6))) (l6 : K.lookup f6 = some ⟨oc6, od6, .func (PySem.W.fnOf "has_twice" "has_twice" (defArgs s_has_twice) (defBody s_has_twice) (defScope s_has_twice) .none kV6 dc6 pm6 an6 cd6 ct6), sl6⟩) (c6 : PySem.W.codeIn K cd6 "has_twice" = true) (k6 : PySem.W.keepIn K (.ref f6) = true)
    (a7 : PySem.W.nsIn K mainGlobals "is_in_range" = some (some (.ref f7))) (l7 : K.lookup f7 = some ⟨oc7, od7, .func (PySem.W.fnOf "is_in_range" "is_in_range" (defArgs s_is_in_range) (defBody s_is_in_range) (defScope s_is_in_range) .none kV7 dc7 pm7 an7 (.ref C7) ct7), sl7⟩) (c7 : PySem.W.codeIn K (.ref C7) "is_in_range" = true) (k7 : PySem.W.keepIn K (.ref f7) = true)
    (t7 : K.lookup C7 = some ⟨te7, td7, .fields tv7, tl7⟩) (p7 : tv7[11]? = some (.ref P7)) (n7 : K.lookup P7 = none)
    (a8 : PySem.W.nsIn K mainGlobals "_is_word" = some (some (.ref f8))) (l8 : K.lookup f8 = some ⟨oc8, od8, .func (PySem.W.fnOf "_is_word" "_is_word" (defArgs s_is_word) (defBody s_is_word) (defScope s_is_word) .none kV8 dc8 pm8 an8 (.ref C8) ct8), sl8⟩) (c8 : PySem.W.codeIn K (.ref C8) "_is_word" = true) (k8 : PySem.W.keepIn K (.ref f8) = true)
    (t8 : K.lookup C8 = some ⟨te8, td8, .fields tv8, tl8⟩) (p8 : tv8[11]? = some (.ref P8)) (n8 : K.lookup P8 = none)
    (a9 : PySem.W.nsIn K mainGlobals "is_part_name" = some (some (.ref f9))) (l9 : K.lookup f9 = some ⟨oc9, od9, .func (PySem.W.fnOf "is_part_name" "is_part_name" (defArgs s_is_part_name) (defBody s_is_part_name) (defScope s_is_part_name) .none kV9 dc9 pm9 an9 cd9 ct9), sl9⟩) (c9 : PySem.W.codeIn K cd9 "is_part_name" = true) (k9 : PySem.W.keepIn K (.ref f9) = true)
    (a10 : PySem.W.nsIn K mainGlobals "own_names" = some (some (.ref f10))) (l10 : K.lookup f10 = some ⟨oc10, od10, .func (PySem.W.fnOf "own_names" "own_names" (defArgs s_own_names) (defBody s_own_names) (defScope s_own_names) .none kV10 dc10 pm10 an10 cd10 ct10), sl10⟩) (c10 : PySem.W.codeIn K cd10 "own_names" = true) (k10 : PySem.W.keepIn K (.ref f10) = true)
    (a11 : PySem.W.nsIn K mainGlobals "part_sizes" = some (some (.ref f11))) (l11 : K.lookup f11 = some ⟨oc11, od11, .func (PySem.W.fnOf "part_sizes" "part_sizes" (defArgs s_part_sizes) (defBody s_part_sizes) (defScope s_part_sizes) .none kV11 dc11 pm11 an11 cd11 ct11), sl11⟩) (c11 : PySem.W.codeIn K cd11 "part_sizes" = true) (k11 : PySem.W.keepIn K (.ref f11) = true)
    (a12 : PySem.W.nsIn K mainGlobals "own_quantities" = some (some (.ref f12))) (l12 : K.lookup f12 = some ⟨oc12, od12, .func (PySem.W.fnOf "own_quantities" "own_quantities" (defArgs s_own_quantities) (defBody s_own_quantities) (defScope s_own_quantities) .none kV12 dc12 pm12 an12 cd12 ct12), sl12⟩) (c12 : PySem.W.codeIn K cd12 "own_quantities" = true) (k12 : PySem.W.keepIn K (.ref f12) = true)
    (a13 : PySem.W.nsIn K mainGlobals "port_texts" = some (some (.ref f13))) (l13 : K.lookup f13 = some ⟨oc13, od13, .func (PySem.W.fnOf "port_texts" "port_texts" (defArgs s_port_texts) (defBody s_port_texts) (defScope s_port_texts) .none kV13 dc13 pm13 an13 cd13 ct13), sl13⟩) (c13 : PySem.W.codeIn K cd13 "port_texts" = true) (k13 : PySem.W.keepIn K (.ref f13) = true)
    (a14 : PySem.W.nsIn K mainGlobals "_is_named" = some (some (.ref f14))) (l14 : K.lookup f14 = some ⟨oc14, od14, .func (PySem.W.fnOf "_is_named" "_is_named" (defArgs s_is_named) (defBody s_is_named) (defScope s_is_named) .none kV14 dc14 pm14 an14 (.ref C14) ct14), sl14⟩) (c14 : PySem.W.codeIn K (.ref C14) "_is_named" = true) (k14 : PySem.W.keepIn K (.ref f14) = true)
    (t14 : K.lookup C14 = some ⟨te14, td14, .fields tv14, tl14⟩) (p14 : tv14[11]? = some (.ref P14)) (n14 : K.lookup P14 = none)
    (a15 : PySem.W.nsIn K mainGlobals "_is_too_long" = some (some (.ref f15))) (l15 : K.lookup f15 = some ⟨oc15, od15, .func (PySem.W.fnOf "_is_too_long" "_is_too_long" (defArgs s_is_too_long) (defBody s_is_too_long) (defScope s_is_too_long) .none kV15 dc15 pm15 an15 (.ref C15) ct15), sl15⟩) (c15 : PySem.W.codeIn K (.ref C15) "_is_too_long" = true) (k15 : PySem.W.keepIn K (.ref f15) = true)
    (t15 : K.lookup C15 = some ⟨te15, td15, .fields tv15, tl15⟩) (p15 : tv15[11]? = some (.ref P15)) (n15 : K.lookup P15 = none)
    (a16 : PySem.W.nsIn K mainGlobals "_has_taken_name" = some (some (.ref f16))) (l16 : K.lookup f16 = some ⟨oc16, od16, .func (PySem.W.fnOf "_has_taken_name" "_has_taken_name" (defArgs s_has_taken_name) (defBody s_has_taken_name) (defScope s_has_taken_name) .none kV16 dc16 pm16 an16 cd16 ct16), sl16⟩) (c16 : PySem.W.codeIn K cd16 "_has_taken_name" = true) (k16 : PySem.W.keepIn K (.ref f16) = true)
    (a17 : PySem.W.nsIn K mainGlobals "_has_unknown_name" = some (some (.ref f17))) (l17 : K.lookup f17 = some ⟨oc17, od17, .func (PySem.W.fnOf "_has_unknown_name" "_has_unknown_name" (defArgs s_has_unknown_name) (defBody s_has_unknown_name) (defScope s_has_unknown_name) .none kV17 dc17 pm17 an17 (.ref C17) ct17), sl17⟩) (c17 : PySem.W.codeIn K (.ref C17) "_has_unknown_name" = true) (k17 : PySem.W.keepIn K (.ref f17) = true)
    (t17 : K.lookup C17 = some ⟨te17, td17, .fields tv17, tl17⟩) (p17 : tv17[11]? = some (.ref P17)) (n17 : K.lookup P17 = none)
    (a18 : PySem.W.nsIn K mainGlobals "_check_part" = some (some (.ref f18))) (l18 : K.lookup f18 = some ⟨oc18, od18, .func (PySem.W.fnOf "_check_part" "_check_part" (defArgs s_check_part) (defBody s_check_part) (defScope s_check_part) .none kV18 dc18 pm18 an18 (.ref C18) ct18), sl18⟩) (c18 : PySem.W.codeIn K (.ref C18) "_check_part" = true) (k18 : PySem.W.keepIn K (.ref f18) = true)
    (t18 : K.lookup C18 = some ⟨te18, td18, .fields tv18, tl18⟩) (p18 : tv18[11]? = some (.ref P18)) (n18 : K.lookup P18 = none)
    (a19 : PySem.W.nsIn K mainGlobals "check_book" = some (some (.ref f19))) (l19 : K.lookup f19 = some ⟨oc19, od19, .func (PySem.W.fnOf "check_book" "check_book" (defArgs s_check_book) (defBody s_check_book) (defScope s_check_book) .none kV19 dc19 pm19 an19 cd19 ct19), sl19⟩) (c19 : PySem.W.codeIn K cd19 "check_book" = true) (k19 : PySem.W.keepIn K (.ref f19) = true)
    (a20 : PySem.W.nsIn K mainGlobals "_law_draws" = some (some (.ref f20))) (l20 : K.lookup f20 = some ⟨oc20, od20, .func (PySem.W.fnOf "_law_draws" "_law_draws" (defArgs s_law_draws) (defBody s_law_draws) (defScope s_law_draws) .none kV20 dc20 pm20 an20 cd20 ct20), sl20⟩) (c20 : PySem.W.codeIn K cd20 "_law_draws" = true) (k20 : PySem.W.keepIn K (.ref f20) = true)
    (a21 : PySem.W.nsIn K mainGlobals "_law_at" = some (some (.ref f21))) (l21 : K.lookup f21 = some ⟨oc21, od21, .func (PySem.W.fnOf "_law_at" "_law_at" (defArgs s_law_at) (defBody s_law_at) (defScope s_law_at) .none kV21 dc21 pm21 an21 cd21 ct21), sl21⟩) (c21 : PySem.W.codeIn K cd21 "_law_at" = true) (k21 : PySem.W.keepIn K (.ref f21) = true)
    (a22 : PySem.W.nsIn K mainGlobals "_law_pool" = some (some (.ref f22))) (l22 : K.lookup f22 = some ⟨oc22, od22, .func (PySem.W.fnOf "_law_pool" "_law_pool" (defArgs s_law_pool) (defBody s_law_pool) (defScope s_law_pool) .none kV22 dc22 pm22 an22 cd22 ct22), sl22⟩) (c22 : PySem.W.codeIn K cd22 "_law_pool" = true) (k22 : PySem.W.keepIn K (.ref f22) = true)
    (a23 : PySem.W.nsIn K mainGlobals "_law_own" = some (some (.ref f23))) (l23 : K.lookup f23 = some ⟨oc23, od23, .func (PySem.W.fnOf "_law_own" "_law_own" (defArgs s_law_own) (defBody s_law_own) (defScope s_law_own) .none kV23 dc23 pm23 an23 cd23 ct23), sl23⟩) (c23 : PySem.W.codeIn K cd23 "_law_own" = true) (k23 : PySem.W.keepIn K (.ref f23) = true)
    (a24 : PySem.W.nsIn K mainGlobals "_law_part_laws" = some (some (.ref f24))) (l24 : K.lookup f24 = some ⟨oc24, od24, .func (PySem.W.fnOf "_law_part_laws" "_law_part_laws" (defArgs s_law_part_laws) (defBody s_law_part_laws) (defScope s_law_part_laws) .none kV24 dc24 pm24 an24 cd24 ct24), sl24⟩) (c24 : PySem.W.codeIn K cd24 "_law_part_laws" = true) (k24 : PySem.W.keepIn K (.ref f24) = true)
    (a25 : PySem.W.nsIn K mainGlobals "_law_part" = some (some (.ref f25))) (l25 : K.lookup f25 = some ⟨oc25, od25, .func (PySem.W.fnOf "_law_part" "_law_part" (defArgs s_law_part) (defBody s_law_part) (defScope s_law_part) .none kV25 dc25 pm25 an25 cd25 ct25), sl25⟩) (c25 : PySem.W.codeIn K cd25 "_law_part" = true) (k25 : PySem.W.keepIn K (.ref f25) = true)
    (a26 : PySem.W.nsIn K mainGlobals "_law_book" = some (some (.ref f26))) (l26 : K.lookup f26 = some ⟨oc26, od26, .func (PySem.W.fnOf "_law_book" "_law_book" (defArgs s_law_book) (defBody s_law_book) (defScope s_law_book) .none kV26 dc26 pm26 an26 cd26 ct26), sl26⟩) (c26 : PySem.W.codeIn K cd26 "_law_book" = true) (k26 : PySem.W.keepIn K (.ref f26) = true)
    (a27 : PySem.W.nsIn K mainGlobals "_law_is_simple" = some (some (.ref f27))) (l27 : K.lookup f27 = some ⟨oc27, od27, .func (PySem.W.fnOf "_law_is_simple" "_law_is_simple" (defArgs s_law_is_simple) (defBody s_law_is_simple) (defScope s_law_is_simple) .none kV27 dc27 pm27 an27 cd27 ct27), sl27⟩) (c27 : PySem.W.codeIn K cd27 "_law_is_simple" = true) (k27 : PySem.W.keepIn K (.ref f27) = true)
    (a28 : PySem.W.nsIn K mainGlobals "_law_sizes" = some (some (.ref f28))) (l28 : K.lookup f28 = some ⟨oc28, od28, .func (PySem.W.fnOf "_law_sizes" "_law_sizes" (defArgs s_law_sizes) (defBody s_law_sizes) (defScope s_law_sizes) .none kV28 dc28 pm28 an28 cd28 ct28), sl28⟩) (c28 : PySem.W.codeIn K cd28 "_law_sizes" = true) (k28 : PySem.W.keepIn K (.ref f28) = true)
    (a29 : PySem.W.nsIn K mainGlobals "_law_places_of" = some (some (.ref f29))) (l29 : K.lookup f29 = some ⟨oc29, od29, .func (PySem.W.fnOf "_law_places_of" "_law_places_of" (defArgs s_law_places_of) (defBody s_law_places_of) (defScope s_law_places_of) .none kV29 dc29 pm29 an29 cd29 ct29), sl29⟩) (c29 : PySem.W.codeIn K cd29 "_law_places_of" = true) (k29 : PySem.W.keepIn K (.ref f29) = true)
    (a30 : PySem.W.nsIn K mainGlobals "_law_range" = some (some (.ref f30))) (l30 : K.lookup f30 = some ⟨oc30, od30, .func (PySem.W.fnOf "_law_range" "_law_range" (defArgs s_law_range) (defBody s_law_range) (defScope s_law_range) .none kV30 dc30 pm30 an30 cd30 ct30), sl30⟩) (c30 : PySem.W.codeIn K cd30 "_law_range" = true) (k30 : PySem.W.keepIn K (.ref f30) = true)
    (a31 : PySem.W.nsIn K mainGlobals "_law_doubles" = some (some (.ref f31))) (l31 : K.lookup f31 = some ⟨oc31, od31, .func (PySem.W.fnOf "_law_doubles" "_law_doubles" (defArgs s_law_doubles) (defBody s_law_doubles) (defScope s_law_doubles) .none kV31 dc31 pm31 an31 cd31 ct31), sl31⟩) (c31 : PySem.W.codeIn K cd31 "_law_doubles" = true) (k31 : PySem.W.keepIn K (.ref f31) = true)
    (a32 : PySem.W.nsIn K mainGlobals "_law_part_fault" = some (some (.ref f32))) (l32 : K.lookup f32 = some ⟨oc32, od32, .func (PySem.W.fnOf "_law_part_fault" "_law_part_fault" (defArgs s_law_part_fault) (defBody s_law_part_fault) (defScope s_law_part_fault) .none kV32 dc32 pm32 an32 cd32 ct32), sl32⟩) (c32 : PySem.W.codeIn K cd32 "_law_part_fault" = true) (k32 : PySem.W.keepIn K (.ref f32) = true)
    (a33 : PySem.W.nsIn K mainGlobals "_law_due" = some (some (.ref f33))) (l33 : K.lookup f33 = some ⟨oc33, od33, .func (PySem.W.fnOf "_law_due" "_law_due" (defArgs s_law_due) (defBody s_law_due) (defScope s_law_due) .none kV33 dc33 pm33 an33 cd33 ct33), sl33⟩) (c33 : PySem.W.codeIn K cd33 "_law_due" = true) (k33 : PySem.W.keepIn K (.ref f33) = true)
    (a34 : PySem.W.nsIn K mainGlobals "_law_told" = some (some (.ref f34))) (l34 : K.lookup f34 = some ⟨oc34, od34, .func (PySem.W.fnOf "_law_told" "_law_told" (defArgs s_law_told) (defBody s_law_told) (defScope s_law_told) .none kV34 dc34 pm34 an34 cd34 ct34), sl34⟩) (c34 : PySem.W.codeIn K cd34 "_law_told" = true) (k34 : PySem.W.keepIn K (.ref f34) = true)
    (a35 : PySem.W.nsIn K mainGlobals "_law_bad_law" = some (some (.ref f35))) (l35 : K.lookup f35 = some ⟨oc35, od35, .func (PySem.W.fnOf "_law_bad_law" "_law_bad_law" (defArgs s_law_bad_law) (defBody s_law_bad_law) (defScope s_law_bad_law) .none kV35 dc35 pm35 an35 cd35 ct35), sl35⟩) (c35 : PySem.W.codeIn K cd35 "_law_bad_law" = true) (k35 : PySem.W.keepIn K (.ref f35) = true)
    (a36 : PySem.W.nsIn K mainGlobals "_law_spoilt" = some (some (.ref f36))) (l36 : K.lookup f36 = some ⟨oc36, od36, .func (PySem.W.fnOf "_law_spoilt" "_law_spoilt" (defArgs s_law_spoilt) (defBody s_law_spoilt) (defScope s_law_spoilt) .none kV36 dc36 pm36 an36 cd36 ct36), sl36⟩) (c36 : PySem.W.codeIn K cd36 "_law_spoilt" = true) (k36 : PySem.W.keepIn K (.ref f36) = true)
    (a37 : PySem.W.nsIn K mainGlobals "law" = some (some (.ref f37))) (l37 : K.lookup f37 = some ⟨oc37, od37, .func (PySem.W.fnOf "law" "law" (defArgs s_law) (defBody s_law) (defScope s_law) .none kV37 dc37 pm37 an37 cd37 ct37), sl37⟩) (c37 : PySem.W.codeIn K cd37 "law" = true) (k37 : PySem.W.keepIn K (.ref f37) = true)
    (z_abs : PySem.W.nsIn K mainGlobals "abs" = some none)
    (z_all : PySem.W.nsIn K mainGlobals "all" = some none)
    (z_any : PySem.W.nsIn K mainGlobals "any" = some none)
    (z_enumerate : PySem.W.nsIn K mainGlobals "enumerate" = some none)
    (z_int : PySem.W.nsIn K mainGlobals "int" = some none)
    (z_isinstance : PySem.W.nsIn K mainGlobals "isinstance" = some none)
    (z_len : PySem.W.nsIn K mainGlobals "len" = some none)
    (z_list : PySem.W.nsIn K mainGlobals "list" = some none)
    (z_min : PySem.W.nsIn K mainGlobals "min" = some none)
    (z_range : PySem.W.nsIn K mainGlobals "range" = some none)
    (z_repr : PySem.W.nsIn K mainGlobals "repr" = some none)
    (z_str : PySem.W.nsIn K mainGlobals "str" = some none)
    (w_LETTERS : PySem.W.nsIn K mainGlobals "LETTERS" = some (some (.str "abcdefghijklmnopqrstuvwxyz" q_LETTERS)))
    (w_MOST_NUMBER : PySem.W.nsIn K mainGlobals "MOST_NUMBER" = some (some (.int 1000000 q_MOST_NUMBER)))
    (w_MOST_ORDER : PySem.W.nsIn K mainGlobals "MOST_ORDER" = some (some (.int 3 q_MOST_ORDER)))
    (w_MOST_PARTS : PySem.W.nsIn K mainGlobals "MOST_PARTS" = some (some (.int 12 q_MOST_PARTS)))
    (w_SIGNS : PySem.W.nsIn K mainGlobals "SIGNS" = some (some (.str "abcdefghijklmnopqrstuvwxyz0123456789" q_SIGNS)))
    (aM : PySem.W.nsIn K mainGlobals "ModelError" = some (some (.ref CM)))
    (zV : PySem.W.nsIn K mainGlobals "ValueError" = some none)
    (vV : PySem.W.findCls K (.type "ValueError") (.type "type") "__init__" = some (.val (.builtin "ValueError.__init__")))
    (iM : PySem.W.isClsIn K CM = true)
    (tM : PySem.W.typeIn K (.ref CM) = some (.type "type"))
    (bM : PySem.W.subIn K (.ref CM) (.type "BaseException") = some true)
    (iI : PySem.W.findIn K (.ref CM) "__init__" = some (some (.ref fI)))
    (lI : K.lookup fI = some ⟨ocI, odI, .func (PySem.W.fnOf "__init__" "ModelError.__init__" (defArgs s_init) (defBody s_init) (defScope s_init) .none kVI dcI pmI anI cdI ctI), slI⟩)
    (cI : PySem.W.codeIn K cdI "ModelError.__init__" = true)
    (kI : PySem.W.keepIn K (.ref fI) = true)
    (tI : PySem.W.typeIn K (.ref fI) = some (.type "function"))
    (xsp : PySem.W.specialIn K (.builtin "object.__class__") "__get__" = some (some (.builtin "getset_descriptor.__get__")))
    (xtk : PySem.W.takesIn K (.builtin "object.__class__") = some true)
    (e0_a : PySem.W.nsIn K mainGlobals "BadName" = some (some (.ref e0_C)))
    (e0_x : K.lookup e0_C = some (excClassObj e0_nm e0_q e0_C e0_N e0_bs [.ref CM, .type "ValueError", .type "Exception", .type "BaseException", .type "object"] true e0_sn e0_sub e0_ab e0_col e0_dd e0_m0 e0_m1 (some (.str e0_nk e0_tk)) e0_m3 e0_m5 "ValueError.__new__"))
    (e0_sz : e0_nk.length ≤ 1000)
    (e0_sa : PySem.W.findIn K (.ref e0_C) "__setattr__" = some (some (.builtin "object.__setattr__")))
    (e0_ga : PySem.W.findIn K (.ref e0_C) "__getattribute__" = some (some (.builtin "BaseException.__getattribute__")))
    (e0_gg : PySem.W.findIn K (.ref e0_C) "__getattr__" = some none)
    (e0_no : PySem.W.findIn K (.ref e0_C) "at" = some none)
    (e0_in : PySem.W.findIn K (.ref e0_C) "__init__" = some (some (.ref fI)))
    (e0_be : PySem.W.subIn K (.ref e0_C) (.type "BaseException") = some true)
    (e0_ty : PySem.W.typeIn K (.ref e0_C) = some (.type "type"))
    (e0_ke : PySem.W.keepIn K (.ref e0_C) = true)
    (e0_hd : PySem.W.hasDictIn K e0_C = true)
    (e0_cl : PySem.W.isClsIn K e0_C = true)
    (e0_at : PySem.W.findIn K (.ref e0_C) "__class__" = some (some (.builtin "object.__class__")))
    (e0_mr : PySem.W.mroIn K e0_C (.type "object") = some true)
    (e0_rd : PySem.W.readsIn K e0_C (.type "type") = true)
    (e0_fc : PySem.W.findCls K (.ref e0_C) (.type "type") "__name__" = some (.get (.builtin "getset_descriptor.__get__") (.builtin "type.__name__") (.ref e0_C) (.type "type")))
    (e0_sM : PySem.W.subIn K (.ref e0_C) (.ref CM) = some true)
    (e1_a : PySem.W.nsIn K mainGlobals "TooMany" = some (some (.ref e1_C)))
    (e1_x : K.lookup e1_C = some (excClassObj e1_nm e1_q e1_C e1_N e1_bs [.ref CM, .type "ValueError", .type "Exception", .type "BaseException", .type "object"] true e1_sn e1_sub e1_ab e1_col e1_dd e1_m0 e1_m1 (some (.str e1_nk e1_tk)) e1_m3 e1_m5 "ValueError.__new__"))
    (e1_sz : e1_nk.length ≤ 1000)
    (e1_sa : PySem.W.findIn K (.ref e1_C) "__setattr__" = some (some (.builtin "object.__setattr__")))
    (e1_ga : PySem.W.findIn K (.ref e1_C) "__getattribute__" = some (some (.builtin "BaseException.__getattribute__")))
    (e1_gg : PySem.W.findIn K (.ref e1_C) "__getattr__" = some none)
    (e1_no : PySem.W.findIn K (.ref e1_C) "at" = some none)
    (e1_in : PySem.W.findIn K (.ref e1_C) "__init__" = some (some (.ref fI)))
    (e1_be : PySem.W.subIn K (.ref e1_C) (.type "BaseException") = some true)
    (e1_ty : PySem.W.typeIn K (.ref e1_C) = some (.type "type"))
    (e1_ke : PySem.W.keepIn K (.ref e1_C) = true)
    (e1_hd : PySem.W.hasDictIn K e1_C = true)
    (e1_cl : PySem.W.isClsIn K e1_C = true)
    (e1_at : PySem.W.findIn K (.ref e1_C) "__class__" = some (some (.builtin "object.__class__")))
    (e1_mr : PySem.W.mroIn K e1_C (.type "object") = some true)
    (e1_rd : PySem.W.readsIn K e1_C (.type "type") = true)
    (e1_fc : PySem.W.findCls K (.ref e1_C) (.type "type") "__name__" = some (.get (.builtin "getset_descriptor.__get__") (.builtin "type.__name__") (.ref e1_C) (.type "type")))
    (e1_sM : PySem.W.subIn K (.ref e1_C) (.ref CM) = some true)
    (e2_a : PySem.W.nsIn K mainGlobals "TakenName" = some (some (.ref e2_C)))
    (e2_x : K.lookup e2_C = some (excClassObj e2_nm e2_q e2_C e2_N e2_bs [.ref CM, .type "ValueError", .type "Exception", .type "BaseException", .type "object"] true e2_sn e2_sub e2_ab e2_col e2_dd e2_m0 e2_m1 (some (.str e2_nk e2_tk)) e2_m3 e2_m5 "ValueError.__new__"))
    (e2_sz : e2_nk.length ≤ 1000)
    (e2_sa : PySem.W.findIn K (.ref e2_C) "__setattr__" = some (some (.builtin "object.__setattr__")))
    (e2_ga : PySem.W.findIn K (.ref e2_C) "__getattribute__" = some (some (.builtin "BaseException.__getattribute__")))
    (e2_gg : PySem.W.findIn K (.ref e2_C) "__getattr__" = some none)
    (e2_no : PySem.W.findIn K (.ref e2_C) "at" = some none)
    (e2_in : PySem.W.findIn K (.ref e2_C) "__init__" = some (some (.ref fI)))
    (e2_be : PySem.W.subIn K (.ref e2_C) (.type "BaseException") = some true)
    (e2_ty : PySem.W.typeIn K (.ref e2_C) = some (.type "type"))
    (e2_ke : PySem.W.keepIn K (.ref e2_C) = true)
    (e2_hd : PySem.W.hasDictIn K e2_C = true)
    (e2_cl : PySem.W.isClsIn K e2_C = true)
    (e2_at : PySem.W.findIn K (.ref e2_C) "__class__" = some (some (.builtin "object.__class__")))
    (e2_mr : PySem.W.mroIn K e2_C (.type "object") = some true)
    (e2_rd : PySem.W.readsIn K e2_C (.type "type") = true)
    (e2_fc : PySem.W.findCls K (.ref e2_C) (.type "type") "__name__" = some (.get (.builtin "getset_descriptor.__get__") (.builtin "type.__name__") (.ref e2_C) (.type "type")))
    (e2_sM : PySem.W.subIn K (.ref e2_C) (.ref CM) = some true)
    (e3_a : PySem.W.nsIn K mainGlobals "NoPart" = some (some (.ref e3_C)))
    (e3_x : K.lookup e3_C = some (excClassObj e3_nm e3_q e3_C e3_N e3_bs [.ref CM, .type "ValueError", .type "Exception", .type "BaseException", .type "object"] true e3_sn e3_sub e3_ab e3_col e3_dd e3_m0 e3_m1 (some (.str e3_nk e3_tk)) e3_m3 e3_m5 "ValueError.__new__"))
    (e3_sz : e3_nk.length ≤ 1000)
    (e3_sa : PySem.W.findIn K (.ref e3_C) "__setattr__" = some (some (.builtin "object.__setattr__")))
    (e3_ga : PySem.W.findIn K (.ref e3_C) "__getattribute__" = some (some (.builtin "BaseException.__getattribute__")))
    (e3_gg : PySem.W.findIn K (.ref e3_C) "__getattr__" = some none)
    (e3_no : PySem.W.findIn K (.ref e3_C) "at" = some none)
    (e3_in : PySem.W.findIn K (.ref e3_C) "__init__" = some (some (.ref fI)))
    (e3_be : PySem.W.subIn K (.ref e3_C) (.type "BaseException") = some true)
    (e3_ty : PySem.W.typeIn K (.ref e3_C) = some (.type "type"))
    (e3_ke : PySem.W.keepIn K (.ref e3_C) = true)
    (e3_hd : PySem.W.hasDictIn K e3_C = true)
    (e3_cl : PySem.W.isClsIn K e3_C = true)
    (e3_at : PySem.W.findIn K (.ref e3_C) "__class__" = some (some (.builtin "object.__class__")))
    (e3_mr : PySem.W.mroIn K e3_C (.type "object") = some true)
    (e3_rd : PySem.W.readsIn K e3_C (.type "type") = true)
    (e3_fc : PySem.W.findCls K (.ref e3_C) (.type "type") "__name__" = some (.get (.builtin "getset_descriptor.__get__") (.builtin "type.__name__") (.ref e3_C) (.type "type")))
    (e3_sM : PySem.W.subIn K (.ref e3_C) (.ref CM) = some true)
    (e4_a : PySem.W.nsIn K mainGlobals "NoName" = some (some (.ref e4_C)))
    (e4_x : K.lookup e4_C = some (excClassObj e4_nm e4_q e4_C e4_N e4_bs [.ref CM, .type "ValueError", .type "Exception", .type "BaseException", .type "object"] true e4_sn e4_sub e4_ab e4_col e4_dd e4_m0 e4_m1 (some (.str e4_nk e4_tk)) e4_m3 e4_m5 "ValueError.__new__"))
    (e4_sz : e4_nk.length ≤ 1000)
    (e4_sa : PySem.W.findIn K (.ref e4_C) "__setattr__" = some (some (.builtin "object.__setattr__")))
    (e4_ga : PySem.W.findIn K (.ref e4_C) "__getattribute__" = some (some (.builtin "BaseException.__getattribute__")))
    (e4_gg : PySem.W.findIn K (.ref e4_C) "__getattr__" = some none)
    (e4_no : PySem.W.findIn K (.ref e4_C) "at" = some none)
    (e4_in : PySem.W.findIn K (.ref e4_C) "__init__" = some (some (.ref fI)))
    (e4_be : PySem.W.subIn K (.ref e4_C) (.type "BaseException") = some true)
    (e4_ty : PySem.W.typeIn K (.ref e4_C) = some (.type "type"))
    (e4_ke : PySem.W.keepIn K (.ref e4_C) = true)
    (e4_hd : PySem.W.hasDictIn K e4_C = true)
    (e4_cl : PySem.W.isClsIn K e4_C = true)
    (e4_at : PySem.W.findIn K (.ref e4_C) "__class__" = some (some (.builtin "object.__class__")))
    (e4_mr : PySem.W.mroIn K e4_C (.type "object") = some true)
    (e4_rd : PySem.W.readsIn K e4_C (.type "type") = true)
    (e4_fc : PySem.W.findCls K (.ref e4_C) (.type "type") "__name__" = some (.get (.builtin "getset_descriptor.__get__") (.builtin "type.__name__") (.ref e4_C) (.type "type")))
    (e4_sM : PySem.W.subIn K (.ref e4_C) (.ref CM) = some true)
    (e5_a : PySem.W.nsIn K mainGlobals "OutOfRange" = some (some (.ref e5_C)))
    (e5_x : K.lookup e5_C = some (excClassObj e5_nm e5_q e5_C e5_N e5_bs [.ref CM, .type "ValueError", .type "Exception", .type "BaseException", .type "object"] true e5_sn e5_sub e5_ab e5_col e5_dd e5_m0 e5_m1 (some (.str e5_nk e5_tk)) e5_m3 e5_m5 "ValueError.__new__"))
    (e5_sz : e5_nk.length ≤ 1000)
    (e5_sa : PySem.W.findIn K (.ref e5_C) "__setattr__" = some (some (.builtin "object.__setattr__")))
    (e5_ga : PySem.W.findIn K (.ref e5_C) "__getattribute__" = some (some (.builtin "BaseException.__getattribute__")))
    (e5_gg : PySem.W.findIn K (.ref e5_C) "__getattr__" = some none)
    (e5_no : PySem.W.findIn K (.ref e5_C) "at" = some none)
    (e5_in : PySem.W.findIn K (.ref e5_C) "__init__" = some (some (.ref fI)))
    (e5_be : PySem.W.subIn K (.ref e5_C) (.type "BaseException") = some true)
    (e5_ty : PySem.W.typeIn K (.ref e5_C) = some (.type "type"))
    (e5_ke : PySem.W.keepIn K (.ref e5_C) = true)
    (e5_hd : PySem.W.hasDictIn K e5_C = true)
    (e5_cl : PySem.W.isClsIn K e5_C = true)
    (e5_at : PySem.W.findIn K (.ref e5_C) "__class__" = some (some (.builtin "object.__class__")))
    (e5_mr : PySem.W.mroIn K e5_C (.type "object") = some true)
    (e5_rd : PySem.W.readsIn K e5_C (.type "type") = true)
    (e5_fc : PySem.W.findCls K (.ref e5_C) (.type "type") "__name__" = some (.get (.builtin "getset_descriptor.__get__") (.builtin "type.__name__") (.ref e5_C) (.type "type")))
    (e5_sM : PySem.W.subIn K (.ref e5_C) (.ref CM) = some true)
    (e6_a : PySem.W.nsIn K mainGlobals "SamePlace" = some (some (.ref e6_C)))
    (e6_x : K.lookup e6_C = some (excClassObj e6_nm e6_q e6_C e6_N e6_bs [.ref CM, .type "ValueError", .type "Exception", .type "BaseException", .type "object"] true e6_sn e6_sub e6_ab e6_col e6_dd e6_m0 e6_m1 (some (.str e6_nk e6_tk)) e6_m3 e6_m5 "ValueError.__new__"))
    (e6_sz : e6_nk.length ≤ 1000)
    (e6_sa : PySem.W.findIn K (.ref e6_C) "__setattr__" = some (some (.builtin "object.__setattr__")))
    (e6_ga : PySem.W.findIn K (.ref e6_C) "__getattribute__" = some (some (.builtin "BaseException.__getattribute__")))
    (e6_gg : PySem.W.findIn K (.ref e6_C) "__getattr__" = some none)
    (e6_no : PySem.W.findIn K (.ref e6_C) "at" = some none)
    (e6_in : PySem.W.findIn K (.ref e6_C) "__init__" = some (some (.ref fI)))
    (e6_be : PySem.W.subIn K (.ref e6_C) (.type "BaseException") = some true)
    (e6_ty : PySem.W.typeIn K (.ref e6_C) = some (.type "type"))
    (e6_ke : PySem.W.keepIn K (.ref e6_C) = true)
    (e6_hd : PySem.W.hasDictIn K e6_C = true)
    (e6_cl : PySem.W.isClsIn K e6_C = true)
    (e6_at : PySem.W.findIn K (.ref e6_C) "__class__" = some (some (.builtin "object.__class__")))
    (e6_mr : PySem.W.mroIn K e6_C (.type "object") = some true)
    (e6_rd : PySem.W.readsIn K e6_C (.type "type") = true)
    (e6_fc : PySem.W.findCls K (.ref e6_C) (.type "type") "__name__" = some (.get (.builtin "getset_descriptor.__get__") (.builtin "type.__name__") (.ref e6_C) (.type "type")))
    (e6_sM : PySem.W.subIn K (.ref e6_C) (.ref CM) = some true)
    (kp0_1 : PySem.W.kitOne K (.ref e0_C) (.ref e1_C) = some false)
    (kp0_2 : PySem.W.kitOne K (.ref e0_C) (.ref e2_C) = some false)
    (kp0_3 : PySem.W.kitOne K (.ref e0_C) (.ref e3_C) = some false)
    (kp0_4 : PySem.W.kitOne K (.ref e0_C) (.ref e4_C) = some false)
    (kp0_5 : PySem.W.kitOne K (.ref e0_C) (.ref e5_C) = some false)
    (kp0_6 : PySem.W.kitOne K (.ref e0_C) (.ref e6_C) = some false)
    (kp1_0 : PySem.W.kitOne K (.ref e1_C) (.ref e0_C) = some false)
    (kp1_2 : PySem.W.kitOne K (.ref e1_C) (.ref e2_C) = some false)
    (kp1_3 : PySem.W.kitOne K (.ref e1_C) (.ref e3_C) = some false)
    (kp1_4 : PySem.W.kitOne K (.ref e1_C) (.ref e4_C) = some false)
    (kp1_5 : PySem.W.kitOne K (.ref e1_C) (.ref e5_C) = some false)
    (kp1_6 : PySem.W.kitOne K (.ref e1_C) (.ref e6_C) = some false)
    (kp2_0 : PySem.W.kitOne K (.ref e2_C) (.ref e0_C) = some false)
    (kp2_1 : PySem.W.kitOne K (.ref e2_C) (.ref e1_C) = some false)
    (kp2_3 : PySem.W.kitOne K (.ref e2_C) (.ref e3_C) = some false)
    (kp2_4 : PySem.W.kitOne K (.ref e2_C) (.ref e4_C) = some false)
    (kp2_5 : PySem.W.kitOne K (.ref e2_C) (.ref e5_C) = some false)
    (kp2_6 : PySem.W.kitOne K (.ref e2_C) (.ref e6_C) = some false)
    (kp3_0 : PySem.W.kitOne K (.ref e3_C) (.ref e0_C) = some false)
    (kp3_1 : PySem.W.kitOne K (.ref e3_C) (.ref e1_C) = some false)
    (kp3_2 : PySem.W.kitOne K (.ref e3_C) (.ref e2_C) = some false)
    (kp3_4 : PySem.W.kitOne K (.ref e3_C) (.ref e4_C) = some false)
    (kp3_5 : PySem.W.kitOne K (.ref e3_C) (.ref e5_C) = some false)
    (kp3_6 : PySem.W.kitOne K (.ref e3_C) (.ref e6_C) = some false)
    (kp4_0 : PySem.W.kitOne K (.ref e4_C) (.ref e0_C) = some false)
    (kp4_1 : PySem.W.kitOne K (.ref e4_C) (.ref e1_C) = some false)
    (kp4_2 : PySem.W.kitOne K (.ref e4_C) (.ref e2_C) = some false)
    (kp4_3 : PySem.W.kitOne K (.ref e4_C) (.ref e3_C) = some false)
    (kp4_5 : PySem.W.kitOne K (.ref e4_C) (.ref e5_C) = some false)
    (kp4_6 : PySem.W.kitOne K (.ref e4_C) (.ref e6_C) = some false)
    (kp5_0 : PySem.W.kitOne K (.ref e5_C) (.ref e0_C) = some false)
    (kp5_1 : PySem.W.kitOne K (.ref e5_C) (.ref e1_C) = some false)
    (kp5_2 : PySem.W.kitOne K (.ref e5_C) (.ref e2_C) = some false)
    (kp5_3 : PySem.W.kitOne K (.ref e5_C) (.ref e3_C) = some false)
    (kp5_4 : PySem.W.kitOne K (.ref e5_C) (.ref e4_C) = some false)
    (kp5_6 : PySem.W.kitOne K (.ref e5_C) (.ref e6_C) = some false)
    (kp6_0 : PySem.W.kitOne K (.ref e6_C) (.ref e0_C) = some false)
    (kp6_1 : PySem.W.kitOne K (.ref e6_C) (.ref e1_C) = some false)
    (kp6_2 : PySem.W.kitOne K (.ref e6_C) (.ref e2_C) = some false)
    (kp6_3 : PySem.W.kitOne K (.ref e6_C) (.ref e3_C) = some false)
    (kp6_4 : PySem.W.kitOne K (.ref e6_C) (.ref e4_C) = some false)
    (kp6_5 : PySem.W.kitOne K (.ref e6_C) (.ref e5_C) = some false)
    {aMP : Addr} {odMP : Option Addr} {slMP : Array (Option Value)} {nMP : Nat} {u0 u1 u2 u3 u4 : Tok}
    (mMP : PySem.W.nsIn K mainGlobals "MOST_IN_PART" = some (some (.ref aMP))) (lMP : K.lookup aMP = some ⟨.type "tuple", odMP, .seq #[.int 8 u0, .int 12 u1, .int 12 u2, .int 20 u3, .int 20 u4] nMP, slMP⟩)
    (bare : ∀ nm ∈ (["is_in_range", "_is_word", "_is_named", "_is_too_long", "_has_unknown_name", "_check_part"] : List Str), LG.Bare mg h nm)
    : ∃ (fd : FuncData) (cs : List (Addr × Addr)) (sp : Sp), (∀ p ∈ cs, h.get? p.2 = some { cls := .none, data := .fields #[] }) ∧ (∀ p ∈ cs, K.lookup p.2 = none) ∧ (∀ p ∈ cs, PySem.W.CodeHd h p.1 p.2) ∧ (∀ (s : Shared) (u : Value), BindsTo s fd ⟨[u], []⟩ [("script", u)]) ∧
        (∀ (H : Hp) (a : Addr) (ns : List Int), ns.length ≤ 63 → (∀ p ∈ cs, H p.2 = some (.tbl #[])) → SqL K H a (ns.map V.int) → sp [.ref a] H (fun v _ => v = .bl true) fun _ _ _ => False) ∧
        ∀ base : Heap, K.In base → base.Ns mainGlobals mg → (∀ p ∈ cs, GxR.TabB base mg p.1 p.2) → LG.FnG l.prog w K mg base CX0 10 fa fd ["script"] sp := by
  have b7 : h.get? P7 = some { cls := .none, data := .fields #[] } ∧ PySem.W.CodeHd h C7 P7 := by
    obtain ⟨b, c, Q, o, fd, m1, m2, m3, m4, m5, m6⟩ := bare "is_in_range" (by simp)
    cases m1.symm.trans (PySem.W.mg_of X G a7)
    cases m2.symm.trans (X _ _ l7)
    cases m3
    cases m4
    have m5c := m5
    obtain ⟨o2, vs, _, _, _, _, _, _, _, e1, _, e3, e4, _⟩ := m5c
    cases e1.symm.trans (X _ _ t7)
    cases e3
    cases e4.symm.trans p7
    exact ⟨m6, m5⟩
  have b8 : h.get? P8 = some { cls := .none, data := .fields #[] } ∧ PySem.W.CodeHd h C8 P8 := by
    obtain ⟨b, c, Q, o, fd, m1, m2, m3, m4, m5, m6⟩ := bare "_is_word" (by simp)
    cases m1.symm.trans (PySem.W.mg_of X G a8)
    cases m2.symm.trans (X _ _ l8)
    cases m3
    cases m4
    have m5c := m5
    obtain ⟨o2, vs, _, _, _, _, _, _, _, e1, _, e3, e4, _⟩ := m5c
    cases e1.symm.trans (X _ _ t8)
    cases e3
    cases e4.symm.trans p8
    exact ⟨m6, m5⟩
  have b14 : h.get? P14 = some { cls := .none, data := .fields #[] } ∧ PySem.W.CodeHd h C14 P14 := by
    obtain ⟨b, c, Q, o, fd, m1, m2, m3, m4, m5, m6⟩ := bare "_is_named" (by simp)
    cases m1.symm.trans (PySem.W.mg_of X G a14)
    cases m2.symm.trans (X _ _ l14)
    cases m3
    cases m4
    have m5c := m5
    obtain ⟨o2, vs, _, _, _, _, _, _, _, e1, _, e3, e4, _⟩ := m5c
    cases e1.symm.trans (X _ _ t14)
    cases e3
    cases e4.symm.trans p14
    exact ⟨m6, m5⟩
  have b15 : h.get? P15 = some { cls := .none, data := .fields #[] } ∧ PySem.W.CodeHd h C15 P15 := by
    obtain ⟨b, c, Q, o, fd, m1, m2, m3, m4, m5, m6⟩ := bare "_is_too_long" (by simp)
    cases m1.symm.trans (PySem.W.mg_of X G a15)
    cases m2.symm.trans (X _ _ l15)
    cases m3
    cases m4
    have m5c := m5
    obtain ⟨o2, vs, _, _, _, _, _, _, _, e1, _, e3, e4, _⟩ := m5c
    cases e1.symm.trans (X _ _ t15)
    cases e3
    cases e4.symm.trans p15
    exact ⟨m6, m5⟩
  have b17 : h.get? P17 = some { cls := .none, data := .fields #[] } ∧ PySem.W.CodeHd h C17 P17 := by
    obtain ⟨b, c, Q, o, fd, m1, m2, m3, m4, m5, m6⟩ := bare "_has_unknown_name" (by simp)
    cases m1.symm.trans (PySem.W.mg_of X G a17)
    cases m2.symm.trans (X _ _ l17)
    cases m3
    cases m4
    have m5c := m5
    obtain ⟨o2, vs, _, _, _, _, _, _, _, e1, _, e3, e4, _⟩ := m5c
    cases e1.symm.trans (X _ _ t17)
    cases e3
    cases e4.symm.trans p17
    exact ⟨m6, m5⟩
  have b18 : h.get? P18 = some { cls := .none, data := .fields #[] } ∧ PySem.W.CodeHd h C18 P18 := by
    obtain ⟨b, c, Q, o, fd, m1, m2, m3, m4, m5, m6⟩ := bare "_check_part" (by simp)
    cases m1.symm.trans (PySem.W.mg_of X G a18)
    cases m2.symm.trans (X _ _ l18)
    cases m3
    cases m4
    have m5c := m5
    obtain ⟨o2, vs, _, _, _, _, _, _, _, e1, _, e3, e4, _⟩ := m5c
    cases e1.symm.trans (X _ _ t18)
    cases e3
    cases e4.symm.trans p18
    exact ⟨m6, m5⟩
  have e := hfa.symm.trans (PySem.W.mg_of X G a37)
  cases e
  let T : Txt K mg := {
    wording := ⟨_, _, fun_mk (st := s_wording) l0 c0 k0, (fun_mk (st := s_wording) l0 c0 k0).binds (ps := ["name", "at"]) (fun _ _ _ _ _ _ us hl => match us, hl with | [_, _], _ => rfl), PySem.W.mg_of X G a0⟩
    is_exact := ⟨_, _, fun_mk (st := s_is_exact) l1 c1 k1, (fun_mk (st := s_is_exact) l1 c1 k1).binds (ps := ["told"]) (fun _ _ _ _ _ _ us hl => match us, hl with | [_], _ => rfl), PySem.W.mg_of X G a1⟩
    terms_of := ⟨_, _, fun_mk (st := s_terms_of) l2 c2 k2, (fun_mk (st := s_terms_of) l2 c2 k2).binds (ps := ["told"]) (fun _ _ _ _ _ _ us hl => match us, hl with | [_], _ => rfl), PySem.W.mg_of X G a2⟩
    source_of := ⟨_, _, fun_mk (st := s_source_of) l3 c3 k3, (fun_mk (st := s_source_of) l3 c3 k3).binds (ps := ["told"]) (fun _ _ _ _ _ _ us hl => match us, hl with | [_], _ => rfl), PySem.W.mg_of X G a3⟩
    sizes_in := ⟨_, _, fun_mk (st := s_sizes_in) l4 c4 k4, (fun_mk (st := s_sizes_in) l4 c4 k4).binds (ps := ["told"]) (fun _ _ _ _ _ _ us hl => match us, hl with | [_], _ => rfl), PySem.W.mg_of X G a4⟩
    places_of := ⟨_, _, fun_mk (st := s_places_of) l5 c5 k5, (fun_mk (st := s_places_of) l5 c5 k5).binds (ps := ["told"]) (fun _ _ _ _ _ _ us hl => match us, hl with | [_], _ => rfl), PySem.W.mg_of X G a5⟩
    has_twice := ⟨_, _, fun_mk (st := s_has_twice) l6 c6 k6, (fun_mk (st := s_has_twice) l6 c6 k6).binds (ps := ["words"]) (fun _ _ _ _ _ _ us hl => match us, hl with | [_], _ => rfl), PySem.W.mg_of X G a6⟩
    is_in_range := ⟨_, C7, _, ⟨_, _, _, _, _, _, _, _, _, rfl, l7, c7⟩, k7, (fun_mk (st := s_is_in_range) l7 c7 k7).binds (ps := ["told"]) (fun _ _ _ _ _ _ us hl => match us, hl with | [_], _ => rfl), PySem.W.mg_of X G a7⟩
    is_word := ⟨_, C8, _, ⟨_, _, _, _, _, _, _, _, _, rfl, l8, c8⟩, k8, (fun_mk (st := s_is_word) l8 c8 k8).binds (ps := ["text"]) (fun _ _ _ _ _ _ us hl => match us, hl with | [_], _ => rfl), PySem.W.mg_of X G a8⟩
    is_part_name := ⟨_, _, fun_mk (st := s_is_part_name) l9 c9 k9, (fun_mk (st := s_is_part_name) l9 c9 k9).binds (ps := ["text"]) (fun _ _ _ _ _ _ us hl => match us, hl with | [_], _ => rfl), PySem.W.mg_of X G a9⟩
    own_names := ⟨_, _, fun_mk (st := s_own_names) l10 c10 k10, (fun_mk (st := s_own_names) l10 c10 k10).binds (ps := ["part"]) (fun _ _ _ _ _ _ us hl => match us, hl with | [_], _ => rfl), PySem.W.mg_of X G a10⟩
    part_sizes := ⟨_, _, fun_mk (st := s_part_sizes) l11 c11 k11, (fun_mk (st := s_part_sizes) l11 c11 k11).binds (ps := ["part"]) (fun _ _ _ _ _ _ us hl => match us, hl with | [_], _ => rfl), PySem.W.mg_of X G a11⟩
    own_quantities := ⟨_, _, fun_mk (st := s_own_quantities) l12 c12 k12, (fun_mk (st := s_own_quantities) l12 c12 k12).binds (ps := ["part"]) (fun _ _ _ _ _ _ us hl => match us, hl with | [_], _ => rfl), PySem.W.mg_of X G a12⟩
    port_texts := ⟨_, _, fun_mk (st := s_port_texts) l13 c13 k13, (fun_mk (st := s_port_texts) l13 c13 k13).binds (ps := ["part", "before"]) (fun _ _ _ _ _ _ us hl => match us, hl with | [_, _], _ => rfl), PySem.W.mg_of X G a13⟩
    is_named := ⟨_, C14, _, ⟨_, _, _, _, _, _, _, _, _, rfl, l14, c14⟩, k14, (fun_mk (st := s_is_named) l14 c14 k14).binds (ps := ["part"]) (fun _ _ _ _ _ _ us hl => match us, hl with | [_], _ => rfl), PySem.W.mg_of X G a14⟩
    is_too_long := ⟨_, C15, _, ⟨_, _, _, _, _, _, _, _, _, rfl, l15, c15⟩, k15, (fun_mk (st := s_is_too_long) l15 c15 k15).binds (ps := ["part"]) (fun _ _ _ _ _ _ us hl => match us, hl with | [_], _ => rfl), PySem.W.mg_of X G a15⟩
    has_taken_name := ⟨_, _, fun_mk (st := s_has_taken_name) l16 c16 k16, (fun_mk (st := s_has_taken_name) l16 c16 k16).binds (ps := ["part", "before"]) (fun _ _ _ _ _ _ us hl => match us, hl with | [_, _], _ => rfl), PySem.W.mg_of X G a16⟩
    has_unknown_name := ⟨_, C17, _, ⟨_, _, _, _, _, _, _, _, _, rfl, l17, c17⟩, k17, (fun_mk (st := s_has_unknown_name) l17 c17 k17).binds (ps := ["part", "before"]) (fun _ _ _ _ _ _ us hl => match us, hl with | [_, _], _ => rfl), PySem.W.mg_of X G a17⟩
    check_part := ⟨_, C18, _, ⟨_, _, _, _, _, _, _, _, _, rfl, l18, c18⟩, k18, (fun_mk (st := s_check_part) l18 c18 k18).binds (ps := ["part", "before", "at"]) (fun _ _ _ _ _ _ us hl => match us, hl with | [_, _, _], _ => rfl), PySem.W.mg_of X G a18⟩
    check_book := ⟨_, _, fun_mk (st := s_check_book) l19 c19 k19, (fun_mk (st := s_check_book) l19 c19 k19).binds (ps := ["book"]) (fun _ _ _ _ _ _ us hl => match us, hl with | [_], _ => rfl), PySem.W.mg_of X G a19⟩
    law_draws := ⟨_, _, fun_mk (st := s_law_draws) l20 c20 k20, (fun_mk (st := s_law_draws) l20 c20 k20).binds (ps := ["script"]) (fun _ _ _ _ _ _ us hl => match us, hl with | [_], _ => rfl), PySem.W.mg_of X G a20⟩
    law_at := ⟨_, _, fun_mk (st := s_law_at) l21 c21 k21, (fun_mk (st := s_law_at) l21 c21 k21).binds (ps := ["draws", "k", "many"]) (fun _ _ _ _ _ _ us hl => match us, hl with | [_, _, _], _ => rfl), PySem.W.mg_of X G a21⟩
    law_pool := ⟨_, _, fun_mk (st := s_law_pool) l22 c22 k22, (fun_mk (st := s_law_pool) l22 c22 k22).binds (ps := ["draws", "k"]) (fun _ _ _ _ _ _ us hl => match us, hl with | [_, _], _ => rfl), PySem.W.mg_of X G a22⟩
    law_own := ⟨_, _, fun_mk (st := s_law_own) l23 c23 k23, (fun_mk (st := s_law_own) l23 c23 k23).binds (ps := ["part"]) (fun _ _ _ _ _ _ us hl => match us, hl with | [_], _ => rfl), PySem.W.mg_of X G a23⟩
    law_part_laws := ⟨_, _, fun_mk (st := s_law_part_laws) l24 c24 k24, (fun_mk (st := s_law_part_laws) l24 c24 k24).binds (ps := ["draws", "k", "part", "pool", "many"]) (fun _ _ _ _ _ _ us hl => match us, hl with | [_, _, _, _, _], _ => rfl), PySem.W.mg_of X G a24⟩
    law_part := ⟨_, _, fun_mk (st := s_law_part) l25 c25 k25, (fun_mk (st := s_law_part) l25 c25 k25).binds (ps := ["draws", "k", "name", "book"]) (fun _ _ _ _ _ _ us hl => match us, hl with | [_, _, _, _], _ => rfl), PySem.W.mg_of X G a25⟩
    law_book := ⟨_, _, fun_mk (st := s_law_book) l26 c26 k26, (fun_mk (st := s_law_book) l26 c26 k26).binds (ps := ["draws", "first", "most"]) (fun _ _ _ _ _ _ us hl => match us, hl with | [_, _, _], _ => rfl), PySem.W.mg_of X G a26⟩
    law_is_simple := ⟨_, _, fun_mk (st := s_law_is_simple) l27 c27 k27, (fun_mk (st := s_law_is_simple) l27 c27 k27).binds (ps := ["text"]) (fun _ _ _ _ _ _ us hl => match us, hl with | [_], _ => rfl), PySem.W.mg_of X G a27⟩
    law_sizes := ⟨_, _, fun_mk (st := s_law_sizes) l28 c28 k28, (fun_mk (st := s_law_sizes) l28 c28 k28).binds (ps := ["part"]) (fun _ _ _ _ _ _ us hl => match us, hl with | [_], _ => rfl), PySem.W.mg_of X G a28⟩
    law_places_of := ⟨_, _, fun_mk (st := s_law_places_of) l29 c29 k29, (fun_mk (st := s_law_places_of) l29 c29 k29).binds (ps := ["law"]) (fun _ _ _ _ _ _ us hl => match us, hl with | [_], _ => rfl), PySem.W.mg_of X G a29⟩
    law_range := ⟨_, _, fun_mk (st := s_law_range) l30 c30 k30, (fun_mk (st := s_law_range) l30 c30 k30).binds (ps := ["part"]) (fun _ _ _ _ _ _ us hl => match us, hl with | [_], _ => rfl), PySem.W.mg_of X G a30⟩
    law_doubles := ⟨_, _, fun_mk (st := s_law_doubles) l31 c31 k31, (fun_mk (st := s_law_doubles) l31 c31 k31).binds (ps := ["names"]) (fun _ _ _ _ _ _ us hl => match us, hl with | [_], _ => rfl), PySem.W.mg_of X G a31⟩
    law_part_fault := ⟨_, _, fun_mk (st := s_law_part_fault) l32 c32 k32, (fun_mk (st := s_law_part_fault) l32 c32 k32).binds (ps := ["book", "at"]) (fun _ _ _ _ _ _ us hl => match us, hl with | [_, _], _ => rfl), PySem.W.mg_of X G a32⟩
    law_due := ⟨_, _, fun_mk (st := s_law_due) l33 c33 k33, (fun_mk (st := s_law_due) l33 c33 k33).binds (ps := ["book"]) (fun _ _ _ _ _ _ us hl => match us, hl with | [_], _ => rfl), PySem.W.mg_of X G a33⟩
    law_told := ⟨_, _, fun_mk (st := s_law_told) l34 c34 k34, (fun_mk (st := s_law_told) l34 c34 k34).binds (ps := ["book"]) (fun _ _ _ _ _ _ us hl => match us, hl with | [_], _ => rfl), PySem.W.mg_of X G a34⟩
    law_bad_law := ⟨_, _, fun_mk (st := s_law_bad_law) l35 c35 k35, (fun_mk (st := s_law_bad_law) l35 c35 k35).binds (ps := ["cell", "known"]) (fun _ _ _ _ _ _ us hl => match us, hl with | [_, _], _ => rfl), PySem.W.mg_of X G a35⟩
    law_spoilt := ⟨_, _, fun_mk (st := s_law_spoilt) l36 c36 k36, (fun_mk (st := s_law_spoilt) l36 c36 k36).binds (ps := ["draws", "k", "book"]) (fun _ _ _ _ _ _ us hl => match us, hl with | [_, _, _], _ => rfl), PySem.W.mg_of X G a36⟩
    law := ⟨_, _, fun_mk (st := s_law) l37 c37 k37, (fun_mk (st := s_law) l37 c37 k37).binds (ps := ["script"]) (fun _ _ _ _ _ _ us hl => match us, hl with | [_], _ => rfl), PySem.W.mg_of X G a37⟩
    m_abs := PySem.W.mg_none_of X G z_abs
    m_all := PySem.W.mg_none_of X G z_all
    m_any := PySem.W.mg_none_of X G z_any
    m_enumerate := PySem.W.mg_none_of X G z_enumerate
    m_int := PySem.W.mg_none_of X G z_int
    m_isinstance := PySem.W.mg_none_of X G z_isinstance
    m_len := PySem.W.mg_none_of X G z_len
    m_list := PySem.W.mg_none_of X G z_list
    m_min := PySem.W.mg_none_of X G z_min
    m_range := PySem.W.mg_none_of X G z_range
    m_repr := PySem.W.mg_none_of X G z_repr
    m_str := PySem.W.mg_none_of X G z_str
    k_LETTERS := q_LETTERS
    c_LETTERS := PySem.W.mg_of X G w_LETTERS
    k_MOST_NUMBER := q_MOST_NUMBER
    c_MOST_NUMBER := PySem.W.mg_of X G w_MOST_NUMBER
    k_MOST_ORDER := q_MOST_ORDER
    c_MOST_ORDER := PySem.W.mg_of X G w_MOST_ORDER
    k_MOST_PARTS := q_MOST_PARTS
    c_MOST_PARTS := PySem.W.mg_of X G w_MOST_PARTS
    k_SIGNS := q_SIGNS
    c_SIGNS := PySem.W.mg_of X G w_SIGNS
    aMP := aMP
    c_MOST_IN_PART := PySem.W.mg_of X G mMP
    t_MOST_IN_PART := fun H => .inr ⟨_, _, _, lMP, rfl, rfl, (show (5 : Nat) ≤ sizeLine by decide), .cons ⟨_, rfl⟩ (.cons ⟨_, rfl⟩ (.cons ⟨_, rfl⟩ (.cons ⟨_, rfl⟩ (.cons ⟨_, rfl⟩ .nil))))⟩
  }
  let E : Errs K mg := {
    e0 := ⟨CM, fI, _, fun_mk (st := s_init) lI cI kI, (fun_mk (st := s_init) lI cI kI).binds (ps := ["self", "at"]) (fun _ _ _ _ _ _ us hl => match us, hl with | [_, _], _ => rfl), tI, PySem.W.mg_of X G aM, PySem.W.mg_none_of X G zV, vV⟩
    BadName := { C := e0_C, nm := e0_nk, named := ⟨⟨e0_cl, e0_ga, e0_gg, e0_be, e0_at, xsp, xtk, e0_mr⟩, e0_rd, e0_fc, e0_ty, ⟨_, _, e0_x, rfl⟩, e0_sz⟩, oex := ⟨⟨_, _, _, _, _, _, _, _, _, _, _, _, _, _, _, e0_x, LX.refs_one _⟩, e0_sa, e0_be, e0_ty, e0_ke⟩, noAt := e0_no, iC := e0_in, g := PySem.W.mg_of X G e0_a, exm := LX.exm_is bM iM tM e0_sM, kit := LX.kit_self _ _, xf := ⟨e0_ga, e0_gg, e0_be, e0_hd⟩ }
    TooMany := { C := e1_C, nm := e1_nk, named := ⟨⟨e1_cl, e1_ga, e1_gg, e1_be, e1_at, xsp, xtk, e1_mr⟩, e1_rd, e1_fc, e1_ty, ⟨_, _, e1_x, rfl⟩, e1_sz⟩, oex := ⟨⟨_, _, _, _, _, _, _, _, _, _, _, _, _, _, _, e1_x, LX.refs_one _⟩, e1_sa, e1_be, e1_ty, e1_ke⟩, noAt := e1_no, iC := e1_in, g := PySem.W.mg_of X G e1_a, exm := LX.exm_is bM iM tM e1_sM, kit := LX.kit_self _ _, xf := ⟨e1_ga, e1_gg, e1_be, e1_hd⟩ }
    TakenName := { C := e2_C, nm := e2_nk, named := ⟨⟨e2_cl, e2_ga, e2_gg, e2_be, e2_at, xsp, xtk, e2_mr⟩, e2_rd, e2_fc, e2_ty, ⟨_, _, e2_x, rfl⟩, e2_sz⟩, oex := ⟨⟨_, _, _, _, _, _, _, _, _, _, _, _, _, _, _, e2_x, LX.refs_one _⟩, e2_sa, e2_be, e2_ty, e2_ke⟩, noAt := e2_no, iC := e2_in, g := PySem.W.mg_of X G e2_a, exm := LX.exm_is bM iM tM e2_sM, kit := LX.kit_self _ _, xf := ⟨e2_ga, e2_gg, e2_be, e2_hd⟩ }
    NoPart := { C := e3_C, nm := e3_nk, named := ⟨⟨e3_cl, e3_ga, e3_gg, e3_be, e3_at, xsp, xtk, e3_mr⟩, e3_rd, e3_fc, e3_ty, ⟨_, _, e3_x, rfl⟩, e3_sz⟩, oex := ⟨⟨_, _, _, _, _, _, _, _, _, _, _, _, _, _, _, e3_x, LX.refs_one _⟩, e3_sa, e3_be, e3_ty, e3_ke⟩, noAt := e3_no, iC := e3_in, g := PySem.W.mg_of X G e3_a, exm := LX.exm_is bM iM tM e3_sM, kit := LX.kit_self _ _, xf := ⟨e3_ga, e3_gg, e3_be, e3_hd⟩ }
    NoName := { C := e4_C, nm := e4_nk, named := ⟨⟨e4_cl, e4_ga, e4_gg, e4_be, e4_at, xsp, xtk, e4_mr⟩, e4_rd, e4_fc, e4_ty, ⟨_, _, e4_x, rfl⟩, e4_sz⟩, oex := ⟨⟨_, _, _, _, _, _, _, _, _, _, _, _, _, _, _, e4_x, LX.refs_one _⟩, e4_sa, e4_be, e4_ty, e4_ke⟩, noAt := e4_no, iC := e4_in, g := PySem.W.mg_of X G e4_a, exm := LX.exm_is bM iM tM e4_sM, kit := LX.kit_self _ _, xf := ⟨e4_ga, e4_gg, e4_be, e4_hd⟩ }
    OutOfRange := { C := e5_C, nm := e5_nk, named := ⟨⟨e5_cl, e5_ga, e5_gg, e5_be, e5_at, xsp, xtk, e5_mr⟩, e5_rd, e5_fc, e5_ty, ⟨_, _, e5_x, rfl⟩, e5_sz⟩, oex := ⟨⟨_, _, _, _, _, _, _, _, _, _, _, _, _, _, _, e5_x, LX.refs_one _⟩, e5_sa, e5_be, e5_ty, e5_ke⟩, noAt := e5_no, iC := e5_in, g := PySem.W.mg_of X G e5_a, exm := LX.exm_is bM iM tM e5_sM, kit := LX.kit_self _ _, xf := ⟨e5_ga, e5_gg, e5_be, e5_hd⟩ }
    SamePlace := { C := e6_C, nm := e6_nk, named := ⟨⟨e6_cl, e6_ga, e6_gg, e6_be, e6_at, xsp, xtk, e6_mr⟩, e6_rd, e6_fc, e6_ty, ⟨_, _, e6_x, rfl⟩, e6_sz⟩, oex := ⟨⟨_, _, _, _, _, _, _, _, _, _, _, _, _, _, _, e6_x, LX.refs_one _⟩, e6_sa, e6_be, e6_ty, e6_ke⟩, noAt := e6_no, iC := e6_in, g := PySem.W.mg_of X G e6_a, exm := LX.exm_is bM iM tM e6_sM, kit := LX.kit_self _ _, xf := ⟨e6_ga, e6_gg, e6_be, e6_hd⟩ }
    n_BadName_TooMany := kp0_1
    n_BadName_TakenName := kp0_2
    n_BadName_NoPart := kp0_3
    n_BadName_NoName := kp0_4
    n_BadName_OutOfRange := kp0_5
    n_BadName_SamePlace := kp0_6
    n_TooMany_BadName := kp1_0
    n_TooMany_TakenName := kp1_2
    n_TooMany_NoPart := kp1_3
    n_TooMany_NoName := kp1_4
    n_TooMany_OutOfRange := kp1_5
    n_TooMany_SamePlace := kp1_6
    n_TakenName_BadName := kp2_0
    n_TakenName_TooMany := kp2_1
    n_TakenName_NoPart := kp2_3
    n_TakenName_NoName := kp2_4
    n_TakenName_OutOfRange := kp2_5
    n_TakenName_SamePlace := kp2_6
    n_NoPart_BadName := kp3_0
    n_NoPart_TooMany := kp3_1
    n_NoPart_TakenName := kp3_2
    n_NoPart_NoName := kp3_4
    n_NoPart_OutOfRange := kp3_5
    n_NoPart_SamePlace := kp3_6
    n_NoName_BadName := kp4_0
    n_NoName_TooMany := kp4_1
    n_NoName_TakenName := kp4_2
    n_NoName_NoPart := kp4_3
    n_NoName_OutOfRange := kp4_5
    n_NoName_SamePlace := kp4_6
    n_OutOfRange_BadName := kp5_0
    n_OutOfRange_TooMany := kp5_1
    n_OutOfRange_TakenName := kp5_2
    n_OutOfRange_NoPart := kp5_3
    n_OutOfRange_NoName := kp5_4
    n_OutOfRange_SamePlace := kp5_6
    n_SamePlace_BadName := kp6_0
    n_SamePlace_TooMany := kp6_1
    n_SamePlace_TakenName := kp6_2
    n_SamePlace_NoPart := kp6_3
    n_SamePlace_NoName := kp6_4
    n_SamePlace_OutOfRange := kp6_5
  }
  refine ⟨PySem.W.fnOf "law" "law" (defArgs s_law) (defBody s_law) (defScope s_law) .none kV37 dc37 pm37 an37 cd37 ct37, [(C7, P7), (C8, P8), (C14, P14), (C15, P15), (C17, P17), (C18, P18)], sp_law K P7 P8 P14 P15 P17 P18, ?_, ?_, ?_, fun s v => .of_eq rfl, fun H a ns hl ht hS => ?_, fun base _ _ tb => ok_law T E (tb (C7, P7) (by simp)) (tb (C8, P8) (by simp)) (tb (C14, P14) (by simp)) (tb (C15, P15) (by simp)) (tb (C17, P17) (by simp)) (tb (C18, P18) (by simp))⟩
  · intro p hp; simp only [List.mem_cons, List.not_mem_nil, or_false] at hp; rcases hp with rfl | rfl | rfl | rfl | rfl | rfl
    · exact b7.1
    · exact b8.1
    · exact b14.1
    · exact b15.1
    · exact b17.1
    · exact b18.1
  · intro p hp; simp only [List.mem_cons, List.not_mem_nil, or_false] at hp; rcases hp with rfl | rfl | rfl | rfl | rfl | rfl
    · exact n7
    · exact n8
    · exact n14
    · exact n15
    · exact n17
    · exact n18
  · intro p hp; simp only [List.mem_cons, List.not_mem_nil, or_false] at hp; rcases hp with rfl | rfl | rfl | rfl | rfl | rfl
    · exact b7.2
    · exact b8.2
    · exact b14.2
    · exact b15.2
    · exact b17.2
    · exact b18.2
  · exact ⟨a, ns, rfl, hS, hl, ⟨#[], ht (C7, P7) (by simp), trivial⟩, ⟨#[], ht (C8, P8) (by simp), trivial⟩, ⟨#[], ht (C14, P14) (by simp), trivial⟩, ⟨#[], ht (C15, P15) (by simp), trivial⟩, ⟨#[], ht (C17, P17) (by simp), trivial⟩, ⟨#[], ht (C18, P18) (by simp), trivial⟩, fun _ => rfl⟩
end
end K07Z

open PySem PySem.W PyProof.Rows in
set_option maxRecDepth 100000 in
set_option maxHeartbeats 0 in
theorem PySem.Challenge.cw_unsaidsizes_k07_books_and_their_faults_holds : PySem.Challenge.rw_unsaidsizes_k07_books_and_their_faults.Holds := by
  w_on; o_law; k_head; (case hw => w_witness2)
  k_fill
  refine LG.walkGT (l := PySem.Challenge.rw_unsaidsizes_k07_books_and_their_faults) (n := 63) (k := 10) (x := "script") ["is_in_range", "_is_word", "_is_named", "_is_too_long", "_has_unknown_name", "_check_part"] rfl (by decide) rfl ⟨rfl, by decide, by decide⟩ (by kernel_rfl) (fun w h Y => PySem.W.kIn_of Y) ?F
  case F =>
    intro w mg fa h KX G hmg bare
    refine' K07Z.all_mk KX G hmg ?a0 ?l0 ?c0 ?k0 ?a1 ?l1 ?c1 ?k1 ?a2 ?l2 ?c2 ?k2 ?a3 ?l3 ?c3 ?k3 ?a4 ?l4 ?c4 ?k4 ?a5 ?l5 ?c5 ?k5 ?a6 ?l6 ?c6 ?k6 ?a7 ?l7 ?c7 ?k7 ?t7 ?p7 ?n7 ?a8 ?l8 ?c8 ?k8 ?t8 ?p8 ?n8 ?a9 ?l9 ?c9 ?k9 ?a10 ?l10 ?c10 ?k10 ?a11 ?l11 ?c11 ?k11 ?a12 ?l12 ?c12 ?k12 ?a13 ?l13 ?c13 ?k13 ?a14 ?l14 ?c14 ?k14 ?t14 ?p14 ?n14 ?a15 ?l15 ?c15 ?k15 ?t15 ?p15 ?n15 ?a16 ?l16 ?c16 ?k16 ?a17 ?l17 ?c17 ?k17 ?t17 ?p17 ?n17 ?a18 ?l18 ?c18 ?k18 ?t18 ?p18 ?n18 ?a19 ?l19 ?c19 ?k19 ?a20 ?l20 ?c20 ?k20 ?a21 ?l21 ?c21 ?k21 ?a22 ?l22 ?c22 ?k22 ?a23 ?l23 ?c23 ?k23 ?a24 ?l24 ?c24 ?k24 ?a25 ?l25 ?c25 ?k25 ?a26 ?l26 ?c26 ?k26 ?a27 ?l27 ?c27 ?k27 ?a28 ?l28 ?c28 ?k28 ?a29 ?l29 ?c29 ?k29 ?a30 ?l30 ?c30 ?k30 ?a31 ?l31 ?c31 ?k31 ?a32 ?l32 ?c32 ?k32 ?a33 ?l33 ?c33 ?k33 ?a34 ?l34 ?c34 ?k34 ?a35 ?l35 ?c35 ?k35 ?a36 ?l36 ?c36 ?k36 ?a37 ?l37 ?c37 ?k37 ?z_abs ?z_all ?z_any ?z_enumerate ?z_int ?z_isinstance ?z_len ?z_list ?z_min ?z_range ?z_repr ?z_str ?w_LETTERS ?w_MOST_NUMBER ?w_MOST_ORDER ?w_MOST_PARTS ?w_SIGNS ?aM ?zV ?vV ?iM ?tM ?bM ?iI ?lI ?cI ?kI ?tI ?xsp ?xtk ?e0_a ?e0_x ?e0_sz ?e0_sa ?e0_ga ?e0_gg ?e0_no ?e0_in ?e0_be ?e0_ty ?e0_ke ?e0_hd ?e0_cl ?e0_at ?e0_mr ?e0_rd ?e0_fc ?e0_sM ?e1_a ?e1_x ?e1_sz ?e1_sa ?e1_ga ?e1_gg ?e1_no ?e1_in ?e1_be ?e1_ty ?e1_ke ?e1_hd ?e1_cl ?e1_at ?e1_mr ?e1_rd ?e1_fc ?e1_sM ?e2_a ?e2_x ?e2_sz ?e2_sa ?e2_ga ?e2_gg ?e2_no ?e2_in ?e2_be ?e2_ty ?e2_ke ?e2_hd ?e2_cl ?e2_at ?e2_mr ?e2_rd ?e2_fc ?e2_sM ?e3_a ?e3_x ?e3_sz ?e3_sa ?e3_ga ?e3_gg ?e3_no ?e3_in ?e3_be ?e3_ty ?e3_ke ?e3_hd ?e3_cl ?e3_at ?e3_mr ?e3_rd ?e3_fc ?e3_sM ?e4_a ?e4_x ?e4_sz ?e4_sa ?e4_ga ?e4_gg ?e4_no ?e4_in ?e4_be ?e4_ty ?e4_ke ?e4_hd ?e4_cl ?e4_at ?e4_mr ?e4_rd ?e4_fc ?e4_sM ?e5_a ?e5_x ?e5_sz ?e5_sa ?e5_ga ?e5_gg ?e5_no ?e5_in ?e5_be ?e5_ty ?e5_ke ?e5_hd ?e5_cl ?e5_at ?e5_mr ?e5_rd ?e5_fc ?e5_sM ?e6_a ?e6_x ?e6_sz ?e6_sa ?e6_ga ?e6_gg ?e6_no ?e6_in ?e6_be ?e6_ty ?e6_ke ?e6_hd ?e6_cl ?e6_at ?e6_mr ?e6_rd ?e6_fc ?e6_sM ?kp0_1 ?kp0_2 ?kp0_3 ?kp0_4 ?kp0_5 ?kp0_6 ?kp1_0 ?kp1_2 ?kp1_3 ?kp1_4 ?kp1_5 ?kp1_6 ?kp2_0 ?kp2_1 ?kp2_3 ?kp2_4 ?kp2_5 ?kp2_6 ?kp3_0 ?kp3_1 ?kp3_2 ?kp3_4 ?kp3_5 ?kp3_6 ?kp4_0 ?kp4_1 ?kp4_2 ?kp4_3 ?kp4_5 ?kp4_6 ?kp5_0 ?kp5_1 ?kp5_2 ?kp5_3 ?kp5_4 ?kp5_6 ?kp6_0 ?kp6_1 ?kp6_2 ?kp6_3 ?kp6_4 ?kp6_5 ?mMP ?lMP bare
    (case a0 => k_is)
    (case l0 => k_is)
    (case c0 => k_is)
    (case k0 => k_is)
    (case a1 => k_is)
    (case l1 => k_is)
    (case c1 => k_is)
    (case k1 => k_is)
    (case a2 => k_is)
    (case l2 => k_is)
    (case c2 => k_is)
    (case k2 => k_is)
    (case a3 => k_is)
    (case l3 => k_is)
    (case c3 => k_is)
    (case k3 => k_is)
    (case a4 => k_is)
    (case l4 => k_is)
    (case c4 => k_is)
    (case k4 => k_is)
    (case a5 => k_is)
    (case l5 => k_is)
    (case c5 => k_is)
    (case k5 => k_is)
    (case a6 => k_is)
    (case l6 => k_is)
    (case c6 => k_is)
    (case k6 => k_is)
    (case a7 => k_is)
    (case l7 => k_is)
    (case c7 => k_is)
    (case k7 => k_is)
    (case t7 => k_is)
    (case p7 => rfl)
    (case n7 => first | kernel_rfl | rfl)
    (case a8 => k_is)
    (case l8 => k_is)
    (case c8 => k_is)
    (case k8 => k_is)
    (case t8 => k_is)
    (case p8 => rfl)
    (case n8 => first | kernel_rfl | rfl)
    (case a9 => k_is)
    (case l9 => k_is)
    (case c9 => k_is)
    (case k9 => k_is)
    (case a10 => k_is)
    (case l10 => k_is)
    (case c10 => k_is)
    (case k10 => k_is)
    (case a11 => k_is)
    (case l11 => k_is)
    (case c11 => k_is)
    (case k11 => k_is)
    (case a12 => k_is)
    (case l12 => k_is)
    (case c12 => k_is)
    (case k12 => k_is)
    (case a13 => k_is)
    (case l13 => k_is)
    (case c13 => k_is)
    (case k13 => k_is)
    (case a14 => k_is)
    (case l14 => k_is)
    (case c14 => k_is)
    (case k14 => k_is)
    (case t14 => k_is)
    (case p14 => rfl)
    (case n14 => first | kernel_rfl | rfl)
    (case a15 => k_is)
    (case l15 => k_is)
    (case c15 => k_is)
    (case k15 => k_is)
    (case t15 => k_is)
    (case p15 => rfl)
    (case n15 => first | kernel_rfl | rfl)
    (case a16 => k_is)
    (case l16 => k_is)
    (case c16 => k_is)
    (case k16 => k_is)
    (case a17 => k_is)
    (case l17 => k_is)
    (case c17 => k_is)
    (case k17 => k_is)
    (case t17 => k_is)
    (case p17 => rfl)
    (case n17 => first | kernel_rfl | rfl)
    (case a18 => k_is)
    (case l18 => k_is)
    (case c18 => k_is)
    (case k18 => k_is)
    (case t18 => k_is)
    (case p18 => rfl)
    (case n18 => first | kernel_rfl | rfl)
    (case a19 => k_is)
    (case l19 => k_is)
    (case c19 => k_is)
    (case k19 => k_is)
    (case a20 => k_is)
    (case l20 => k_is)
    (case c20 => k_is)
    (case k20 => k_is)
    (case a21 => k_is)
    (case l21 => k_is)
    (case c21 => k_is)
    (case k21 => k_is)
    (case a22 => k_is)
    (case l22 => k_is)
    (case c22 => k_is)
    (case k22 => k_is)
    (case a23 => k_is)
    (case l23 => k_is)
    (case c23 => k_is)
    (case k23 => k_is)
    (case a24 => k_is)
    (case l24 => k_is)
    (case c24 => k_is)
    (case k24 => k_is)
    (case a25 => k_is)
    (case l25 => k_is)
    (case c25 => k_is)
    (case k25 => k_is)
    (case a26 => k_is)
    (case l26 => k_is)
    (case c26 => k_is)
    (case k26 => k_is)
    (case a27 => k_is)
    (case l27 => k_is)
    (case c27 => k_is)
    (case k27 => k_is)
    (case a28 => k_is)
    (case l28 => k_is)
    (case c28 => k_is)
    (case k28 => k_is)
    (case a29 => k_is)
    (case l29 => k_is)
    (case c29 => k_is)
    (case k29 => k_is)
    (case a30 => k_is)
    (case l30 => k_is)
    (case c30 => k_is)
    (case k30 => k_is)
    (case a31 => k_is)
    (case l31 => k_is)
    (case c31 => k_is)
    (case k31 => k_is)
    (case a32 => k_is)
    (case l32 => k_is)
    (case c32 => k_is)
    (case k32 => k_is)
    (case a33 => k_is)
    (case l33 => k_is)
    (case c33 => k_is)
    (case k33 => k_is)
    (case a34 => k_is)
    (case l34 => k_is)
    (case c34 => k_is)
    (case k34 => k_is)
    (case a35 => k_is)
    (case l35 => k_is)
    (case c35 => k_is)
    (case k35 => k_is)
    (case a36 => k_is)
    (case l36 => k_is)
    (case c36 => k_is)
    (case k36 => k_is)
    (case a37 => k_is)
    (case l37 => k_is)
    (case c37 => k_is)
    (case k37 => k_is)
    (case z_abs => k_is)
    (case z_all => k_is)
    (case z_any => k_is)
    (case z_enumerate => k_is)
    (case z_int => k_is)
    (case z_isinstance => k_is)
    (case z_len => k_is)
    (case z_list => k_is)
    (case z_min => k_is)
    (case z_range => k_is)
    (case z_repr => k_is)
    (case z_str => k_is)
    (case w_LETTERS => k_is)
    (case w_MOST_NUMBER => k_is)
    (case w_MOST_ORDER => k_is)
    (case w_MOST_PARTS => k_is)
    (case w_SIGNS => k_is)
    (case aM => k_is)
    (case zV => k_is)
    (case vV => k_is)
    (case iM => k_is)
    (case tM => k_is)
    (case bM => k_is)
    (case iI => k_is)
    (case lI => k_is)
    (case cI => k_is)
    (case kI => k_is)
    (case tI => k_is)
    (case xsp => k_is)
    (case xtk => k_is)
    (case e0_a => k_is)
    (case e0_x => k_is)
    (case e0_sz => decide +kernel)
    (case e0_sa => k_is)
    (case e0_ga => k_is)
    (case e0_gg => k_is)
    (case e0_no => k_is)
    (case e0_in => k_is)
    (case e0_be => k_is)
    (case e0_ty => k_is)
    (case e0_ke => k_is)
    (case e0_hd => k_is)
    (case e0_cl => k_is)
    (case e0_at => k_is)
    (case e0_mr => k_is)
    (case e0_rd => k_is)
    (case e0_fc => k_is)
    (case e0_sM => k_is)
    (case e1_a => k_is)
    (case e1_x => k_is)
    (case e1_sz => decide +kernel)
    (case e1_sa => k_is)
    (case e1_ga => k_is)
    (case e1_gg => k_is)
    (case e1_no => k_is)
    (case e1_in => k_is)
    (case e1_be => k_is)
    (case e1_ty => k_is)
    (case e1_ke => k_is)
    (case e1_hd => k_is)
    (case e1_cl => k_is)
    (case e1_at => k_is)
    (case e1_mr => k_is)
    (case e1_rd => k_is)
    (case e1_fc => k_is)
    (case e1_sM => k_is)
    (case e2_a => k_is)
    (case e2_x => k_is)
    (case e2_sz => decide +kernel)
    (case e2_sa => k_is)
    (case e2_ga => k_is)
    (case e2_gg => k_is)
    (case e2_no => k_is)
    (case e2_in => k_is)
    (case e2_be => k_is)
    (case e2_ty => k_is)
    (case e2_ke => k_is)
    (case e2_hd => k_is)
    (case e2_cl => k_is)
    (case e2_at => k_is)
    (case e2_mr => k_is)
    (case e2_rd => k_is)
    (case e2_fc => k_is)
    (case e2_sM => k_is)
    (case e3_a => k_is)
    (case e3_x => k_is)
    (case e3_sz => decide +kernel)
    (case e3_sa => k_is)
    (case e3_ga => k_is)
    (case e3_gg => k_is)
    (case e3_no => k_is)
    (case e3_in => k_is)
    (case e3_be => k_is)
    (case e3_ty => k_is)
    (case e3_ke => k_is)
    (case e3_hd => k_is)
    (case e3_cl => k_is)
    (case e3_at => k_is)
    (case e3_mr => k_is)
    (case e3_rd => k_is)
    (case e3_fc => k_is)
    (case e3_sM => k_is)
    (case e4_a => k_is)
    (case e4_x => k_is)
    (case e4_sz => decide +kernel)
    (case e4_sa => k_is)
    (case e4_ga => k_is)
    (case e4_gg => k_is)
    (case e4_no => k_is)
    (case e4_in => k_is)
    (case e4_be => k_is)
    (case e4_ty => k_is)
    (case e4_ke => k_is)
    (case e4_hd => k_is)
    (case e4_cl => k_is)
    (case e4_at => k_is)
    (case e4_mr => k_is)
    (case e4_rd => k_is)
    (case e4_fc => k_is)
    (case e4_sM => k_is)
    (case e5_a => k_is)
    (case e5_x => k_is)
    (case e5_sz => decide +kernel)
    (case e5_sa => k_is)
    (case e5_ga => k_is)
    (case e5_gg => k_is)
    (case e5_no => k_is)
    (case e5_in => k_is)
    (case e5_be => k_is)
    (case e5_ty => k_is)
    (case e5_ke => k_is)
    (case e5_hd => k_is)
    (case e5_cl => k_is)
    (case e5_at => k_is)
    (case e5_mr => k_is)
    (case e5_rd => k_is)
    (case e5_fc => k_is)
    (case e5_sM => k_is)
    (case e6_a => k_is)
    (case e6_x => k_is)
    (case e6_sz => decide +kernel)
    (case e6_sa => k_is)
    (case e6_ga => k_is)
    (case e6_gg => k_is)
    (case e6_no => k_is)
    (case e6_in => k_is)
    (case e6_be => k_is)
    (case e6_ty => k_is)
    (case e6_ke => k_is)
    (case e6_hd => k_is)
    (case e6_cl => k_is)
    (case e6_at => k_is)
    (case e6_mr => k_is)
    (case e6_rd => k_is)
    (case e6_fc => k_is)
    (case e6_sM => k_is)
    (case kp0_1 => kit_is)
    (case kp0_2 => kit_is)
    (case kp0_3 => kit_is)
    (case kp0_4 => kit_is)
    (case kp0_5 => kit_is)
    (case kp0_6 => kit_is)
    (case kp1_0 => kit_is)
    (case kp1_2 => kit_is)
    (case kp1_3 => kit_is)
    (case kp1_4 => kit_is)
    (case kp1_5 => kit_is)
    (case kp1_6 => kit_is)
    (case kp2_0 => kit_is)
    (case kp2_1 => kit_is)
    (case kp2_3 => kit_is)
    (case kp2_4 => kit_is)
    (case kp2_5 => kit_is)
    (case kp2_6 => kit_is)
    (case kp3_0 => kit_is)
    (case kp3_1 => kit_is)
    (case kp3_2 => kit_is)
    (case kp3_4 => kit_is)
    (case kp3_5 => kit_is)
    (case kp3_6 => kit_is)
    (case kp4_0 => kit_is)
    (case kp4_1 => kit_is)
    (case kp4_2 => kit_is)
    (case kp4_3 => kit_is)
    (case kp4_5 => kit_is)
    (case kp4_6 => kit_is)
    (case kp5_0 => kit_is)
    (case kp5_1 => kit_is)
    (case kp5_2 => kit_is)
    (case kp5_3 => kit_is)
    (case kp5_4 => kit_is)
    (case kp5_6 => kit_is)
    (case kp6_0 => kit_is)
    (case kp6_1 => kit_is)
    (case kp6_2 => kit_is)
    (case kp6_3 => kit_is)
    (case kp6_4 => kit_is)
    (case kp6_5 => kit_is)
    (case mMP => k_is)
    (case lMP => k_is)
