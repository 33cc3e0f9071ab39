import PyProof.Rows.All
import Wide.All
import OpenK.AllK
import Wide.FinOn
import KE.KNest
import PyProof.ReprRoads
import PyProof.StrLawsRepr
import PyProof.FitsInt
import PyProof.StrBlock2
import HandS.Base
import HandS.Call
import HandS.List
import HandS.Comp
import HandS.Nested
import HandS.AnyAll
import HandS.Ends
import HandS.EndBits
import HandS.Iter
import HandS.Wide
import HandS.WideBits
import HandS.Words
import HandS.WordsList
import HandS.IsInst
import HandS.TupLe
import HandS.SetBool
import HandS.Deep
import HandS.Walk
import HandS.Set
import HandS.Strs
import HandS.SortRule
import HandS.Style
import PyProof.ListOps
import PyProof.Rows.SetFrom
import PyProof.SumAny
import KE.KTypeName
import KE.KExcIs
import HandS.Gcd
import HandS.WordsExc
import HandS.Exc
import HandS.ExcOwn
import HandS.ExcInit
import HandS.ExcField
import HandS.FStr
import PySem.Challenge.RW_unsaidsizes_k46_grids_of_models
set_option Elab.async false
set_option linter.all false
set_option maxRecDepth 100000
set_option maxHeartbeats 4000000
-- G
/-! calls under which no text of a list is being made (for repr of lists) -/
namespace LG
open PySem PySem.Spec PyProof.Rows L2
/-- as FnOk, for callers of which it is known that no guard stands -/
structure FnG (P : Program) (w : World) (K : PySem.W.Frag) (mg : Str → Option Value) (base : Heap) (CX : CXT) (k : Nat) (f : Addr) (fd : FuncData) (ps : List Str) (sp : Sp) : Prop where
  len : ∀ vs H Q E, sp vs H Q E → vs.length = ps.length
  run : ∀ (A : Around) (ou : List Env) (s : Shared) (H : Hp) (ar : Args) (us : List Value) (vs : List V) (Q : VK) (E : XK), Room k A → A.guards = some [] → Env0 P w K mg base A ou s H →
    BindsTo s fd ar (ps.zip us) → Vals vs us → sp vs H Q E → codeAny (model P w) A (.call (.ref f) ar) (CR CX ou P w H s Q E) s
section
variable {P : Program} {w : World} {K : PySem.W.Frag} {mg : Str → Option Value} {base : Heap} {CX : CXT} {k : Nat} {f : Addr} {fd : FuncData} {ps : List Str} {sp : Sp}
theorem deeper_guards {A : Around} (e : Env) (h : A.guards = some []) : (A.deeper e).guards = some [] := h
theorem g_of_ok (F : FnOk P w K mg base CX k f fd ps sp) : FnG P w K mg base CX k f fd ps sp := ⟨F.len, fun A ou s H ar us vs Q E hr _ => F.run A ou s H ar us vs Q E hr⟩

/-- a def's body keeps its promise, under known guards -/
theorem fnG_of {nm qu : Str} {pa : Arguments} {bo : List Stmt} {sc : Scope} {dv kv dc pm cd ct oc : Value} {an od : Option Addr} {sl : Array (Option Value)} {N : List Str}
    (hf : K.lookup f = some ⟨oc, od, .func (PySem.W.fnOf nm qu pa bo sc dv kv dc pm an cd ct), sl⟩) (hq : PySem.W.codeIn K cd qu = true) (S : FnScope N ps sc) (ln : ∀ vs H Q E, sp vs H Q E → vs.length = ps.length)
    (hb : ∀ (A : Around) (ou : List Env) (s : Shared) (H : Hp) (vs : List V) (Q : VK) (E : XK), Room k (A.deeper (envOfC qu sc s.heap.objs.size f cd)) → A.guards = some [] → sp vs H Q E →
      ∃ t, PSs (cxOf CX P w K mg base N qu sc f cd A ou s H E) bo t ∧ t { nx := fun _ G => Q .non G, rt := Q } (L2.start N vs) H) :
    FnG P w K mg base CX (k + 1) f (PySem.W.fnOf nm qu pa bo sc dv kv dc pm an cd ct) ps sp := by
  refine ⟨ln, fun A ou s H ar us vs Q E room gd en bd rel want => ?_⟩
  have there : K.In s.heap := en.mod.kin.keeps fun b o z => (en.bs b o z).1
  have nl : s.heap.NoLimit := en.mod.nolimit.keeps fun b o z => (en.bs b o z).1
  refine codeAny_call_function room.depth (there _ _ hf) rfl S.co S.gen rfl (PySem.W.codeRec_of there hq) (bd _ _ _ _ ?_)
  refine wpAny_newFunctionEnv_cells S.kind (fun y hy => ?_) fun env eenv s1 x => ?_
  · obtain ⟨n, v⟩ := y
    exact (S.par n (List.of_mem_zip hy).1).imp id fun q => ⟨q, PySem.W.cellsFrom_some _ _ _ (.inl q)⟩
  subst eenv
  refine ⟨nl.keeps x.toInCall.keep, codeAny_func ?_⟩
  obtain ⟨t, ht, hw⟩ := hb A ou s H vs Q E (room.deeper _) gd want
  have J0 := inv_start (CX := CX) (E := E) S room.hd en (ln _ _ _ _ want) rel x
  refine wpAny_mono (ht.run [] s1 (L2.start N vs) H _ J0 hw) (fun fl s' hs => ?_) fun e s' hs => hs
  cases fl with
  | brk => exact False.elim hs.choose_spec.choose_spec.2
  | cont => exact False.elim hs.choose_spec.choose_spec.2
  | ret u =>
    obtain ⟨v, _, G, J, rv, q⟩ := hs
    exact ⟨v, G, J.os, J.bare, J.base, J.hok, rv, q⟩
  | next =>
    obtain ⟨_, G, J, q⟩ := hs
    exact ⟨V.non, G, J.os, J.bare, J.base, J.hok, rfl, q⟩
/-- .. by the text -/
theorem fun_okG {x qual : Str} {st : Stmt} {N : List Str} (F : Fun K x qual st f fd) (S : FnScope N ps (defScope st)) (ln : ∀ vs H Q E, sp vs H Q E → vs.length = ps.length)
    (hb : ∀ (cd : Value) (A : Around) (ou : List Env) (s : Shared) (H : Hp) (vs : List V) (Q : VK) (E : XK), Room k (A.deeper (envOfC qual (defScope st) s.heap.objs.size f cd)) → A.guards = some [] → sp vs H Q E →
      ∃ t, PSs (cxOf CX0 P w K mg base N qual (defScope st) f cd A ou s H E).nox (defBody st) t ∧ t { nx := fun _ G => Q .non G, rt := Q } (L2.start N vs) H) : FnG P w K mg base CX0 (k + 1) f fd ps sp := by
  obtain ⟨oc, od, kV, doc, pm, an, cd, ct, osl, rfl, lk, hc⟩ := F.ex
  refine fnG_of lk hc S ln fun A ou s H vs Q E hr hg want => ?_
  obtain ⟨t, h, q⟩ := hb cd A ou s H vs Q E hr hg want
  exact ⟨t, h.nox, q⟩
end
section
variable {X : Cx} {CX : CXT} {k : Nat} {f : Addr} {fd : FuncData} {ps : List Str} {sp : Sp} {dvs : List V} {ds : List Value} {E : XK} {x : Str} {p pos : Pos} {e : Expr} {es : List Expr} {t : TA}
theorem pe_callG (F : FnG X.prog X.w X.K X.mg X.base CX k f fd ps sp) (hr : Room k X.A) (gd : X.A.guards = some []) (hg : Gl X x) (hm : X.mg x = some (.ref f)) (hk : PySem.W.keepIn X.K (.ref f) = true) (hb : Binds X.K fd ps ds) (hd : Vals dvs ds) (hx : Passes CX X E)
    (ha : PA X (e :: es) t) (hdb : (x == ("__debug__" : Str)) = false := by decide) (he : starEach (e :: es) X.env = (false, eval e X.env) :: starEach es X.env := by rfl) (hpl : (backTo pos (starEach es X.env)).any (·.1) = false := by rfl) :
    PE X (.Call (.Name x p) (e :: es) [] pos) (tCall sp dvs E t) := by
  refine ⟨fun pins s σ H Q I h => wpAny_Call_Name_kw (ld_glob I hg hm ?_ hdb)⟩
  refine PySem.W.callWith_K (h₀ := X.base) I.ok.mod.kin hk (thn (ha.run pos pins s σ H _ I h) fun us s1 ⟨vs, H1, J, r, q⟩ => ⟨J.kIn, ?_⟩) he hpl
  have r2 : Vals (vs ++ dvs) (us ++ ds) := r.append hd
  have ll : (us ++ ds).length = ps.length := by
    rw [← r2.length]
    exact F.len _ _ _ _ q
  refine wpAny_call (codeAny_mono (F.run X.A X.stack s1 H1 ⟨us, []⟩ (us ++ ds) (vs ++ dvs) Q E hr gd J.env0 (hb s1 us J.kIn ll) r2 q) fun r s' z => ?_)
  cases r with
  | error er => exact hx pins σ H1 s1 er s' J z
  | ok fl =>
    cases fl with
    | ret u => exact J.after z
    | next => exact False.elim z
    | brk => exact False.elim z
    | cont => exact False.elim z
/-- repr of nested data -/
theorem call_reprD (gd : X.A.guards = some []) (hu : X.A.units + 64 < cLine) : CallR X (.builtin "repr") (fun xs H Q => ∃ (a : Addr) (d : PyData), xs = [.ref a] ∧ Dp X.K H (.ref a) d ∧ d.showable = true ∧ d.hasDict = false ∧ d.depth ≤ 60 ∧ d.shown.length ≤ sizeLine ∧ Q (.str d.shown) H) := by
  intro pins s σ H xs us Q I r h
  obtain ⟨a, d, rfl, hd, h1, h2, h3, h4, q⟩ := h
  obtain ⟨u, rfl, e⟩ := vals1 r
  cases (show u = Value.ref a from e)
  obtain ⟨as, rd⟩ := Dp.reads I d (.ref a) (.ref a) hd rfl
  refine PySem.repr_of_reads' rd h1 (fun z => by rw [h2] at z; cases z) gd (by omega) (fun _ _ z => z) (fun h' u tk k => ?_) h4
  exact ⟨.str _, H, I.kept (t' := tk) k, ⟨u, rfl⟩, q⟩
end

/-! the law's own call -/
section
variable {P : Program} {w : World} {K : PySem.W.Frag} {mg mb : Str → Option Value} {k : Nat} {fa a : Addr} {fd : FuncData} {x : Str} {sp : Sp} {s₁ : Shared} {vs : List Value} {ns : List Int}
/-- from one abstract heap, in which the script alone may stand -/
theorem enter (KX : K.In s₁.heap) (gl : s₁.heap.Ns mainGlobals mg) (bl : s₁.heap.Ns builtinsNs mb) (bb : ∀ y : Str, y ≠ "__name__" → mb y = bootBuiltins y) (nl : s₁.heap.NoLimit) (g0 : s₁.gens = #[])
    (at_ : s₁.heap.get? a = some { cls := .type "list", data := .seq vs.toArray }) (room : Room k callerA) (bind : ∀ (s : Shared) (u : Value), BindsTo s fd ⟨[u], []⟩ [(x, u)])
    (F : ∀ base : Heap, K.In base → base.Ns mainGlobals mg → FnG P w K mg base CX0 k fa fd [x] sp) {H : Hp} (only : Only H) (ok : HOk P w H s₁.heap) (alone : ∀ b, H b ≠ none → b = a) (notK : H a ≠ none → K.lookup a = none)
    (want : sp [.ref a] H (fun v _ => v = .bl true) fun _ _ _ => False) :
    codeAny (model P w) callerA (.call (.ref fa) ⟨[.ref a], []⟩) (fun r s' => r = .ok (.ret (.bool true)) ∧ OldK s₁.heap s'.heap ∧ s'.os = s₁.os ∧ AllBare s'.gens) s₁ := by
  have free : ∀ {b : Addr} {o : Obj}, s₁.heap.get? b = some o → (∀ it n, o.data ≠ .seq it n) → H b = none := fun {b o} z nd => by
    cases q : H b with
    | none => rfl
    | some u =>
      obtain rfl := alone b (by rw [q]; exact fun y => nomatch y)
      rw [at_] at z
      cases z
      exact absurd rfl (nd vs.toArray _)
  have nsOf : ∀ {b : Addr} {m : Str → Option Value}, s₁.heap.Ns b m → (hidT s₁.heap H).Ns b m := fun {b m} ⟨o, es, ep, z, d, r⟩ =>
    ⟨o, es, ep, hidT_get z (free z fun it n y => by rw [d] at y; exact nomatch y), d, r⟩
  have inB : K.In (hidT s₁.heap H) := fun b o z => by
    refine hidT_get (KX b o z) ?_
    cases q : H b with
    | none => rfl
    | some u =>
      obtain rfl := alone b (by rw [q]; exact fun y => nomatch y)
      rw [notK (by rw [q]; exact fun y => nomatch y)] at z
      cases z
  have md : Mod K mg (hidT s₁.heap H) := ⟨inB, nsOf gl, ⟨mb, nsOf bl, bb⟩, let ⟨mc, y1, y2⟩ := nl; ⟨mc, nsOf y1, y2⟩⟩
  have en : Env0 P w K mg (hidT s₁.heap H) callerA [] s₁ H := ⟨rfl, md, fun b o z => of_hidT z, Nat.le_of_eq (hidT_size _ _), trivial, fun b z => absurd (show b ∈ ([] : List Addr) from z) (List.not_mem_nil), ok, .of_eq g0⟩
  refine codeAny_mono ((F _ inB (nsOf gl)).run callerA [] s₁ H ⟨[.ref a], []⟩ [.ref a] [.ref a] _ _ room rfl en (bind s₁ (.ref a)) (.cons rfl .nil) want) fun r s' h => ?_
  cases r with
  | error e => exact False.elim h
  | ok fl =>
    cases fl with
    | next => exact False.elim h
    | brk => exact False.elim h
    | cont => exact False.elim h
    | ret u =>
      obtain ⟨v, G, e1, e2, un, okG, rel, q⟩ := h
      obtain rfl : v = V.bl true := q
      obtain rfl : u = Value.bool true := rel
      refine ⟨rfl, OldK.of_keep fun b o z => ?_, e1, e2⟩
      cases q : H b with
      | none => exact un.keep b o z q (fun y => nomatch y) (fun y => nomatch y)
      | some u =>
        rcases only b with y | ⟨ob, xs, y⟩
        · rw [q] at y
          cases y
        · have z1 := (ok b _ y).1
          have z2 := (okG b _ (un.frzs b ob _ y)).1
          rw [z] at z1
          cases z1
          exact z2

theorem enter_all (KX : K.In s₁.heap) (gl : s₁.heap.Ns mainGlobals mg) (bl : s₁.heap.Ns builtinsNs mb) (bb : ∀ y : Str, y ≠ "__name__" → mb y = bootBuiltins y) (nl : s₁.heap.NoLimit) (g0 : s₁.gens = #[])
    (at_ : s₁.heap.get? a = some { cls := .type "list", data := .seq vs.toArray }) (ia : IntsAre vs ns) (small : ns.length ≤ sizeLine) (room : Room k callerA) (bind : ∀ (s : Shared) (u : Value), BindsTo s fd ⟨[u], []⟩ [(x, u)])
    (F : ∀ base : Heap, K.In base → base.Ns mainGlobals mg → FnG P w K mg base CX0 k fa fd [x] sp) (want : ∀ H : Hp, Only H → SqL K H a (ns.map V.int) → sp [.ref a] H (fun v _ => v = .bl true) fun _ _ _ => False) :
    codeAny (model P w) callerA (.call (.ref fa) ⟨[.ref a], []⟩) (fun r s' => r = .ok (.ret (.bool true)) ∧ OldK s₁.heap s'.heap ∧ s'.os = s₁.os ∧ AllBare s'.gens) s₁ := by
  have rel := vals_ints ia
  cases hk : K.lookup a with
  | some o =>
    have z := KX a o hk
    rw [at_] at z
    cases z
    have only : Only (fun _ => none) := fun _ => .inl rfl
    have len := ia.length
    exact enter KX gl bl bb nl g0 at_ room bind F only (fun b u z => by cases z) (fun b z => absurd rfl z) (fun z => absurd rfl z)
      (want _ only (.inr ⟨_, vs.toArray, _, hk, rfl, rfl, rfl, by rw [List.size_toArray, len]; exact small, by simpa using rel⟩))
  | none =>
    let ob : Obj := { cls := .type "list", data := .seq vs.toArray }
    let H : Hp := fun b => if b = a then some (.frz ob (.lst (ns.map V.int))) else none
    have hit : H a = some (.frz ob (.lst (ns.map V.int))) := if_pos rfl
    have one : ∀ b, H b ≠ none → b = a := fun b z => by
      by_cases e : b = a
      · exact e
      · exact absurd (if_neg e) z
    have only : Only H := fun b => by
      by_cases e : b = a
      · exact .inr ⟨ob, ns.map V.int, if_pos e⟩
      · exact .inl (if_neg e)
    refine enter KX gl bl bb nl g0 at_ room bind F only (fun b u z => ?_) one (fun _ => hk) (want H only (.inl (.inr ⟨ob, hit⟩)))
    obtain rfl := one b (by rw [z]; exact fun y => nomatch y)
    rw [hit] at z
    cases z
    exact ⟨at_, by rw [List.length_map]; exact small, vs, _, rel, at_⟩
end
/-- what k_head leaves, from the law's promise -/
theorem walkG {l : PySem.W.OpenLaw} {n k : Nat} {q : Program} {loose : List Str} {XP : (Str → Option Value) → Heap → Prop} {YP : World → Heap → Prop} {d : DefRec} {K : Params → PySem.W.Frag} {sp : PySem.W.Frag → Sp} {x : Str}
    (hn : l.most = some n) (hz : n ≤ sizeLine) (hdf : d.params.defaults = []) (room : Room k callerA) (hY : ∀ (w : World) (h : Heap), YP w h → (K w.params).In h)
    (F : ∀ (w : World) (mg : Str → Option Value) (fa : Addr) (h : Heap), (K w.params).In h → h.Ns mainGlobals mg → mg d.name = some (.ref fa) →
      ∃ fd : FuncData, (∀ (s : Shared) (u : Value), BindsTo s fd ⟨[u], []⟩ [(x, u)]) ∧ ∀ base : Heap, (K w.params).In base → base.Ns mainGlobals mg → FnG l.prog w (K w.params) mg base CX0 k fa fd [x] (sp (K w.params)))
    (want : ∀ (K : PySem.W.Frag) (H : Hp) (a : Addr) (ns : List Int), ns.length ≤ n → Only H → SqL K H a (ns.map V.int) → sp K [.ref a] H (fun v _ => v = .bl true) fun _ _ _ => False) :
    PySem.W.WalkO q loose XP YP l.row.toRowW d [] (fun f vs => PySem.call f vs) := by
  refine Att.attach_call hn hdf fun w s0 s1 mg mb fa o pm cd doc a vs ns G Y ho hd hcd hmg hobj ia len g0 => ?_
  obtain ⟨fd, bi, FF⟩ := F w mg fa _ (hY w _ Y) G.T.g hmg
  exact enter_all (hY w _ Y) G.T.g G.T.b G.T.builtins G.T.nolimit g0 hobj ia (Nat.le_trans len hz) room bi FF fun H only hs => want _ H a ns len only hs
end LG
-- GL
/-! elements of generator expressions that call nothing of the text: values by names, under whatever frames -/
namespace LE
open PySem PySem.Spec PyProof.Rows L2
/-- where such an element is reckoned: the names that it sees, what stands as the def that holds it had it -/
structure Site (X : Cx) (sc : Scope) (H : Hp) (Γ : List (Str × V)) (ce : Env) (t : Shared) : Prop where
  fn : sc.kind = .function
  eqs : ce.scope = sc
  gl : ce.globals = mainGlobals
  bl : ce.builtins = builtinsNs
  mod : Mod X.K X.mg X.base
  bs : ∀ b o, X.base.get? b = some o → t.heap.get? b = some o
  obj : ∀ b u, H b = some u → (∀ q, u ≠ .tbl q) → ObjOk X.prog X.w H t.heap b u
  var : ∀ y v, Γ.lookup y = some v → ∃ u, RelV v u ∧ ((sc.names.lookup y = some .local ∧ ∃ m, t.heap.Ns ce.locals m ∧ m y = some u) ∨ (sc.names.lookup y = some .free ∧ ∃ c, ce.cells.lookup y = some c ∧ t.heap.IsCell c (some u)))
section
variable {X : Cx} {sc : Scope} {H : Hp} {Γ : List (Str × V)} {ce : Env} {t t' : Shared}
theorem Site.keeps (S : Site X sc H Γ ce t) (k : Keeps t t') : Site X sc H Γ ce t' := by
  obtain ⟨h', n, rfl, kk⟩ := k
  refine ⟨S.fn, S.eqs, S.gl, S.bl, S.mod, fun b o e => kk _ _ (S.bs b o e), fun b u e n => (S.obj b u e n).stay (fun c v _ y => kk c v y) (fun _ y => y) fun _ _ y => y, fun y v e => ?_⟩
  obtain ⟨u, r, l⟩ := S.var y v e
  refine ⟨u, r, l.imp (fun ⟨a, m, hn, hm⟩ => ⟨a, m, hn.keeps kk, hm⟩) fun ⟨a, c, hc, o, ho, hd⟩ => ⟨a, c, hc, o, kk _ _ ho, hd⟩⟩
theorem Site.list {p : Addr} {xs : List V} (S : Site X sc H Γ ce t) (h : SqL X.K H p xs) : ∃ its : List Value, Vals xs its ∧ PlainL t.heap p its.toArray ∧ xs.length ≤ sizeLine := by
  rcases h with (h | ⟨o, h⟩) | ⟨o, its, n, hk, hc, hd, hs, hz, r⟩
  · obtain ⟨z, its, n, r, e⟩ := S.obj p _ h fun _ y => nomatch y
    exact ⟨its, r, ⟨_, n, e, rfl, rfl, rfl⟩, z⟩
  · obtain ⟨_, z, its, n, r, e⟩ := S.obj p _ h fun _ y => nomatch y
    exact ⟨its, r, ⟨_, n, e, rfl, rfl, rfl⟩, z⟩
  · refine ⟨its.toList, r, ⟨o, n, S.bs _ _ (S.mod.kin p o hk), hc, hd, by simpa using hs⟩, ?_⟩
    have e := r.length
    simp only [Array.length_toList] at e
    omega
end
/-- e is v there, and nothing is changed -/
def PU (X : Cx) (sc : Scope) (H : Hp) (Γ : List (Str × V)) (e : Expr) (v : V) : Prop :=
  ∀ (ce : Env) (B : Around) (t : Shared) (F R : Value → Shared → Prop), Site X sc H Γ ce t → (∀ u t', RelV v u → Keeps t t' → R u t') → wpAny (model X.prog X.w) B (eval e ce) R F t
theorem kt (s : Shared) (k : Nat) : Keeps s { s with toks := k } := ⟨s.heap, k, rfl, fun _ _ e => e⟩
theorem k0 (s : Shared) : Keeps s s := kt s s.toks
theorem Keeps.on {a b c : Shared} (h : Keeps a b) (h' : Keeps b c) : Keeps a c := by
  obtain ⟨x, n, rfl, k⟩ := h
  obtain ⟨y, m, rfl, k'⟩ := h'
  exact ⟨y, m, rfl, fun i o e => k' i o (k i o e)⟩
section
variable {X : Cx} {sc : Scope} {H : Hp} {Γ : List (Str × V)} {a b : Expr} {pos : Pos}
theorem pu_var {y : Str} {v : V} (h : Γ.lookup y = some v) (hd : (y == ("__debug__" : Str)) = false := by decide) (hcd : (y == ("__classdict__" : Str)) = false := by decide) : PU X sc H Γ (.Name y pos) v := by
  intro ce B t F R S q
  obtain ⟨u, r, l⟩ := S.var y v h
  have fk : ce.scope.kind = .function := by rw [S.eqs]; exact S.fn
  rcases l with ⟨hl, m, hn, hm⟩ | ⟨hl, c, hc, ho⟩
  · exact wpAny_Name (wpAny_loadName_local fk (show ce.scope.names.lookup y = some .local by rw [S.eqs]; exact hl) hn hm (q u t r (k0 t))) hd
  · exact wpAny_Name (wpAny_loadName_free fk (show ce.scope.names.lookup y = some .free by rw [S.eqs]; exact hl) hc ho (q u t r (k0 t)) hcd) hd
theorem pu_int {i : Int} {j : Nat} : PU X sc H Γ (.Constant (.int i) j pos) (.int i) := fun ce B t F R S q => wpAny_Constant_int (q _ _ ⟨_, rfl⟩ (kt t _))
/-- two ints are compared -/
theorem pu_cmp {op : CmpOp} {g : Int → Int → Bool} {i j : Int} (rule : ∀ (B : Around) (i j : Int) (t u : Tok) (s : Shared) (Q : Value → Shared → Prop) (E : Value → Shared → Prop), Q (.bool (g i j)) s → wpAny (model X.prog X.w) B (compareOp op (.int i t) (.int j u)) Q E s)
    (ha : PU X sc H Γ a (.int i)) (hb : PU X sc H Γ b (.int j)) (hm : behindInMarks op b = false := by rfl) : PU X sc H Γ (.Compare a [op] [b] pos) (.bl (g i j)) := by
  intro ce B t F R S q
  refine wpAny_Compare1 (ha ce B t F _ S fun u t1 r1 k1 => hb ce B t1 F _ (S.keeps k1) fun w t2 r2 k2 => ?_) hm
  obtain ⟨_, rfl⟩ := r1
  obtain ⟨_, rfl⟩ := r2
  exact rule _ _ _ _ _ _ _ _ (q _ _ rfl (Keeps.on k1 k2))
theorem pu_lt {i j : Int} (ha : PU X sc H Γ a (.int i)) (hb : PU X sc H Γ b (.int j)) : PU X sc H Γ (.Compare a [.Lt] [b] pos) (.bl (decide (i < j))) := pu_cmp (g := fun i j => decide (i < j)) (fun _ _ _ _ _ _ _ _ q => lt_int q) ha hb (nomark _)
theorem pu_eqI {i j : Int} (ha : PU X sc H Γ a (.int i)) (hb : PU X sc H Γ b (.int j)) : PU X sc H Γ (.Compare a [.Eq] [b] pos) (.bl (decide (i = j))) := by
  intro ce B t F R S q
  refine wpAny_Compare1 (ha ce B t F _ S fun u t1 r1 k1 => hb ce B t1 F _ (S.keeps k1) fun w t2 r2 k2 => ?_) (nomark _)
  obtain ⟨_, rfl⟩ := r1
  obtain ⟨_, rfl⟩ := r2
  exact eq_int (q _ _ (by show _ = _; congr 1) (Keeps.on k1 k2))
theorem pu_sub {i j : Int} (ha : PU X sc H Γ a (.int i)) (hb : PU X sc H Γ b (.int j)) : PU X sc H Γ (.BinOp a .Sub b pos) (.int (i - j)) := by
  intro ce B t F R S q
  refine wpAny_BinOp (ha ce B t F _ S fun u t1 r1 k1 => hb ce B t1 F _ (S.keeps k1) fun w t2 r2 k2 => ?_)
  obtain ⟨_, rfl⟩ := r1
  obtain ⟨_, rfl⟩ := r2
  exact sub_int (q _ _ ⟨_, rfl⟩ (Keeps.on (Keeps.on k1 k2) (kt t2 _)))
theorem pu_non {j : Nat} : PU X sc H Γ (.Constant .none j pos) .non := fun ce B t F R S q => Constant_none (q _ _ rfl (k0 t))
/-- a is not None -/
theorem pu_notN {v : V} {j : Nat} {p : Pos} (ha : PU X sc H Γ a v) : PU X sc H Γ (.Compare a [.IsNot] [.Constant .none j p] pos) (.bl (!decide (v = .non))) := by
  intro ce B t F R S q
  refine wpAny_Compare1 (ha ce B t F _ S fun u t1 r1 k1 => Constant_none (isnot_none_gen (q _ _ ?_ k1))) rfl
  cases v <;> first
    | (cases r1; rfl)
    | (obtain ⟨t, rfl⟩ := r1; rfl)
theorem pu_one {op : BoolOp} {v : V} (ha : PU X sc H Γ a v) : PU X sc H Γ (.BoolOp op [a] pos) v := fun ce B t F R S q => BoolOp_one (ha ce B t F R S q)
theorem pu_and {rest : List Expr} {c r : Bool} (ha : PU X sc H Γ a (.bl c)) (hb : c = true → PU X sc H Γ (.BoolOp .And (b :: rest) pos) (.bl r)) : PU X sc H Γ (.BoolOp .And (a :: b :: rest) pos) (.bl (c && r)) := by
  intro ce B t F R S q
  refine BoolOp_and (ha ce B t F _ S fun u t1 r1 k1 => ?_)
  cases r1
  refine wpAny_truthy_bool ?_
  cases c with
  | true => exact hb rfl ce B t1 F R (S.keeps k1) fun u t2 r2 k2 => q u t2 r2 (Keeps.on k1 k2)
  | false => exact q _ _ rfl k1
/-- an item of a list, by a place from 0 on -/
theorem pu_ix {p : Addr} {xs : List V} {i : Nat} {v : V} (ha : PU X sc H Γ a (.ref p)) (hb : PU X sc H Γ b (.int (i : Int))) (hl : SqL X.K H p xs) (hi : xs[i]? = some v) (hs : PlainIx b := by exact fun _ _ => rfl) : PU X sc H Γ (.Subscript a b pos) v := by
  intro ce B t F R S q
  refine Subscript_ (ha ce B t F _ S fun u t1 r1 k1 => hb ce B t1 F _ (S.keeps k1) fun w t2 r2 k2 => ?_)
  cases r1
  obtain ⟨_, rfl⟩ := r2
  have S2 := (S.keeps k1).keeps k2
  obtain ⟨its, r, pl, hz⟩ := S2.list hl
  obtain ⟨x, ex, rx⟩ := r.get hi
  have hn := line63
  have hlt : i < xs.length := (List.getElem?_eq_some_iff.mp hi).1
  exact item_listR pl.isList (by omega) (by omega) (by simpa using ex) (q _ _ rx (Keeps.on k1 k2)) (hs _ _)
/-- len of a list -/
theorem pu_len {p : Addr} {xs : List V} {np : Pos} (ha : PU X sc H Γ a (.ref p)) (hl : SqL X.K H p xs) (hg : sc.names.lookup ("len" : Str) = some .globalImplicit) (hm : X.mg "len" = none)
    (he : ∀ ce : Env, starEach [a] ce = (false, eval a ce) :: starEach [] ce := by exact fun _ => rfl) : PU X sc H Γ (.Call (.Name "len" np) [a] [] pos) (.int xs.length) := by
  intro ce B t F R S q
  obtain ⟨mb, h1, h2⟩ := S.mod.blt
  refine wpAny_Call_Name_kw (Calls.Name_function_global (by rw [S.eqs]; exact S.fn) (show ce.scope.names.lookup ("len" : Str) = some .globalImplicit by rw [S.eqs]; exact hg)
    (Calls.loadGlobal_builtin (by rw [S.gl]; exact S.mod.glob.keeps S.bs) hm (by rw [S.bl]; exact h1.keeps S.bs) ((h2 "len" (by decide)).trans boot_len) ?_) (by decide))
  refine PyProof.Rows.callWith_builtin1 ?_ (he ce) rfl
  rw [he ce]
  refine Calls.spliced_cons (ha ce B t F _ S fun u t1 r1 k1 => Calls.spliced_nil ?_)
  cases r1
  obtain ⟨its, r, pl, hz⟩ := (S.keeps k1).list hl
  have hn := line63
  have e := r.length
  exact Calls.call_len_list pl.isList (by simp only [List.size_toArray] <;> omega) (q _ _ ⟨_, by rw [List.size_toArray, e]⟩ (Keeps.on k1 (kt t1 _)))
end
end LE
-- GA
/-! any and all of a generator expression over a list, its element reckoned by GL -/
namespace LE
open PySem PySem.Spec PyProof.Rows L2
open GxR (TabB TabG Tabbed GenS)
theorem pair_of_lookup {α : Type} : ∀ {l : List (Str × α)} {y : Str} {v : α}, l.lookup y = some v → (y, v) ∈ l
  | (k, w) :: r, y, v, h => by
    rw [List.lookup_cons] at h
    cases e : y == k with
    | true =>
      rw [e] at h
      have e2 : y = k := by simpa using e
      cases h
      rw [e2]
      exact List.mem_cons_self
    | false =>
      rw [e] at h
      exact List.mem_cons_of_mem _ (pair_of_lookup h)
/-- what is asked of the expression's scope, to be seen by looking -/
structure GOK (ds sc : Scope) (x : Str) : Prop where
  kind : sc.kind = .function
  co : sc.isCoroutine = false
  cell : ∀ y ∈ sc.names, y.2 ≠ .cell
  dot : sc.names.lookup (".0" : Str) = some NameKind.local
  loc : sc.names.lookup x = some .local
  kin : ∀ y ∈ sc.names, y.2 = .free → ds.names.lookup y.1 = some .cell ∨ ds.names.lookup y.1 = some .free
instance {ds sc : Scope} {x : Str} : Decidable (GOK ds sc x) :=
  decidable_of_iff (sc.kind = .function ∧ sc.isCoroutine = false ∧ (∀ y ∈ sc.names, y.2 ≠ .cell) ∧ sc.names.lookup (".0" : Str) = some NameKind.local ∧ sc.names.lookup x = some .local ∧ ∀ y ∈ sc.names, y.2 = .free → ds.names.lookup y.1 = some .cell ∨ ds.names.lookup y.1 = some .free)
    ⟨fun ⟨a, b, c, d, e, f⟩ => ⟨a, b, c, d, e, f⟩, fun ⟨a, b, c, d, e, f⟩ => ⟨a, b, c, d, e, f⟩⟩
def Gsc (X : Cx) (sc : Scope) (x : Str) : Prop := ∃ ds, X.env.scope = ds ∧ GOK ds sc x
theorem Gsc.gens {X : Cx} {sc : Scope} {x : Str} (g : Gsc X sc x) (ok : X.Ok) : GenS X.env sc x := by
  obtain ⟨ds, rfl, h⟩ := g
  exact ⟨h.kind, h.co, h.cell, h.dot, h.loc, fun y hy e => ok.has _ (h.kin y hy e)⟩
/-- the names of the def that the element sees, and what they hold -/
def Seen (X : Cx) (σ : L2.St) (sc : Scope) (Γ : List (Str × V)) : Prop :=
  ∀ y v, Γ.lookup y = some v → ∃ i : Nat, X.N[i]? = some y ∧ σ[i]? = some (some v) ∧ (X.env.scope.names.lookup y = some .cell ∨ X.env.scope.names.lookup y = some .free) ∧ sc.names.lookup y = some .free
theorem seen_nil {X : Cx} {σ : L2.St} {sc : Scope} : Seen X σ sc [] := fun _ _ h => nomatch h
theorem seen_cons {X : Cx} {σ : L2.St} {sc : Scope} {Γ : List (Str × V)} {y : Str} {v : V} (i : Nat) (hN : X.N[i]? = some y) (hσ : σ[i]? = some (some v)) (hk : X.env.scope.names.lookup y = some .cell ∨ X.env.scope.names.lookup y = some .free) (hf : sc.names.lookup y = some .free)
    (r : Seen X σ sc Γ) : Seen X σ sc ((y, v) :: Γ) := fun z w h => by
  rw [List.lookup_cons] at h
  cases e : z == y with
  | true =>
    rw [e] at h
    cases h
    rw [show z = y by simpa using e]
    exact ⟨i, hN, hσ, hk, hf⟩
  | false =>
    rw [e] at h
    exact r z w h
/-- a generator that is ready, of n turns, the j-th one true as tr says -/
def Rdy (X : Cx) (pins : List (Addr × Obj)) (σ : L2.St) (H1 : Hp) (P : Addr) (n : Nat) (tr : Nat → Bool) (g : Addr) (s5 : Shared) : Prop :=
  ∃ (fp wr : List Addr) (G : Array GenState → Array GenState → Prop) (F : Nat → Value → Prop) (St : Nat → Shared → Prop),
    WalksS X.prog X.w X.A.in1 g fp wr G n F St ∧ St 0 s5 ∧ TruthOf X.prog X.w X.A.in1 F tr ∧ ∀ s', Moved wr G s5 s' → ∃ H2, Tabbed P H1 H2 ∧ Inv X pins σ H2 s'
section
variable {X : Cx} {pins : List (Addr × Obj)} {σ : L2.St} {H : Hp} {s : Shared}
/-- the expression's code object: found, or made and put behind the table -/
theorem code_step {c P : Addr} {pos : Pos} {q : Str} {sc : Scope} {ps : Array Value} {R : Value → Shared → Prop} {E : Value → Shared → Prop} {A : Around} {M : Model} {t : Shared} (hcode : X.env.code = .ref c) (cd : PySem.W.CodeHd t.heap c P)
    (hP : t.heap.get? P = some { cls := .none, data := .fields ps }) (ht : TriplesOk ps.toList)
    (go : ∀ (code : Value) (h3 : Heap) (tk : Nat) (more : Array Value), Heap.ExtBut P t.heap h3 → t.heap.objs.size ≤ h3.objs.size → h3.get? P = some { cls := .none, data := .fields (ps ++ more) } → TriplesOk (ps ++ more).toList → R code { t with heap := h3, toks := tk }) :
    wpAny M A (genexprCode X.env pos q sc) R E t := by
  cases e : codeAmong pos ps.toList with
  | some v =>
    refine PySem.wpAny_genexprCode_hit hcode (cd.code hP ht) e ?_
    have z := go v t.heap t.toks #[] (Heap.ExtBut.refl _ _) (Nat.le_refl _) (by rw [Array.append_empty]; exact hP) (by rw [Array.append_empty]; exact ht)
    exact z
  | none =>
    refine PySem.wpAny_genexprCodeX hcode (cd.code hP ht) (cd.tab hP) e fun d h3 tk x ge lt ic _ it _ => go _ h3 tk _ x (Nat.le_trans ge (Nat.le_of_lt lt)) it.2 ?_
    obtain ⟨_, _, _, _, _, _, _, _, _, _, _, _, _, _, _, _, _, _, _, tr, _⟩ := ic
    exact tr
/-- .. for x in a list -/
theorem gen_list {c P : Addr} {elt iter : Expr} {x : Str} {px gpos : Pos} {sc : Scope} {te : TE} {k : Nat} {Q' : Value → Shared → Prop} {R : Nat → (Nat → Bool) → Hp → Prop}
    (hr : Room k X.A) (TB : TabB X.base X.mg c P) (hcode : X.env.code = .ref c) (S : GenS X.env sc x) (hi : PE X iter te) (hs : ∀ v, genFold iter X.env v = pure v) (I : Inv X pins σ H s)
    (h : te σ H fun v H1 => ∃ (a : Addr) (xs : List V) (tr : Nat → Bool) (Γ : List (Str × V)), v = .ref a ∧ SqL X.K H1 a xs ∧ TabG H1 P ∧ Seen X σ sc Γ ∧ (∀ j w, xs[j]? = some w → PU X sc H1 ((x, w) :: Γ) elt (.bl (tr j))) ∧ R xs.length tr H1)
    (hQ : ∀ n tr H1 g s5, R n tr H1 → Rdy X pins σ H1 P n tr g s5 → Q' (.ref g) s5) :
    wpAny (model X.prog X.w) X.A (eval (.GeneratorExp elt [⟨.Name x px, iter, [], 0⟩] sc gpos) X.env) Q' X.xe s := by
  refine wpAny_GeneratorExp_walksQ hr.hd S.co (closure_ok S.free) S.cell S.dot S.loc S.kind (by have := hr.dp; omega) ?_ hs
  refine thn (hi.run pins s σ H _ I h) fun u s1 ⟨v, H1, I1, r1, a, xs, tr, Γ, ev, hl, ⟨ps, hP, ht⟩, sn, hel, hR⟩ => ?_
  subst ev
  cases (show u = Value.ref a from r1)
  obtain ⟨its, rv, pl, hz⟩ := I1.list hl
  have nlen := rv.length
  refine wpAny_pyIter_list pl.isList ?_
  -- the iterator stands behind all else
  have kp : ∀ b o, s1.heap.get? b = some o → (s1.heap.push { cls := .type "list_iterator", data := .fields #[.ref a, .int 0 0] }).get? b = some o := fun b o e => Heap.get?_push_of_some _ e
  have oP : s1.heap.get? P = some { cls := .none, data := .fields ps } := I1.hok P _ hP
  have nl2 : (s1.heap.push { cls := .type "list_iterator", data := .fields #[.ref a, .int 0 0] }).NoLimit := I1.nolimit.push _
  have hsz2 : (s1.heap.push { cls := .type "list_iterator", data := .fields #[.ref a, .int 0 0] }).objs.size = s1.heap.objs.size + 1 := Heap.size_push ..
  have itA : (s1.heap.push { cls := .type "list_iterator", data := .fields #[.ref a, .int 0 0] }).IsListIter s1.heap.objs.size a 0 := ⟨_, Heap.get?_push_size _ rfl, rfl, rfl⟩
  have hal : a < s1.heap.objs.size := by
    obtain ⟨o, e, _⟩ := pl.isList
    exact Heap.lt_size e
  refine ⟨nl2, code_step (ps := ps) hcode (TB.code.keeps fun b o e => kp b o (I1.bk b o e)) (kp _ _ oP) ht fun code h3 tk more ex ge hP3 ht3 => ?_⟩
  have ge : s1.heap.objs.size + 1 ≤ h3.objs.size := by
    rw [← hsz2]
    exact ge
  obtain ⟨bm, ob, e1, e2, e3, e4, e5, e6, e7, e8⟩ := TB.bm
  have k3 : ∀ b o, b ≠ P → s1.heap.get? b = some o → h3.get? b = some o := fun b o n e => ex b o n (kp b o e)
  refine wpAny_builtinsFor (m := X.mg) (by rw [I1.ok.glob]; exact ((I1.mod.glob.keeps I1.bk).keeps kp).extBut ex TB.gP) e1 e2 (k3 _ _ e4 (I1.bk _ _ e5)) e6 e7 e8 ?_
  have aP : a ≠ P := fun z => by
    obtain ⟨o, e, d, n, e'⟩ := pl.isList
    rw [z, oP] at e
    cases e
    cases e'
  have iP : s1.heap.objs.size ≠ P := fun z => by
    have := Heap.lt_size oP
    rw [← z] at this
    exact Nat.lt_irrefl _ this
  have cP : cStatics ≠ P := fun z => by
    obtain ⟨_, ⟨o, es, ep, ho, hd, _⟩, _⟩ := I1.nolimit
    rw [z, oP] at ho
    cases ho
    cases hd
  have cl : cStatics < s1.heap.objs.size := let ⟨_, q, _⟩ := I1.nolimit; q.lt
  refine ⟨s1.heap.objs.size, [s1.heap.objs.size, a], [s1.heap.objs.size], its.toArray.size, fun i v => its.toArray[i]? = some v, fun i h => h.IsListIter s1.heap.objs.size a i ∧ h.IsList a its.toArray, fun _ => true, fun i y => y = .bool (tr i), rfl,
    fun A' hA => Walks.list hA _ _ (Nat.ne_of_lt hal) _, ⟨itA.at fun o e => ex _ o iP e, ?_⟩, fun b hb => ?_, nl2.extBut ex cP, fun z => ?_, fun href hk => ⟨fun A' E' i v t m _ _ _ _ _ => ?_, fun A' E' i v t m hA hv _ hn hm kk => ?_⟩, fun g h5 tk5 gs bare lt5 sz5 k5 W at5 => ?_⟩
  · obtain ⟨o, e, r⟩ := pl.isList
    exact ⟨o, k3 a o aP e, r⟩
  · show b < h3.objs.size
    rcases List.mem_cons.mp hb with z | z
    · rw [z]
      exact Nat.lt_of_lt_of_le (Nat.lt_succ_self _) ge
    · rw [List.mem_singleton.mp z]
      exact Nat.lt_of_lt_of_le (Nat.lt_succ_of_lt hal) ge
  · have z2 := List.mem_singleton.mp z
    rw [z2] at cl
    exact Nat.lt_irrefl _ cl
  · rw [List.forIn_nil]
    exact wpAny_pure ⟨rfl, k0 t⟩
  · -- one element
    have up : ∀ b o, b ≠ P → s1.heap.get? b = some o → t.heap.get? b = some o := fun b o n e => by
      have lb := Heap.lt_size e
      refine kk b (List.mem_range.mpr (show b < h3.objs.size from Nat.lt_of_lt_of_le (Nat.lt_succ_of_lt lb) ge)) (fun y => ?_) o (hk b o (k3 b o n e))
      rw [List.mem_singleton.mp y] at lb
      exact Nat.lt_irrefl _ lb
    have hv' : its[i]? = some v := by simpa using hv
    obtain ⟨w, ew, rw'⟩ : ∃ w, xs[i]? = some w ∧ RelV w v := by
      have lt : i < xs.length := by
        rw [nlen]
        exact (List.getElem?_eq_some_iff.mp hv').1
      obtain ⟨y, ey, ry⟩ := rv.get (List.getElem?_eq_getElem lt)
      rw [hv'] at ey
      cases ey
      exact ⟨_, List.getElem?_eq_getElem lt, ry⟩
    refine hel i w ew _ A' t E' _ ?_ fun u t' ru ku => ⟨ru, ku⟩
    refine ⟨S.kind, rfl, I1.ok.glob, rfl, I1.mod, fun b o e => up b o (fun z => ?_) (I1.bk b o e), fun b o e n => (I1.hok b o e).stay (fun d y hd ey => up d y (fun z => ?_) ey) (fun _ y => y) fun _ _ y => y, fun y v' e => ?_⟩
    · have := (I1.bs b o e).2
      rw [z, hP] at this
      cases this
    · rcases hd with q | q
      · rw [← q, z, hP] at e
        exact n ps (Option.some.inj e).symm
      · rw [z, hP] at q
        cases q
    · rw [List.lookup_cons] at e
      cases b : y == x with
      | true =>
        rw [b] at e
        have e' : y = x := by simpa using b
        cases e
        exact ⟨v, rw', .inl ⟨by rw [e']; exact S.loc, m, hn, by rw [e']; exact hm⟩⟩
      | false =>
        rw [b] at e
        obtain ⟨j, hN, hσ, hv2, hf⟩ := sn y v' e
        obtain ⟨m1, _, hl1⟩ := I1.loc
        obtain ⟨u, ru, lk⟩ := hl1 j y v' hN hσ (.inr hv2)
        rcases lk with ⟨q1, _⟩ | ⟨_, cc, hc, hcell⟩
        · have q1' : X.env.scope.names.lookup y = some .local := q1
          rcases hv2 with q2 | q2 <;> (rw [q1'] at q2; cases q2)
        · obtain ⟨oc, ec, dc⟩ := hcell
          refine ⟨u, ru, .inr ⟨hf, cc, NdefX.clo_has S.free (pair_of_lookup hf) hc, oc, up cc oc (fun z => ?_) ec, dc⟩⟩
          rw [z, oP] at ec
          cases ec
          cases dc
  · -- behind its making
    simp only [GxR.passing_true, List.length_range] at W
    have en : its.toArray.size = xs.length := by rw [List.size_toArray, nlen]
    refine hQ its.toArray.size tr H1 g _ (by rw [en]; exact hR) ⟨_, _, _, _, _, W.in4_1, at5, fun j y sj Qj Ej hy hq => ?_, fun s' mv => ?_⟩
    · obtain ⟨i, hij, rfl⟩ := hy
      obtain ⟨_, ej⟩ := List.getElem?_eq_some_iff.mp hij
      rw [List.getElem_range] at ej
      rw [← ej]
      exact wpAny_truthy_bool hq
    · have out : ∀ b o, s1.heap.get? b = some o → b ∉ h3.objs.size :: [s1.heap.objs.size] := fun b o e y => by
        have lb := Heap.lt_size e
        rcases List.mem_cons.mp y with z | z
        · rw [z] at lb
          have : (h3.objs.size : Nat) < s1.heap.objs.size := lb
          omega
        · rw [List.mem_singleton.mp z] at lb
          exact Nat.lt_irrefl _ lb
      have J := GxR.inv_tab (more := more) (h' := s'.heap) (g' := s'.gens) (d' := s'.drawn) (t' := s'.toks) I1 hP (fun b o n e => mv.heap b o (out b o e) (k5 b o (k3 b o n e))) (mv.heap P _ (out P _ oP) (k5 P _ hP3)) (AllBare.movedS (I1.bare.push bare) mv)
      rw [GxR.sh_eta s1 s' mv.os] at J
      exact ⟨_, ⟨⟨_, upd_same, ht3⟩, fun b n => upd_ne n⟩, J⟩
/-- any(test for x in a list), all(..) -/
def tGenL (X : Cx) (P : Addr) (x : Str) (sc : Scope) (elt : Expr) (fold : Nat → (Nat → Bool) → Bool) (te : TE) : TE := fun σ H Q => te σ H fun v H1 => ∃ (a : Addr) (xs : List V) (tr : Nat → Bool) (Γ : List (Str × V)), v = .ref a ∧ SqL X.K H1 a xs ∧ TabG H1 P ∧
  Seen X σ sc Γ ∧ (∀ j w, xs[j]? = some w → PU X sc H1 ((x, w) :: Γ) elt (.bl (tr j))) ∧ ∀ H2, Tabbed P H1 H2 → Q (.bl (fold xs.length tr)) H2
def anyTo (n : Nat) (tr : Nat → Bool) : Bool := (List.range n).any tr
def allTo (n : Nat) (tr : Nat → Bool) : Bool := (List.range n).all tr
section
variable {c P : Addr} {elt iter : Expr} {x : Str} {px p pos gpos : Pos} {sc : Scope} {te : TE} {k : Nat}
theorem pe_anyL (hr : Room k X.A) (hg : Gl X "any") (hm : X.mg "any" = none) (TB : TabB X.base X.mg c P) (hcode : X.env.code = .ref c) (S : Gsc X sc x) (hi : PE X iter te) (hs : ∀ v, genFold iter X.env v = pure v)
    (he : starEach [.GeneratorExp elt [⟨.Name x px, iter, [], 0⟩] sc gpos] X.env = (false, eval (.GeneratorExp elt [⟨.Name x px, iter, [], 0⟩] sc gpos) X.env) :: starEach [] X.env := by rfl) :
    PE X (.Call (.Name "any" p) [.GeneratorExp elt [⟨.Name x px, iter, [], 0⟩] sc gpos] [] pos) (tGenL X P x sc elt anyTo te) := by
  refine ⟨fun pins s σ H Q I h => wpAny_Call_Name_kw (ld_blt I hg hm boot_any (PyProof.Rows.callWith_builtin1 ?_ he (by rfl)))⟩
  rw [he]
  refine Calls.spliced_cons (gen_list (R := fun n tr H1 => ∀ H2, Tabbed P H1 H2 → Q (.bl (anyTo n tr)) H2) hr TB hcode (S.gens I.ok) hi hs I h fun n tr H1 g s5 hR ⟨fp, wr, G, F, sq, W, h0, tt, aft⟩ => Calls.spliced_nil ?_)
  refine call_any_walkS (W.self 0 _ _ _ h0 ⟨g, fp, wr, G, _, F, sq, _, rfl, W, h0, tt, fun s' mv => ?_⟩)
  obtain ⟨H2, T, J⟩ := aft s' mv
  exact ⟨.bl _, H2, J, rfl, hR H2 T⟩
theorem pe_allL (hr : Room k X.A) (hg : Gl X "all") (hm : X.mg "all" = none) (TB : TabB X.base X.mg c P) (hcode : X.env.code = .ref c) (S : Gsc X sc x) (hi : PE X iter te) (hs : ∀ v, genFold iter X.env v = pure v)
    (he : starEach [.GeneratorExp elt [⟨.Name x px, iter, [], 0⟩] sc gpos] X.env = (false, eval (.GeneratorExp elt [⟨.Name x px, iter, [], 0⟩] sc gpos) X.env) :: starEach [] X.env := by rfl) :
    PE X (.Call (.Name "all" p) [.GeneratorExp elt [⟨.Name x px, iter, [], 0⟩] sc gpos] [] pos) (tGenL X P x sc elt allTo te) := by
  refine ⟨fun pins s σ H Q I h => wpAny_Call_Name_kw (ld_blt I hg hm (by decide +kernel : bootBuiltins "all" = some (.builtin "all")) (PyProof.Rows.callWith_builtin1 ?_ he (by rfl)))⟩
  rw [he]
  refine Calls.spliced_cons (gen_list (R := fun n tr H1 => ∀ H2, Tabbed P H1 H2 → Q (.bl (allTo n tr)) H2) hr TB hcode (S.gens I.ok) hi hs I h fun n tr H1 g s5 hR ⟨fp, wr, G, F, sq, W, h0, tt, aft⟩ => Calls.spliced_nil ?_)
  refine call_all_walkS (W.self 0 _ _ _ h0 ⟨g, fp, wr, G, _, F, sq, _, rfl, W, h0, tt, fun s' mv => ?_⟩)
  obtain ⟨H2, T, J⟩ := aft s' mv
  exact ⟨.bl _, H2, J, rfl, hR H2 T⟩
end
end
end LE
-- GB
/-! any and all of a generator expression over enumerate(a list) -/
namespace LE
open PySem PySem.Spec PyProof.Rows L2
open GxR (TabB TabG Tabbed GenS)
section
variable {X : Cx} {pins : List (Addr × Obj)} {σ : L2.St} {H : Hp} {s : Shared}
/-- what the element sees, from what stands where the generator is made -/
theorem site_of {P : Addr} {ps : Array Value} {sc : Scope} {x : Str} {Γ L : List (Str × V)} {ce : Env} {s1 t : Shared} {H1 : Hp} {m : Str → Option Value} (S : GenS X.env sc x) (I1 : Inv X pins σ H1 s1) (hP : H1 P = some (.tbl ps)) (sn : Seen X σ sc Γ)
    (up : ∀ b o, b ≠ P → s1.heap.get? b = some o → t.heap.get? b = some o) (es : ce.scope = sc) (eg : ce.globals = mainGlobals) (eb : ce.builtins = builtinsNs) (ec : ce.cells = cloFrom X.env.cells sc.names [])
    (hn : t.heap.Ns ce.locals m) (loc : ∀ y v, L.lookup y = some v → sc.names.lookup y = some .local ∧ ∃ u, RelV v u ∧ m y = some u) : Site X sc H1 (L ++ Γ) ce t := by
  have oP : s1.heap.get? P = some { cls := .none, data := .fields ps } := I1.hok P _ hP
  refine ⟨S.kind, es, eg, eb, I1.mod, fun b o e => up b o (fun z => ?_) (I1.bk b o e), fun b o e n => (I1.hok b o e).stay (fun d y hd ey => up d y (fun z => ?_) ey) (fun _ y => y) fun _ _ y => y, fun y v e => ?_⟩
  · have := (I1.bs b o e).2
    rw [z, hP] at this
    cases this
  · rcases hd with q | q
    · rw [← q, z, hP] at e
      exact n ps (Option.some.inj e).symm
    · rw [z, hP] at q
      cases q
  · have split : ∀ L : List (Str × V), (L ++ Γ).lookup y = some v → L.lookup y = some v ∨ Γ.lookup y = some v := fun L => by
      induction L with
      | nil => exact fun z => .inr z
      | cons p r ih =>
        intro z
        rw [List.cons_append, List.lookup_cons] at z
        rw [List.lookup_cons]
        cases q : y == p.1 with
        | true =>
          rw [q] at z
          exact .inl z
        | false =>
          rw [q] at z
          exact ih z
    rcases split L e with e | e
    · obtain ⟨hl, u, ru, hm⟩ := loc y v e
      exact ⟨u, ru, .inl ⟨hl, m, hn, hm⟩⟩
    · obtain ⟨j, hN, hσ, hv2, hf⟩ := sn y v e
      obtain ⟨m1, _, hl1⟩ := I1.loc
      obtain ⟨u, ru, lk⟩ := hl1 j y v hN hσ (.inr hv2)
      rcases lk with ⟨q1, _⟩ | ⟨_, cc, hc, hcell⟩
      · have q1' : X.env.scope.names.lookup y = some .local := q1
        rcases hv2 with q2 | q2 <;> (rw [q1'] at q2; cases q2)
      · obtain ⟨oc, e1, dc⟩ := hcell
        refine ⟨u, ru, .inr ⟨hf, cc, by rw [ec]; exact NdefX.clo_has S.free (pair_of_lookup hf) hc, oc, up cc oc (fun z => ?_) e1, dc⟩⟩
        rw [z, oP] at e1
        cases e1
        cases dc
theorem gen_enum {c P : Addr} {elt e : Expr} {xa xb : Str} {pa pb pt ep np gpos : Pos} {kt : Nat} {sc : Scope} {ta : TA} {k : Nat} {Q' : Value → Shared → Prop} {R : Nat → (Nat → Bool) → Hp → Prop}
    (hr : Room k X.A) (TB : TabB X.base X.mg c P) (hcode : X.env.code = .ref c) (S : GenS X.env sc xa) (hb : sc.names.lookup xb = some .local) (hab : xa ≠ xb) (hg : Gl X "enumerate") (hm : X.mg "enumerate" = none) (hi : PA X [e] ta)
    (hst : starEach [e] X.env = [(false, eval e X.env)]) (hs : ∀ v, genFold (.Call (.Name "enumerate" np) [e] [] ep) X.env v = pure v) (I : Inv X pins σ H s)
    (h : ta σ H fun vs H1 => ∃ (a : Addr) (xs : List V) (tr : Nat → Bool) (Γ : List (Str × V)), vs = [.ref a] ∧ SqL X.K H1 a xs ∧ TabG H1 P ∧ Seen X σ sc Γ ∧ (∀ j w, xs[j]? = some w → PU X sc H1 ([(xb, w), (xa, .int (j : Int))] ++ Γ) elt (.bl (tr j))) ∧ R xs.length tr H1)
    (hQ : ∀ n tr H1 g s5, R n tr H1 → Rdy X pins σ H1 P n tr g s5 → Q' (.ref g) s5) :
    wpAny (model X.prog X.w) X.A (eval (.GeneratorExp elt [⟨.Tuple [.Name xa pa, .Name xb pb] kt pt, .Call (.Name "enumerate" np) [e] [] ep, [], 0⟩] sc gpos) X.env) Q' X.xe s := by
  refine wpAny_GeneratorExp_walksQT hr.hd S.co (closure_ok S.free) S.cell S.dot S.loc hb hab S.kind (by have := hr.dp; omega) ?_ hs
  refine Call_ (ld_blt I hg hm boot_enumerate (PyProof.Rows.callWith_type1 (thn (hi.run ep pins s σ H _ I h) fun us s1 ⟨vs, H1, I1, r1, a, xs, tr, Γ, ev, hl, ⟨ps, hP, ht⟩, sn, hel, hR⟩ => ?_) hst rfl))
  subst ev
  obtain ⟨u, rfl, r2⟩ := vals1 r1
  cases (show u = Value.ref a from r2)
  obtain ⟨its, rv, pl, hz⟩ := I1.list hl
  have nlen := rv.length
  have oP : s1.heap.get? P = some { cls := .none, data := .fields ps } := I1.hok P _ hP
  have hal : a < s1.heap.objs.size := by
    obtain ⟨o, q, _⟩ := pl.isList
    exact Heap.lt_size q
  refine call_enumerate_list pl.isList fun h2 en2 it2 sz2 kp => wpAny_pyIter_enum en2 ?_
  have nl2 : h2.NoLimit := I1.nolimit.keeps kp
  refine ⟨nl2, code_step (ps := ps) hcode (TB.code.keeps fun b o q => kp b o (I1.bk b o q)) (kp _ _ oP) ht fun code h3 tk more ex ge hP3 ht3 => ?_⟩
  have ge : s1.heap.objs.size + 2 ≤ h3.objs.size := by
    rw [← sz2]
    exact ge
  obtain ⟨bm, ob, e1, e2, e3, e4, e5, e6, e7, e8⟩ := TB.bm
  have k3 : ∀ b o, b ≠ P → s1.heap.get? b = some o → h3.get? b = some o := fun b o n q => ex b o n (kp b o q)
  refine wpAny_builtinsFor (m := X.mg) (by rw [I1.ok.glob]; exact ((I1.mod.glob.keeps I1.bk).keeps kp).extBut ex TB.gP) e1 e2 (k3 _ _ e4 (I1.bk _ _ e5)) e6 e7 e8 ?_
  have aP : a ≠ P := fun z => by
    obtain ⟨o, q, d, n, q'⟩ := pl.isList
    rw [z, oP] at q
    cases q
    cases q'
  have Plt : P < s1.heap.objs.size := Heap.lt_size oP
  have nP : ∀ b : Addr, s1.heap.objs.size ≤ b → b ≠ P := fun b q z => by
    rw [z] at q
    exact absurd (Nat.lt_of_lt_of_le Plt q) (Nat.lt_irrefl _)
  have cP : cStatics ≠ P := fun z => by
    obtain ⟨_, ⟨o, es, q, ho, hd, _⟩, _⟩ := I1.nolimit
    rw [z, oP] at ho
    cases ho
    cases hd
  have cl : cStatics < s1.heap.objs.size := let ⟨_, q, _⟩ := I1.nolimit; q.lt
  have young : ∀ b, b ∈ [s1.heap.objs.size + 1, s1.heap.objs.size] → s1.heap.objs.size ≤ b := fun b q => by
    rcases List.mem_cons.mp q with z | z
    · rw [z]; exact Nat.le_succ _
    · rw [List.mem_singleton.mp z]; exact Nat.le_refl _
  refine ⟨s1.heap.objs.size + 1, [s1.heap.objs.size + 1, s1.heap.objs.size, a], [s1.heap.objs.size + 1, s1.heap.objs.size], its.toArray.size, fun i vals => ∃ t x, its.toArray[i]? = some x ∧ vals = #[.int i t, x], _, _, fun _ => true, fun i y => y = .bool (tr i), rfl,
    fun A' hA => (WalksT.enumerate hA _ _ _ (Nat.succ_ne_self _) (Nat.ne_of_lt (Nat.lt_succ_of_lt hal)) (Nat.ne_of_lt hal) its.toArray).toU, fun i vals ⟨t, x, _, q⟩ => ⟨_, _, q⟩, ⟨⟨.none, ex _ _ (nP _ (Nat.le_succ _)) en2⟩, it2.at fun o q => ex _ o (nP _ (Nat.le_refl _)) q, ?_⟩, fun b hb2 => ?_, nl2.extBut ex cP, fun z => ?_,
    fun href hk => ⟨fun A' E' i va vb t m _ _ _ _ _ _ => ?_, fun A' E' i va vb t m hA hv _ hn hm1 hm2 kk => ?_⟩, fun g h5 tk5 gs bare lt5 sz5 k5 W at5 => ?_⟩
  · obtain ⟨o, q, r⟩ := pl.isList
    exact ⟨o, k3 a o aP q, r⟩
  · show b < h3.objs.size
    rcases List.mem_cons.mp hb2 with z | z
    · rw [z]
      exact Nat.lt_of_lt_of_le (Nat.lt_succ_self _) ge
    · rcases List.mem_cons.mp z with z | z
      · rw [z]
        exact Nat.lt_of_lt_of_le (Nat.lt_succ_of_lt (Nat.lt_succ_self _)) ge
      · rw [List.mem_singleton.mp z]
        exact Nat.lt_of_lt_of_le (Nat.lt_succ_of_lt (Nat.lt_succ_of_lt hal)) ge
  · exact absurd (Nat.lt_of_lt_of_le cl (young _ z)) (Nat.lt_irrefl _)
  · rw [List.forIn_nil]
    exact wpAny_pure ⟨rfl, k0 t⟩
  · have up : ∀ b o, b ≠ P → s1.heap.get? b = some o → t.heap.get? b = some o := fun b o n q => by
      have lb := Heap.lt_size q
      exact kk b (List.mem_range.mpr (show b < h3.objs.size from Nat.lt_of_lt_of_le (Nat.lt_succ_of_lt (Nat.lt_succ_of_lt lb)) ge)) (fun y => absurd (Nat.lt_of_lt_of_le lb (young _ y)) (Nat.lt_irrefl _)) o (hk b o (k3 b o n q))
    obtain ⟨tk', x, hx, ev⟩ := hv
    have ev' : va = .int i tk' ∧ vb = x := by simpa using ev
    obtain ⟨rfl, rfl⟩ := ev'
    have hv' : its[i]? = some vb := by simpa using hx
    obtain ⟨w, ew, rw'⟩ : ∃ w, xs[i]? = some w ∧ RelV w vb := by
      have lt : i < xs.length := by
        rw [nlen]
        exact (List.getElem?_eq_some_iff.mp hv').1
      obtain ⟨y, ey, ry⟩ := rv.get (List.getElem?_eq_getElem lt)
      rw [hv'] at ey
      cases ey
      exact ⟨_, List.getElem?_eq_getElem lt, ry⟩
    refine hel i w ew _ A' t E' _ (site_of S I1 hP sn up rfl I1.ok.glob rfl rfl hn fun y v q => ?_) fun u t' ru ku => ⟨ru, ku⟩
    rw [List.lookup_cons] at q
    cases b1 : y == xb with
    | true =>
      rw [b1] at q
      cases q
      rw [show y = xb by simpa using b1]
      exact ⟨hb, vb, rw', hm2⟩
    | false =>
      rw [b1, List.lookup_cons] at q
      cases b2 : y == xa with
      | true =>
        rw [b2] at q
        cases q
        rw [show y = xa by simpa using b2]
        exact ⟨S.loc, _, ⟨_, rfl⟩, hm1⟩
      | false =>
        rw [b2] at q
        cases q
  · simp only [GxR.passing_true, List.length_range] at W
    have en : its.toArray.size = xs.length := by rw [List.size_toArray, nlen]
    refine hQ its.toArray.size tr H1 g _ (by rw [en]; exact hR) ⟨_, _, _, _, _, W.in4_1, at5, fun j y sj Qj Ej hy hq => ?_, fun s' mv => ?_⟩
    · obtain ⟨i, hij, rfl⟩ := hy
      obtain ⟨_, ej⟩ := List.getElem?_eq_some_iff.mp hij
      rw [List.getElem_range] at ej
      rw [← ej]
      exact wpAny_truthy_bool hq
    · have out : ∀ b o, s1.heap.get? b = some o → b ∉ h3.objs.size :: [s1.heap.objs.size + 1, s1.heap.objs.size] := fun b o q y => by
        have lb := Heap.lt_size q
        rcases List.mem_cons.mp y with z | z
        · rw [z] at lb
          exact absurd (Nat.lt_of_le_of_lt (Nat.le_trans (Nat.le_succ _) (Nat.le_trans (Nat.le_succ _) ge)) lb) (Nat.lt_irrefl _)
        · exact absurd (Nat.lt_of_lt_of_le lb (young _ z)) (Nat.lt_irrefl _)
      have J := GxR.inv_tab (more := more) (h' := s'.heap) (g' := s'.gens) (d' := s'.drawn) (t' := s'.toks) I1 hP (fun b o n q => mv.heap b o (out b o q) (k5 b o (k3 b o n q))) (mv.heap P _ (out P _ oP) (k5 P _ hP3)) (AllBare.movedS (I1.bare.push bare) mv)
      rw [GxR.sh_eta s1 s' mv.os] at J
      exact ⟨_, ⟨⟨_, upd_same, ht3⟩, fun b n => upd_ne n⟩, J⟩
def tGenE (X : Cx) (P : Addr) (xa xb : Str) (sc : Scope) (elt : Expr) (fold : Nat → (Nat → Bool) → Bool) (ta : TA) : TE := fun σ H Q => ta σ H fun vs H1 => ∃ (a : Addr) (xs : List V) (tr : Nat → Bool) (Γ : List (Str × V)), vs = [.ref a] ∧ SqL X.K H1 a xs ∧ TabG H1 P ∧
  Seen X σ sc Γ ∧ (∀ j w, xs[j]? = some w → PU X sc H1 ([(xb, w), (xa, .int (j : Int))] ++ Γ) elt (.bl (tr j))) ∧ ∀ H2, Tabbed P H1 H2 → Q (.bl (fold xs.length tr)) H2
section
variable {c P : Addr} {elt e : Expr} {xa xb : Str} {pa pb pt ep np p pos gpos : Pos} {kt : Nat} {sc : Scope} {ta : TA} {k : Nat}
theorem pe_anyE (hr : Room k X.A) (hg : Gl X "any") (hm : X.mg "any" = none) (TB : TabB X.base X.mg c P) (hcode : X.env.code = .ref c) (S : Gsc X sc xa) (hb : sc.names.lookup xb = some .local) (hab : xa ≠ xb) (hge : Gl X "enumerate") (hme : X.mg "enumerate" = none)
    (hi : PA X [e] ta) (hst : starEach [e] X.env = [(false, eval e X.env)]) (hs : ∀ v, genFold (.Call (.Name "enumerate" np) [e] [] ep) X.env v = pure v)
    (he : starEach [.GeneratorExp elt [⟨.Tuple [.Name xa pa, .Name xb pb] kt pt, .Call (.Name "enumerate" np) [e] [] ep, [], 0⟩] sc gpos] X.env = (false, eval (.GeneratorExp elt [⟨.Tuple [.Name xa pa, .Name xb pb] kt pt, .Call (.Name "enumerate" np) [e] [] ep, [], 0⟩] sc gpos) X.env) :: starEach [] X.env := by rfl) :
    PE X (.Call (.Name "any" p) [.GeneratorExp elt [⟨.Tuple [.Name xa pa, .Name xb pb] kt pt, .Call (.Name "enumerate" np) [e] [] ep, [], 0⟩] sc gpos] [] pos) (tGenE X P xa xb sc elt anyTo ta) := by
  refine ⟨fun pins s σ H Q I h => wpAny_Call_Name_kw (ld_blt I hg hm boot_any (PyProof.Rows.callWith_builtin1 ?_ he (by rfl)))⟩
  rw [he]
  refine Calls.spliced_cons (gen_enum (R := fun n tr H1 => ∀ H2, Tabbed P H1 H2 → Q (.bl (anyTo n tr)) H2) hr TB hcode (S.gens I.ok) hb hab hge hme hi hst hs I h fun n tr H1 g s5 hR ⟨fp, wr, G, F, sq, W, h0, tt, aft⟩ => Calls.spliced_nil ?_)
  refine call_any_walkS (W.self 0 _ _ _ h0 ⟨g, fp, wr, G, _, F, sq, _, rfl, W, h0, tt, fun s' mv => ?_⟩)
  obtain ⟨H2, T, J⟩ := aft s' mv
  exact ⟨.bl _, H2, J, rfl, hR H2 T⟩
end
end
end LE
-- GT
/-! the law's own call under known guards, with the tables of the code objects that hold generator expressions -/
namespace LG
open PySem PySem.Spec PyProof.Rows L2
open GxR (TabB)
section
variable {P : Program} {w : World} {K : PySem.W.Frag} {mg mb : Str → Option Value} {k : Nat} {fa a : Addr} {fd : FuncData} {x : Str} {sp : Sp} {s₁ : Shared} {vs : List Value} {ns : List Int} {cs : List (Addr × Addr)}
/-- the abstract heap at the start: the script (if it is no written thing), the tables, nothing else -/
structure Begin (K : PySem.W.Frag) (cs : List (Addr × Addr)) (a : Addr) (H : Hp) : Prop where
  tab : ∀ p ∈ cs, H p.2 = some (.tbl #[])
  only : ∀ b u, H b = some u → (b ∈ cs.map (·.2) ∧ u = .tbl #[]) ∨ (b = a ∧ K.lookup a = none ∧ ∃ o xs, u = .frz o (.lst xs))
theorem enterT (KX : K.In s₁.heap) (gl : s₁.heap.Ns mainGlobals mg) (bl : s₁.heap.Ns builtinsNs mb) (bb : ∀ y : Str, y ≠ "__name__" → mb y = bootBuiltins y) (nl : s₁.heap.NoLimit) (g0 : s₁.gens = #[])
    (tb : ∀ p ∈ cs, s₁.heap.get? p.2 = some { cls := .none, data := .fields #[] }) (nk : ∀ p ∈ cs, K.lookup p.2 = none) (hd : ∀ p ∈ cs, PySem.W.CodeHd s₁.heap p.1 p.2)
    (bmn : ∃ (bm : Addr) (ob : Obj), mg "__builtins__" = some (.ref bm) ∧ bm ≠ builtinsNs ∧ s₁.heap.get? bm = some ob ∧ ob.cls = .type "module" ∧ ob.dict = some builtinsNs ∧ ob.data = .plain)
    (at_ : s₁.heap.get? a = some { cls := .type "list", data := .seq vs.toArray }) (room : Room k callerA) (bind : ∀ (s : Shared) (u : Value), BindsTo s fd ⟨[u], []⟩ [(x, u)])
    (F : ∀ base : Heap, K.In base → base.Ns mainGlobals mg → (∀ p ∈ cs, TabB base mg p.1 p.2) → FnG P w K mg base CX0 k fa fd [x] sp) {H : Hp} (bg : Begin K cs a H) (ok : HOk P w H s₁.heap)
    (want : sp [.ref a] H (fun v _ => v = .bl true) fun _ _ _ => False) :
    codeAny (model P w) callerA (.call (.ref fa) ⟨[.ref a], []⟩) (fun r s' => r = .ok (.ret (.bool true)) ∧ OldK s₁.heap s'.heap ∧ s'.os = s₁.os ∧ AllBare s'.gens) s₁ := by
  have tbm : ∀ b, b ∈ cs.map (·.2) → s₁.heap.get? b = some { cls := .none, data := .fields #[] } := fun b z => by
    obtain ⟨p, hp, rfl⟩ := List.mem_map.mp z
    exact tb p hp
  -- what is no list and no table is not told of
  have free : ∀ {b : Addr} {o : Obj}, s₁.heap.get? b = some o → (∀ it n, o.data ≠ .seq it n) → o.data ≠ .fields #[] → H b = none := fun {b o} z nd nf => by
    cases q : H b with
    | none => rfl
    | some u =>
      rcases bg.only b u q with ⟨m, _⟩ | ⟨rfl, _⟩
      · rw [tbm b m] at z
        cases z
        exact absurd rfl nf
      · rw [at_] at z
        cases z
        exact absurd rfl (nd vs.toArray _)
  have dic : ∀ {b : Addr} {o : Obj} {es : Array DictEntry} {ep : Nat}, s₁.heap.get? b = some o → o.data = .dict es ep → H b = none := fun {b o es ep} z d => free z (fun it n y => by rw [d] at y; exact nomatch y) fun y => by rw [d] at y; exact nomatch y
  have nsOf : ∀ {b : Addr} {m : Str → Option Value}, s₁.heap.Ns b m → (hidT s₁.heap H).Ns b m := fun {b m} ⟨o, es, ep, z, d, r⟩ => ⟨o, es, ep, hidT_get z (dic z d), d, r⟩
  have inB : K.In (hidT s₁.heap H) := fun b o z => by
    refine hidT_get (KX b o z) ?_
    cases q : H b with
    | none => rfl
    | some u =>
      rcases bg.only b u q with ⟨m, _⟩ | ⟨rfl, nl, _⟩
      · obtain ⟨p, hp, rfl⟩ := List.mem_map.mp m
        rw [nk p hp] at z
        cases z
      · rw [nl] at z
        cases z
  have md : Mod K mg (hidT s₁.heap H) := ⟨inB, nsOf gl, ⟨mb, nsOf bl, bb⟩, let ⟨mc, y1, y2⟩ := nl; ⟨mc, nsOf y1, y2⟩⟩
  have tabs : ∀ p ∈ cs, TabB (hidT s₁.heap H) mg p.1 p.2 := fun p hp => by
    have hP := tb p hp
    refine ⟨?_, ?_, fun z => ?_⟩
    · obtain ⟨o, us, f, tf, fl, tg, i, t, tt, z, c1, c2, c3, r⟩ := hd p hp
      refine ⟨o, us, f, tf, fl, tg, i, t, tt, hidT_get z (free z (fun it n y => by rw [c2] at y; exact nomatch y) fun y => ?_), c1, c2, c3, r⟩
      rw [c2] at y
      cases y
      simp at c3
    · obtain ⟨bm, ob, b1, b2, b3, b4, b5, b6⟩ := bmn
      refine ⟨bm, ob, b1, b2, fun z => ?_, fun z => ?_, hidT_get b3 (free b3 (fun it n y => by rw [b6] at y; exact nomatch y) fun y => by rw [b6] at y; exact nomatch y), b4, b5, b6⟩
      · obtain ⟨o, es, ep, e, d, _⟩ := gl
        rw [z, e] at b3
        cases b3
        rw [d] at b6
        exact nomatch b6
      · rw [z, hP] at b3
        cases b3
        exact nomatch b6
    · obtain ⟨o, es, ep, e, d, _⟩ := gl
      rw [z, hP] at e
      cases e
      exact nomatch d
  have en : Env0 P w K mg (hidT s₁.heap H) callerA [] s₁ H := ⟨rfl, md, fun b o z => of_hidT z, Nat.le_of_eq (hidT_size _ _), trivial, fun b z => absurd (show b ∈ ([] : List Addr) from z) (List.not_mem_nil), ok, .of_eq g0⟩
  refine codeAny_mono ((F _ inB (nsOf gl) tabs).run callerA [] s₁ H ⟨[.ref a], []⟩ [.ref a] [.ref a] _ _ room rfl en (bind s₁ (.ref a)) (.cons rfl .nil) want) fun r s' h => ?_
  cases r with
  | error e => exact False.elim h
  | ok fl =>
    cases fl with
    | next => exact False.elim h
    | brk => exact False.elim h
    | cont => exact False.elim h
    | ret u =>
      obtain ⟨v, G, e1, e2, un, okG, rel, q⟩ := h
      obtain rfl : v = V.bl true := q
      obtain rfl : u = Value.bool true := rel
      -- a table may have grown, all else stands
      have grow : ∀ p ∈ cs, ∃ more : Array Value, s'.heap.get? p.2 = some { cls := .none, data := .fields more } := fun p hp => by
        obtain ⟨more, z⟩ := un.tbls p.2 #[] (bg.tab p hp)
        exact ⟨_, okG p.2 _ z⟩
      have stay : ∀ b o, b ∉ cs.map (·.2) → s₁.heap.get? b = some o → s'.heap.get? b = some o := fun b o nb z => by
        cases q : H b with
        | none => exact un.keep b o z q (fun y => nomatch y) (fun y => nomatch y)
        | some u =>
          rcases bg.only b u q with ⟨m, _⟩ | ⟨_, _, ob, xs, rfl⟩
          · exact absurd m nb
          · have z1 := (ok b _ q).1
            have z2 := (okG b _ (un.frzs b ob _ q)).1
            rw [z] at z1
            cases z1
            exact z2
      refine ⟨rfl, ⟨fun b o z => ?_, fun b o z => ?_⟩, e1, e2⟩
      · by_cases m : b ∈ cs.map (·.2)
        · obtain ⟨p, hp, rfl⟩ := List.mem_map.mp m
          obtain ⟨more, hm⟩ := grow p hp
          rw [tb p hp] at z
          cases z
          exact .inr (.inl ⟨((hd p hp).tab (tb p hp)).isCodeTable, rfl, #[], more, rfl, by rw [Array.empty_append]; exact hm⟩)
        · exact .inl (stay b o m z)
      · by_cases m : b ∈ cs.map (·.2)
        · obtain ⟨p, hp, rfl⟩ := List.mem_map.mp m
          obtain ⟨more, hm⟩ := grow p hp
          exact ⟨_, hm⟩
        · exact ⟨o, stay b o m z⟩
theorem enterT_all (KX : K.In s₁.heap) (gl : s₁.heap.Ns mainGlobals mg) (bl : s₁.heap.Ns builtinsNs mb) (bb : ∀ y : Str, y ≠ "__name__" → mb y = bootBuiltins y) (nl : s₁.heap.NoLimit) (g0 : s₁.gens = #[])
    (tb : ∀ p ∈ cs, s₁.heap.get? p.2 = some { cls := .none, data := .fields #[] }) (nk : ∀ p ∈ cs, K.lookup p.2 = none) (hd : ∀ p ∈ cs, PySem.W.CodeHd s₁.heap p.1 p.2)
    (bmn : ∃ (bm : Addr) (ob : Obj), mg "__builtins__" = some (.ref bm) ∧ bm ≠ builtinsNs ∧ s₁.heap.get? bm = some ob ∧ ob.cls = .type "module" ∧ ob.dict = some builtinsNs ∧ ob.data = .plain)
    (at_ : s₁.heap.get? a = some { cls := .type "list", data := .seq vs.toArray }) (ia : IntsAre vs ns) (small : ns.length ≤ sizeLine) (room : Room k callerA) (bind : ∀ (s : Shared) (u : Value), BindsTo s fd ⟨[u], []⟩ [(x, u)])
    (F : ∀ base : Heap, K.In base → base.Ns mainGlobals mg → (∀ p ∈ cs, TabB base mg p.1 p.2) → FnG P w K mg base CX0 k fa fd [x] sp)
    (want : ∀ H : Hp, (∀ p ∈ cs, H p.2 = some (.tbl #[])) → SqL K H a (ns.map V.int) → sp [.ref a] H (fun v _ => v = .bl true) fun _ _ _ => False) :
    codeAny (model P w) callerA (.call (.ref fa) ⟨[.ref a], []⟩) (fun r s' => r = .ok (.ret (.bool true)) ∧ OldK s₁.heap s'.heap ∧ s'.os = s₁.os ∧ AllBare s'.gens) s₁ := by
  have rel := vals_ints ia
  have len := ia.length
  have tbm : ∀ b, b ∈ cs.map (·.2) → s₁.heap.get? b = some { cls := .none, data := .fields #[] } := fun b z => by
    obtain ⟨p, hp, rfl⟩ := List.mem_map.mp z
    exact tb p hp
  have an : a ∉ cs.map (·.2) := fun z => by
    have e := tbm a z
    rw [at_] at e
    exact nomatch congrArg Obj.data (Option.some.inj e)
  have mem : ∀ p ∈ cs, p.2 ∈ cs.map (·.2) := fun p hp => List.mem_map.mpr ⟨p, hp, rfl⟩
  cases hk : K.lookup a with
  | some o =>
    have z := KX a o hk
    rw [at_] at z
    cases z
    let H : Hp := fun b => if b ∈ cs.map (·.2) then some (.tbl #[]) else none
    have e1 : ∀ b, b ∈ cs.map (·.2) → H b = some (.tbl #[]) := fun b m => if_pos m
    have e2 : ∀ b u, H b = some u → b ∈ cs.map (·.2) ∧ u = .tbl #[] := fun b u z => by
      by_cases m : b ∈ cs.map (·.2)
      · rw [e1 b m] at z
        cases z
        exact ⟨m, rfl⟩
      · rw [show H b = none from if_neg m] at z
        cases z
    refine enterT KX gl bl bb nl g0 tb nk hd bmn at_ room bind F (H := H) ⟨fun p hp => e1 _ (mem p hp), fun b u z => .inl (e2 b u z)⟩ (fun b u z => ?_)
      (want H (fun p hp => e1 _ (mem p hp)) (.inr ⟨_, vs.toArray, _, hk, rfl, rfl, rfl, by rw [List.size_toArray, len]; exact small, by simpa using rel⟩))
    obtain ⟨m, rfl⟩ := e2 b u z
    exact tbm b m
  | none =>
    let ob : Obj := { cls := .type "list", data := .seq vs.toArray }
    let H : Hp := fun b => if b = a then some (.frz ob (.lst (ns.map V.int))) else if b ∈ cs.map (·.2) then some (.tbl #[]) else none
    have hit : H a = some (.frz ob (.lst (ns.map V.int))) := if_pos rfl
    have e1 : ∀ b, b ∈ cs.map (·.2) → H b = some (.tbl #[]) := fun b m => (if_neg (fun z => an (by rw [← z]; exact m))).trans (if_pos m)
    have e2 : ∀ b u, H b = some u → (b ∈ cs.map (·.2) ∧ u = .tbl #[]) ∨ (b = a ∧ u = .frz ob (.lst (ns.map V.int))) := fun b u z => by
      by_cases i : b = a
      · rw [i, hit] at z
        cases z
        exact .inr ⟨i, rfl⟩
      · by_cases m : b ∈ cs.map (·.2)
        · rw [e1 b m] at z
          cases z
          exact .inl ⟨m, rfl⟩
        · rw [show H b = none from (if_neg i).trans (if_neg m)] at z
          cases z
    refine enterT KX gl bl bb nl g0 tb nk hd bmn at_ room bind F (H := H) ⟨fun p hp => e1 _ (mem p hp), fun b u z => (e2 b u z).imp id fun ⟨i, e⟩ => ⟨i, hk, ob, _, e⟩⟩ (fun b u z => ?_) (want H (fun p hp => e1 _ (mem p hp)) (.inl (.inr ⟨ob, hit⟩)))
    rcases e2 b u z with ⟨m, rfl⟩ | ⟨rfl, rfl⟩
    · exact tbm b m
    · exact ⟨at_, by rw [List.length_map]; exact small, vs, _, rel, at_⟩
end
/-- a def of the text whose code object's table is empty at the law's start -/
def Bare (mg : Str → Option Value) (h : Heap) (nm : Str) : Prop := ∃ (a c P : Addr) (o : Obj) (fd : FuncData), mg nm = some (.ref a) ∧ h.get? a = some o ∧ o.data = .func fd ∧ fd.code = .ref c ∧ PySem.W.CodeHd h c P ∧ h.get? P = some { cls := .none, data := .fields #[] }
/-- what k_head leaves, from the law's promise; nms: the defs that hold generator expressions -/
theorem walkGT {l : PySem.W.OpenLaw} {n k : Nat} {q : Program} {loose : List Str} {XP : (Str → Option Value) → Heap → Prop} {YP : World → Heap → Prop} {d : DefRec} {K : Params → PySem.W.Frag} {x : Str} (nms : List Str)
    (hn : l.most = some n) (hz : n ≤ sizeLine) (hdf : d.params.defaults = []) (room : Room k callerA) (hrec : (nms.all fun nm => (recsOf q).any fun e => e.name == nm) = true) (hY : ∀ (w : World) (h : Heap), YP w h → (K w.params).In h)
    (F : ∀ (w : World) (mg : Str → Option Value) (fa : Addr) (h : Heap), (K w.params).In h → h.Ns mainGlobals mg → mg d.name = some (.ref fa) → (∀ nm ∈ nms, Bare mg h nm) →
      ∃ (fd : FuncData) (cs : List (Addr × Addr)) (sp : Sp), (∀ p ∈ cs, h.get? p.2 = some { cls := .none, data := .fields #[] }) ∧ (∀ p ∈ cs, (K w.params).lookup p.2 = none) ∧ (∀ p ∈ cs, PySem.W.CodeHd h p.1 p.2) ∧ (∀ (s : Shared) (u : Value), BindsTo s fd ⟨[u], []⟩ [(x, u)]) ∧
        (∀ (H : Hp) (a : Addr) (ns : List Int), ns.length ≤ n → (∀ p ∈ cs, H p.2 = some (.tbl #[])) → SqL (K w.params) H a (ns.map V.int) → sp [.ref a] H (fun v _ => v = .bl true) fun _ _ _ => False) ∧
        ∀ base : Heap, (K w.params).In base → base.Ns mainGlobals mg → (∀ p ∈ cs, TabB base mg p.1 p.2) → FnG l.prog w (K w.params) mg base CX0 k fa fd [x] sp) :
    PySem.W.WalkO q loose XP YP l.row.toRowW d [] (fun f vs => PySem.call f vs) := by
  refine Att.attach_call hn hdf fun w s0 s1 mg mb fa o pm cd doc a vs ns G Y ho hd hcd hmg hobj ia len g0 => ?_
  obtain ⟨fd, cs, sp, t1, t2, t3, bi, wt, FF⟩ := F w mg fa _ (hY w _ Y) G.T.g hmg fun nm hnm => by
    obtain ⟨e, he, en⟩ := List.any_eq_true.mp (List.all_eq_true.mp hrec nm hnm)
    obtain ⟨b, o2, fd2, c2, P2, h1, h2, h3, h4, h5, h6⟩ := G.T.tab e he
    rw [beq_iff_eq.mp en] at h1
    exact ⟨b, c2, P2, o2, fd2, h1, h2, h3, h4, PySem.W.CodeHd.of h5 h6, h6.2⟩
  exact enterT_all (hY w _ Y) G.T.g G.T.b G.T.builtins G.T.nolimit g0 t1 t2 t3 G.T.bmain hobj ia (Nat.le_trans len hz) room bi FF fun H ht hs => wt H a ns len ht hs
end LG
-- SL
/-! sum(a list of lists, a list); set(a list of ints) -/
namespace LM
open PySem PySem.Spec PyProof.Rows L2
section
variable {prog : Program} {w : World} {A : Around} {R : Result → Shared → Prop}
abbrev lob (xs : Array Value) (n : Nat) : Obj := { cls := .type "list", dict := none, data := .seq xs n, slots := #[] }
/-- what stands while the lists are put together: h0 is the heap ahead, acc holds what is put together -/
structure Mid (h0 : Heap) (I S l : Addr) (items : Array Value) (i : Nat) (acc : Addr) (p : Array Value) (m : Nat) (h : Heap) : Prop where
  keep : ∀ b o, h0.get? b = some o → h.get? b = some o
  it : h.IsListIter I l i
  st : ∃ c, h.get? S = some (lob #[.ref acc] c)
  ac : h.get? acc = some (lob p m)
  aI : acc ≠ I
  aS : acc ≠ S
theorem loop (hh : A.handled = none) {b0 : Addr} {h0 : Heap} {I S l : Addr} {items : Array Value} {c : Nat → Addr} {ys : Nat → Array Value} {nn : Nat → Nat} {pre : Nat → Array Value} (hl : h0.IsList l items) (lI : l ≠ I) (gI : h0.objs.size ≤ I) (nI : h0.get? I = none) (nS : h0.get? S = none) (IS : I ≠ S)
    (hi : ∀ j, j < items.size → items[j]? = some (.ref (c j)) ∧ h0.get? (c j) = some (lob (ys j) (nn j))) (hp : ∀ j, j < items.size → pre (j + 1) = pre j ++ ys j) (hz : ∀ j, j ≤ items.size → (pre j).size ≤ sizeLine) :
    ∀ (k i : Nat) (s : Shared) (acc : Addr) (m : Nat), items.size - i = k → i ≤ items.size → Mid h0 I S l items i acc (pre i) m s.heap → (i = 0 ∧ acc = b0) ∨ h0.objs.size ≤ acc →
      (∀ h' tk acc' m', (∀ b o, h0.get? b = some o → h'.get? b = some o) → h'.get? acc' = some (lob (pre items.size) m') → (items.size = 0 ∧ acc' = b0) ∨ h0.objs.size ≤ acc' → R (.ok (.ret (.ref acc'))) { s with heap := h', toks := tk }) →
      codeAny (model prog w) A (.builtin "sum.loop" ⟨[.ref I, .ref S, rawInt 2, rawInt 0], []⟩) R s := by
  have ne0 : ∀ {b : Addr} {o : Obj} {x : Addr}, h0.get? b = some o → h0.get? x = none → b ≠ x := fun e n z => by
    rw [z, n] at e
    cases e
  intro k
  induction k with
  | zero =>
    intro i s acc m hk hle M fr hR
    obtain rfl : i = items.size := by omega
    obtain ⟨cc, hS⟩ := M.st
    refine codeAny_builtin F.entry_sum_loop ?_; rw [Around.under_plainId F.plain_sum_loop _]
    show wpAny _ A.in1 (seqItems? (.ref S) >>= _) _ _ s; refine wpAny_bind (wpAny_seqItems hS rfl ?_)
    show wpAny _ A.in1 (tryCatch (pyNext (.ref I)) _ >>= _) _ _ s; refine wpAny_bind (wpAny_tryCatch ((Walks.list (A := A.in1) hh I l lI items).done s _ _ ⟨M.it, hl.at fun o e => M.keep _ o e⟩ fun h' tk kk => ?_))
    exact wpAny_pure (hR h' tk acc m (fun b o e => kk b o (fun z => ne0 e nI (List.mem_singleton.mp z)) (M.keep b o e)) (kk _ _ (fun z => M.aI (List.mem_singleton.mp z)) M.ac) fr)
  | succ k ih =>
    intro i s acc m hk hle M fr hR
    have hlt : i < items.size := by omega
    obtain ⟨cc, hS⟩ := M.st
    refine codeAny_builtin F.entry_sum_loop ?_; rw [Around.under_plainId F.plain_sum_loop _]
    show wpAny _ A.in1 (seqItems? (.ref S) >>= _) _ _ s; refine wpAny_bind (wpAny_seqItems hS rfl ?_)
    show wpAny _ A.in1 (tryCatch (pyNext (.ref I)) _ >>= _) _ _ s
    refine wpAny_bind (wpAny_tryCatch ((Walks.list (A := A.in1) hh I l lI items).item i s _ _ hlt ⟨M.it, hl.at fun o e => M.keep _ o e⟩ fun v h1 tk1 hv st1 kk => ?_))
    obtain ⟨e1, e2⟩ := hi i hlt
    rw [e1] at hv
    cases hv
    have sub : ∀ {b : Addr}, b ≠ I → b ∉ [I] := fun n z => n (List.mem_singleton.mp z)
    have k1 : ∀ b o, h0.get? b = some o → h1.get? b = some o := fun b o e => kk b o (sub (ne0 e nI)) (M.keep b o e)
    have S1 := kk S _ (sub (Ne.symm IS)) hS
    have A1 := kk acc _ (sub M.aI) M.ac
    have lt : ∀ {b : Addr} {o : Obj}, h1.get? b = some o → b ≠ h1.objs.size := fun e => Nat.ne_of_lt (Heap.lt_size e)
    show wpAny _ A.in1 ((holding [Value.ref (c i)] (binaryOp .Add (.ref acc) (.ref (c i)))).attempt >>= _) _ _ _
    refine wpAny_bind (wpAny_attempt (wpAny_holding (PySem.P.add_list A1 (k1 _ _ e2) ?_ (by have := hz (i + 1) hlt; rw [hp i hlt, Array.size_append] at this; exact this))))
    -- the new list takes the elder one's place
    have S2 : (h1.push (lob (pre i ++ ys i) 0)).get? S = some (lob #[.ref acc] cc) := Heap.get?_push_of_some _ S1
    show wpAny _ A.in1 (updateSeq S (fun _ => #[Value.ref h1.objs.size]) >>= _) _ _ _; refine wpAny_bind (wpAny_updateSeq S2 rfl ?_)
    have S3 := Heap.get?_update_self (Obj.mapSeq fun _ => #[Value.ref h1.objs.size]) S2 rfl
    refine wpAny_bind (wpAny_letGo ?_); refine wpAny_bind (wpAny_updateSeq S3 rfl ?_)
    have S4 := Heap.get?_update_self (Obj.mapSeq fun _ => #[Value.ref h1.objs.size]) S3 rfl
    have k4 : ∀ b o, b ≠ S → h1.get? b = some o → (((h1.push (lob (pre i ++ ys i) 0)).update S (Obj.mapSeq fun _ => #[Value.ref h1.objs.size])).update S (Obj.mapSeq fun _ => #[Value.ref h1.objs.size])).get? b = some o := fun b o n e =>
      (Heap.get?_update_other _ _ (Ne.symm n)).trans ((Heap.get?_update_other _ _ (Ne.symm n)).trans (Heap.get?_push_of_some _ e))
    have aS : h1.objs.size ≠ S := fun z => lt S1 z.symm
    have aI : h1.objs.size ≠ I := fun z => by
      obtain ⟨o, e, _⟩ := st1.1
      exact lt e z.symm
    refine wpAny_pure ⟨plainId_quiet F.plain_sum_loop _, ih (i + 1) _ h1.objs.size 0 (by omega) hlt ⟨fun b o e => k4 b o (ne0 e nS) (k1 b o e), st1.1.at fun o e => k4 I o IS e, ⟨_, S4⟩, ?_, aI, aS⟩ (.inr ?_) fun h' tk acc' m' q1 q2 q3 => hR h' tk acc' m' q1 q2 q3⟩
    rotate_left
    · obtain ⟨o, e, _⟩ := st1.1
      exact Nat.le_of_lt (Nat.lt_of_le_of_lt gI (Heap.lt_size e))
    rw [hp i hlt]
    exact (Heap.get?_update_other _ _ (Ne.symm aS)).trans ((Heap.get?_update_other _ _ (Ne.symm aS)).trans (Heap.get?_push_size _ rfl))
theorem args2 (a b : Value) : argsOk "sum" ⟨[a, b], []⟩ := by unfold argsOk; kernel_rfl
theorem sum_lists {E : Value → Shared → Prop} {Q : Value → Shared → Prop} {s : Shared} (hh : A.handled = none) {l b : Addr} {items bs : Array Value} {nb : Nat} {c : Nat → Addr} {ys : Nat → Array Value} {nn : Nat → Nat} {pre : Nat → Array Value} (hl : s.heap.IsList l items) (hb : s.heap.get? b = some (lob bs nb))
    (hi : ∀ j, j < items.size → items[j]? = some (.ref (c j)) ∧ s.heap.get? (c j) = some (lob (ys j) (nn j))) (h0 : pre 0 = bs) (hp : ∀ j, j < items.size → pre (j + 1) = pre j ++ ys j) (hz : ∀ j, j ≤ items.size → (pre j).size ≤ sizeLine)
    (hQ : ∀ h' tk acc m, (∀ b o, s.heap.get? b = some o → h'.get? b = some o) → h'.get? acc = some (lob (pre items.size) m) → (items.size = 0 ∧ acc = b) ∨ s.heap.objs.size ≤ acc → Q (.ref acc) { s with heap := h', toks := tk }) :
    wpAny (model prog w) A (call (.builtin "sum") [.ref l, .ref b]) Q E s := by
  refine call_function_tree F.kind_sum F.plain_sum F.entry_sum (args2 _ _) ?_
  unfold Builtin.«sum»
  simp only [List.length_cons, List.length_nil]; rw [if_neg (by decide)]
  refine wpAny_bind (wpAny_of_eq (show Builtin.Builtins.bindParams "sum" ["start"] 0 ⟨[.ref b], []⟩ = pure [some (.ref b)] from rfl) ?_)
  refine wpAny_bind (wpAny_pyIter_list hl ?_)
  refine wpAny_bind (wpAny_pure ?_)
  have ob : (s.heap.push { cls := .type "list_iterator", data := .fields #[.ref l, .int 0 0] }).get? b = some (lob bs nb) := Heap.get?_push_of_some _ hb
  have ty : Shared.TypeIs { s with heap := s.heap.push { cls := .type "list_iterator", data := .fields #[.ref l, .int 0 0] } } (.ref b) "list" := ⟨_, ob, rfl⟩
  simp only [List.forIn_cons, List.forIn_nil]
  refine wpAny_bind (wpAny_bind (wpAny_bind (wpAny_isInstance (T := "list") (b := false) ty F.sub_list_str ?_))); simp only [Bool.false_eq_true, if_false]
  refine wpAny_pure (wpAny_bind (wpAny_bind (wpAny_isInstance (T := "list") (b := false) ty F.sub_list_bytes ?_))); simp only [Bool.false_eq_true, if_false]
  refine wpAny_pure (wpAny_bind (wpAny_bind (wpAny_isInstance (T := "list") (b := false) ty (by rw [isSubtype_type]; kernel_rfl) ?_))); simp only [Bool.false_eq_true, if_false]
  refine wpAny_pure (wpAny_pure ?_)
  refine wpAny_bind (wpAny_newObj_type ?_)
  have hsz : (s.heap.push { cls := .type "list_iterator", data := .fields #[.ref l, .int 0 0] }).objs.size = s.heap.objs.size + 1 := Heap.size_push ..
  have non : ∀ x, s.heap.objs.size ≤ x → s.heap.get? x = none := fun x hx => by
    cases e : s.heap.get? x with
    | none => rfl
    | some o => exact absurd (Nat.lt_of_lt_of_le (Heap.lt_size e) hx) (Nat.lt_irrefl _)
  have ll : l < s.heap.objs.size := by
    obtain ⟨o, e, _⟩ := hl
    exact Heap.lt_size e
  refine wpAny_pure ⟨plainId_quiet F.plain_sum_loop _, loop (R := _) (b0 := b) (h0 := s.heap) (I := s.heap.objs.size) (c := c) (ys := ys) (nn := nn) (pre := pre) hh hl (Nat.ne_of_lt ll) (Nat.le_refl _) (non _ (Nat.le_refl _)) (non _ (by show s.heap.objs.size ≤ _; rw [hsz]; exact Nat.le_succ _)) (by show s.heap.objs.size ≠ _; rw [hsz]; exact Nat.ne_of_lt (Nat.lt_succ_self _)) hi hp hz
    items.size 0 _ b nb (Nat.sub_zero _) (Nat.zero_le _) ⟨fun x o e => Heap.get?_push_of_some _ (Heap.get?_push_of_some _ e), ⟨_, Heap.get?_push_of_some _ (Heap.get?_push_size _ rfl), rfl, rfl⟩, ⟨0, Heap.get?_push_size _ rfl⟩, ?_, ?_, ?_⟩ (.inl ⟨rfl, rfl⟩) fun h' tk acc m q1 q2 q3 => hQ h' tk acc m q1 q2 q3⟩
  · rw [h0]
    exact Heap.get?_push_of_some _ ob
  · exact Nat.ne_of_lt (Heap.lt_size hb)
  · show b ≠ _
    rw [hsz]
    exact Nat.ne_of_lt (Nat.lt_succ_of_lt (Heap.lt_size hb))
end
section
variable {X : Cx}
/-- the lists of xs, one behind the other -/
def Lists (H : Hp) (xs : List V) (yss : List (List V)) : Prop := xs.length = yss.length ∧ ∀ (j : Nat) (zs : List V), yss[j]? = some zs → ∃ c : Addr, xs[j]? = some (V.ref c) ∧ H c = some (.lst zs)
def preA (b : Array Value) (ys : Nat → Array Value) : Nat → Array Value
  | 0 => b
  | j + 1 => preA b ys j ++ ys j
theorem vals_pre {bs : List V} {b : Array Value} {ys : Nat → Array Value} {yss : List (List V)} (hb : Vals bs b.toList) (h : ∀ j zs, yss[j]? = some zs → Vals zs (ys j).toList) : ∀ j, j ≤ yss.length → Vals (bs ++ (yss.take j).flatten) (preA b ys j).toList
  | 0, _ => by
    rw [List.take_zero, List.flatten_nil, List.append_nil]
    exact hb
  | j + 1, hj => by
    obtain ⟨zs, e⟩ : ∃ zs, yss[j]? = some zs := ⟨yss[j], List.getElem?_eq_getElem hj⟩
    rw [List.take_add_one, e]
    show Vals (bs ++ (yss.take j ++ [zs]).flatten) (preA b ys j ++ ys j).toList
    rw [List.flatten_append, ← List.append_assoc, Array.toList_append]
    refine (vals_pre hb h j (by omega)).append ?_
    rw [show [zs].flatten = zs by simp]
    exact h j zs e
theorem cr_sumL (hc : X.calm = true) : CallR X (.builtin "sum") (fun vs H Q => ∃ (a b : Addr) (xs bs : List V) (yss : List (List V)), vs = [.ref a, .ref b] ∧ SqL X.K H a xs ∧ H b = some (.lst bs) ∧ Lists H xs yss ∧ bs.length + yss.flatten.length ≤ sizeLine ∧
    (xs = [] → Q (.ref b) H) ∧ ∀ p, H p = none → Q (.ref p) (upd H p (.lst (bs ++ yss.flatten)))) := by
  intro pins s σ H vs us Q I r h
  obtain ⟨a, b, xs, bs, yss, rfl, ha, hb, ⟨ln, hL⟩, hz, q0, q1⟩ := h
  obtain ⟨u, v, rfl, e1, e2⟩ := vals2 r
  cases (show u = Value.ref a from e1)
  cases (show v = Value.ref b from e2)
  obtain ⟨its, rv, pl, _⟩ := I.list ha
  obtain ⟨_, bits, nb, rb, lb, eb⟩ := I.lstM hb
  have nlen := rv.length
  -- the items' lists as they stand
  have ex : ∀ j : Nat, ∃ p : Addr × Array Value × Nat, ∀ zs : List V, yss[j]? = some zs → xs[j]? = some (.ref p.1) ∧ Vals zs p.2.1.toList ∧ zs.length = p.2.1.size ∧ s.heap.get? p.1 = some (lob p.2.1 p.2.2) := fun j => by
    cases e : yss[j]? with
    | none => exact ⟨(0, #[], 0), fun zs z => nomatch z⟩
    | some zs =>
      obtain ⟨c, hx, hc⟩ := hL j zs e
      obtain ⟨_, zi, n, rz, lz, ez⟩ := I.lstM hc
      exact ⟨(c, zi.toArray, n), fun z2 q => by cases q; exact ⟨hx, rz, by rw [List.size_toArray]; exact lz, ez⟩⟩
  let f := fun j => Classical.choose (ex j)
  have hf : ∀ (j : Nat) (zs : List V), yss[j]? = some zs → xs[j]? = some (.ref (f j).1) ∧ Vals zs (f j).2.1.toList ∧ zs.length = (f j).2.1.size ∧ s.heap.get? (f j).1 = some (lob (f j).2.1 (f j).2.2) := fun j => Classical.choose_spec (ex j)
  have sz : its.toArray.size = yss.length := by rw [List.size_toArray, ← nlen, ln]
  have vp := vals_pre (b := bits.toArray) (ys := fun j => (f j).2.1) (yss := yss) rb fun j zs e => (hf j zs e).2.1
  have pz : ∀ j, j ≤ its.toArray.size → (preA bits.toArray (fun j => (f j).2.1) j).size ≤ sizeLine := fun j hj => by
    have l := (vp j (by omega)).length
    rw [List.length_append] at l
    have e3 : (preA bits.toArray (fun j => (f j).2.1) j).toList.length = (preA bits.toArray (fun j => (f j).2.1) j).size := Array.length_toList
    have : (yss.take j).flatten.length ≤ yss.flatten.length := by
      have e := congrArg (fun l : List (List V) => l.flatten.length) (List.take_append_drop j yss)
      simp only [List.flatten_append, List.length_append] at e
      omega
    omega
  refine sum_lists (c := fun j => (f j).1) (ys := fun j => (f j).2.1) (nn := fun j => (f j).2.2) (pre := preA bits.toArray fun j => (f j).2.1) (I.ok.hd hc) pl.isList eb (fun j hj => ?_) rfl (fun j _ => rfl) pz fun h' tk acc m keep at_ fr => ?_
  · obtain ⟨zs, e⟩ : ∃ zs, yss[j]? = some zs := ⟨yss[j]'(by omega), List.getElem?_eq_getElem (by omega)⟩
    obtain ⟨hx, _, _, hg⟩ := hf j zs e
    obtain ⟨y, ey, ry⟩ := rv.get hx
    cases (show y = Value.ref (f j).1 from ry)
    exact ⟨by simpa using ey, hg⟩
  · rcases fr with ⟨z, rfl⟩ | z
    · have : xs = [] := List.length_eq_zero_iff.mp (by rw [nlen]; simpa using z)
      exact ⟨.ref acc, H, I.kept (t' := tk) keep, rfl, q0 this⟩
    · have vals := vp yss.length (Nat.le_refl _)
      rw [List.take_length] at vals
      have at2 : h'.get? acc = some (lob (preA bits.toArray (fun j => (f j).2.1) yss.length) m) := by rw [← sz]; exact at_
      have J := I.laid (t' := tk) (o := .lst (bs ++ yss.flatten)) keep z ⟨by rw [List.length_append]; exact hz, _, m, vals, at2⟩
      exact ⟨.ref acc, _, J, rfl, q1 acc (I.hok.fresh z)⟩
/-- set(a list of whole numbers): nothing else is in it -/
theorem call_setL (hc : X.calm = true) : CallR X (.type "set") (fun vs H Q => ∃ (a : Addr) (ns : List Int), vs = [.ref a] ∧ SqL X.K H a (ns.map V.int) ∧ ns.length ≤ 40 ∧ ∀ p S n, H p = none → (∀ k, S k = true → k ∈ ns) → n ≤ ns.length → Q (.ref p) (upd H p (.set S n))) := by
  intro pins s σ H vs us Q I r h
  obtain ⟨a, ns, rfl, ha, hz, q⟩ := h
  obtain ⟨u, rfl, e1⟩ := vals1 r
  cases (show u = Value.ref a from e1)
  obtain ⟨its, rv, pl, _⟩ := I.list ha
  have il := rv.length
  rw [List.length_map] at il
  refine call_set_list (ns := ns) (I.ok.hd hc) pl.isList (by simpa using rv.ints) (by rw [List.size_toArray]; exact Nat.lt_of_le_of_lt (by omega) (by decide : 41 < scanBound)) fun h' tk hs keep => ?_
  have eN : its.toArray.size = ns.length := by rw [List.size_toArray, il]
  rw [eN] at hs
  have J := I.laid (t' := tk) (a := s.heap.objs.size) (o := .set _ _) (fun b o e => keep b o (Heap.lt_size e) e) (Nat.le_refl _) hs
  refine ⟨.ref s.heap.objs.size, _, J, rfl, q _ _ _ (I.hok.fresh (Nat.le_refl _)) (fun k hk => ?_) (firstMet_length_le _ _)⟩
  have hk : (firstMet (fun i => ns.getD i 0) ns.length).any (· == k) = true := hk
  rw [firstMet_any, List.any_map, List.any_eq_true] at hk
  obtain ⟨j, hj, e⟩ := hk
  have hj := List.mem_range.mp hj
  have e2 : ns.getD j 0 = k := by simpa using e
  rw [← e2, List.getD_eq_getElem?_getD, List.getElem?_eq_getElem hj]
  exact List.getElem_mem hj
end
end LM
-- SR
/-! set(a list of whole numbers), made so that it may be gone through in its order -/
namespace LM
open PySem PySem.Spec PyProof.Rows L2
section
variable {P : Program} {w : World} {A : Around} {E : Value → Shared → Prop}
/-- turn by turn -/
theorem fill_turns {R : Result → Shared → Prop} {it D : Addr} {fp wr : List Addr} {G : Array GenState → Array GenState → Prop} {ns : List Int} {n : Nat} {Pv : Nat → Value → Prop} {St : Nat → Shared → Prop}
    (W : WalksS P w A.in1 it fp wr G n Pv St) (hn : n = ns.length) (val : ∀ i v, Pv i v → ∃ t, v = .int (ns.getD i 0) t) (off : D ∉ fp) (room : ns.length + 1 < scanBound) :
    ∀ (left i : Nat) (u : Shared), ns.length = i + left → St i u → (∃ S m, SetR w u.heap D S m ∧ (∀ k, S k = true → k ∈ ns) ∧ m ≤ i) →
      (∀ u' S m, Moved (D :: wr) G u u' → SetR w u'.heap D S m → (∀ k, S k = true → k ∈ ns) → m ≤ ns.length → R (.ok (.ret .none)) u') →
      codeAny (model P w) A (.builtin "set.update.loop" ⟨[.ref D, .ref it], []⟩) R u := by
  subst hn
  have offw : D ∉ wr := fun z => off (W.sub _ z)
  have more : ∀ b ∈ wr, b ∈ D :: wr := fun b z => List.mem_cons_of_mem _ z
  intro left
  induction left with
  | zero =>
    intro i u el st ⟨S, m, sr, hS, hm⟩ fin
    obtain rfl : i = ns.length := by omega
    refine codeAny_builtin F.entry_set_update_loop ?_
    rw [Around.under_plainId F.plain_set_update_loop _]
    show wpAny _ A.in1 (pyNext (.ref it) >>= _) _ _ u
    refine wpAny_bind (W.done u _ _ st fun u' mv => ?_)
    show wpAny _ A.in1 (ret Value.none) _ _ u'
    exact wpAny_pure (fin u' S m (mv.mono more) (sr.at fun o e => mv.heap D o offw e) hS hm)
  | succ left ih =>
    intro i u el st ⟨S, m, sr, hS, hm⟩ fin
    refine codeAny_builtin F.entry_set_update_loop ?_
    rw [Around.under_plainId F.plain_set_update_loop _]
    show wpAny _ A.in1 (pyNext (.ref it) >>= _) _ _ u
    refine wpAny_bind (W.item i u _ _ (by omega) st fun v u1 hv st1 mv => ?_)
    obtain ⟨t, rfl⟩ := val i v hv
    have sr1 : SetR w u1.heap D S m := sr.at fun o e => mv.heap D o offw e
    show wpAny _ A.in1 (holding [Value.int (ns.getD i 0) t] (setAdd D (.int (ns.getD i 0) t)) >>= _) _ _ u1
    refine wpAny_bind (wpAny_holding ?_)
    unfold setAdd
    refine wpAny_holding (wpAny_bind ((intKind P w).pyHash (k := ns.getD i 0) (intKind_is _ _ _ _) ?_))
    refine setR_add_hashed (s := { u1 with toks := u1.toks + 1 }) sr1 (by omega) fun h2 sb sr2 => ?_
    have inn : ns.getD i 0 ∈ ns := by
      rw [List.getD_eq_getElem?_getD, List.getElem?_eq_getElem (by omega)]
      exact List.getElem_mem _
    refine wpAny_pure ⟨plainId_quiet F.plain_set_update_loop _, ih (i + 1) _ (by omega) (W.frame _ u1 _ _ st1 (Nat.le_succ _) fun b hb o e => ?_) ⟨_, _, sr2, fun k hk => ?_, ?_⟩ fun u3 S3 m3 mv3 sr3 hS3 hm3 => ?_⟩
    · rw [sb.2 b fun z : b = D => off (by rw [← z]; exact hb)]
      exact e
    · rcases Bool.or_eq_true _ _ |>.mp hk with z | z
      · exact hS k z
      · rw [of_decide_eq_true z]
        exact inn
    · split <;> omega
    · refine fin u3 S3 m3 (Moved.trans W.gtrans ((mv.mono more).then_heap (Nat.le_succ _) fun b o hb e => ?_) mv3) sr3 hS3 hm3
      rw [sb.2 b fun z : b = D => hb (by rw [z]; exact List.mem_cons_self)]
      exact e
theorem made_led (a : Value) {u : Shared} {Q1 : Value → Shared → Prop}
    (go : Q1 (.ref u.heap.objs.size) { u with heap := u.heap.push { cls := .type "set", dict := none, data := .set #[] 0 (.fresh 0 0 (!w.params.followText "set-order")) } }) :
    codeAny (model P w) A (.call (.builtin "set.__new__") ⟨[.type "set", a], []⟩) (wants Q1 E) u := by
  refine codeAny_of_tree (show wpAny _ A.in1 (do checkBuiltinCall "set.__new__" ⟨[.type "set", a], []⟩; again (.builtin "set.__new__" ⟨[.type "set", a], []⟩)) _ _ u from ?_)
  refine wpAny_bind (wpAny_of_eq (F.newCall_set_1 a) (wpAny_pure ⟨plainId_quiet F.plain_set_new _, codeAny_builtin F.entry_set_new ?_⟩))
  rw [Around.under_plainId F.plain_set_new _]
  unfold Builtin.«set.__new__» Builtin.Frozenset.newClass
  have selfsub := sub_set_self
  obtain ⟨x1, x2, x3, x4, x5⟩ := u
  dsimp only
  wp_walk
  refine wpAny_askSetting (wpAny_pure ?_)
  dsimp only
  simp only [newObj]
  exact wpAny_bind (wpAny_alloc (wpAny_pure (wpAny_pure go)))
theorem set_ints {u : Shared} {l : Addr} {its : Array Value} {ns : List Int} {Q : Value → Shared → Prop} (calm : A.handled = none) (hl : u.heap.IsList l its) (hin : IntsAre its.toList ns) (room : ns.length + 1 < scanBound)
    (go : ∀ (h2 : Heap) (tk : Nat) (S : Int → Bool) (m : Nat), SetR w h2 u.heap.objs.size S m → (∀ k, S k = true → k ∈ ns) → m ≤ ns.length → (∀ b o, b < u.heap.objs.size → u.heap.get? b = some o → h2.get? b = some o) → Q (.ref u.heap.objs.size) { u with heap := h2, toks := tk }) :
    wpAny (model P w) A (call (.type "set") [.ref l]) Q E u := by
  obtain ⟨cc, tt, mro_is⟩ := F.called_set.mro
  have made_is := F.called_set.made
  have sub_is := F.called_set.sub
  have sz : its.size = ns.length := by
    have := hin.length
    simpa using this
  refine wpAny_call (codeAny_of_tree (show wpAny _ _ (callAny (.type "set") _) _ _ _ from ?_))
  refine wpAny_pure ⟨Code.quiet_builtin _ (by decide +kernel), codeAny_builtin F.entry_type_call ?_⟩
  rw [Around.under_plain (weight_type_call_type "set" [.ref l] []) rfl]
  have c1 := F.called_set.notType
  have c2 := F.called_set.canCreate
  have c3 := F.typeCall_set_1 (.ref l)
  repeat (any_goals (first | assumption | wp_step))
  refine codeAny_mono (made_led (E := E) (.ref l) (Q1 := fun x u1 => x = .ref u.heap.objs.size ∧ u1 = { u with heap := u.heap.push { cls := .type "set", dict := none, data := .set #[] 0 (.fresh 0 0 (!w.params.followText "set-order")) } }) ⟨rfl, rfl⟩) fun r1 u1 h1 => ?_
  cases r1 with
  | error e => exact h1
  | ok fl =>
    cases fl with
    | ret x =>
      obtain ⟨rfl, rfl⟩ := h1
      have sr0 : SetR w (u.heap.push { cls := .type "set", dict := none, data := .set #[] 0 (.fresh 0 0 (!w.params.followText "set-order")) }) u.heap.objs.size (fun _ => false) 0 := setR_fresh w
      have ty0 : Shared.TypeIs { u with heap := u.heap.push { cls := .type "set", dict := none, data := .set #[] 0 (.fresh 0 0 (!w.params.followText "set-order")) } } (.ref u.heap.objs.size) "set" := ⟨_, Heap.get?_push_size _ rfl, rfl⟩
      generalize hob : ({ cls := .type "set", dict := none, data := .set #[] 0 (.fresh 0 0 (!w.params.followText "set-order")) } : Obj) = ob at sr0 ty0
      have getS : (u.heap.push ob).get? u.heap.objs.size = some { cls := .type "set", dict := none, data := .set #[] 0 (.fresh 0 0 (!w.params.followText "set-order")) } := by
        rw [hob]
        exact Heap.get?_push_size _ (by rw [← hob]; rfl)
      have i1 := F.called_set.init.lookup
      have i2 := F.called_set.init.bind (.ref u.heap.objs.size)
      repeat (any_goals (first | assumption | wp_step))
      refine codeAny_mono (codeAny_call_builtin (R := wants (fun y u2 => y = .none ∧ ∃ h2 tk S m, u2 = { u with heap := h2, toks := tk } ∧ SetR w h2 u.heap.objs.size S m ∧ (∀ k, S k = true → k ∈ ns) ∧ m ≤ ns.length ∧
          (∀ b o, b < u.heap.objs.size → u.heap.get? b = some o → h2.get? b = some o)) E) F.called_set.init.plain F.entry_set_init (check_set_init_1 ty0 ?_)) fun r2 u2 h2 => ?_
      · have hl1 : (u.heap.push ob).IsList l its := hl.push _
        obtain ⟨o1, at1, cl1, n1, da1⟩ := hl1
        obtain ⟨ocl, odi, oda, osl⟩ := o1
        simp only at cl1 da1
        subst cl1
        subst da1
        have s1 := F.sub_list_set
        have s2 := F.sub_list_frozenset
        have s3 : (Value.type "list" == Value.type "dict") = false := by decide
        have hl2 : (u.heap.push ob).IsList l its := hl.push _
        unfold Builtin.«set.__init__» noKeywords Builtin.Frozenset.updateFrom
        generalize hgen : pyIter = gen
        wp_walk
        subst hgen
        refine wpAny_pyIter_list hl2 ?_
        refine wpAny_bind (wpAny_runValue ?_)
        have below : l < u.heap.objs.size := by
          obtain ⟨o, e, _⟩ := hl
          exact Heap.lt_size e
        have nh : A.in1.in1.in1.handled = none := by simp [calm]
        have apart : l ≠ (u.heap.push ob).objs.size := by
          rw [Heap.size_push]
          exact Nat.ne_of_lt (Nat.lt_succ_of_lt below)
        have far : u.heap.objs.size ∉ [(u.heap.push ob).objs.size, l] := fun z => by
          rw [Heap.size_push] at z
          rcases List.mem_cons.mp z with z | z
          · exact Nat.ne_of_lt (Nat.lt_succ_self _) z
          · exact Nat.ne_of_gt below (List.mem_singleton.mp z)
        refine fill_turns (ns := ns) ((Walks.list nh _ l apart its).toS) sz (fun i v hv => hin.int_at i v (by rw [Array.getElem?_toList]; exact hv)) far room ns.length 0 _ (by omega) ⟨⟨_, Heap.get?_push_size _ rfl, rfl, rfl⟩, hl2.push _⟩ ⟨_, 0, sr0.at fun o e => Heap.get?_push_of_some _ e, (fun _ z => nomatch z), Nat.le_refl _⟩ fun u3 S m mv sr hS hm => ?_
        obtain ⟨y1, y2, y3, y4, y5⟩ := u3
        obtain rfl : y2 = u.gens := mv.gens
        obtain rfl : y3 = u.drawn := mv.drawn
        obtain rfl : y5 = u.os := mv.os
        refine (show wpAny _ _ _ _ _ _ from wpAny_pure (show wpAny _ _ (ret Value.none) _ _ _ from wpAny_pure ⟨rfl, y1, y4, S, m, rfl, sr, hS, hm, fun b o hb e => ?_⟩))
        refine mv.heap b o (fun z => ?_) (Heap.get?_push_of_some _ (Heap.get?_push_of_some _ e))
        rcases List.mem_cons.mp z with z | z
        · exact Nat.ne_of_lt hb z
        · rw [List.mem_singleton.mp z, Heap.size_push] at hb
          exact Nat.not_lt_of_gt (Nat.lt_succ_self _) hb
      · cases r2 with
        | error e => exact h2
        | ok fl2 =>
          cases fl2 with
          | ret y =>
            obtain ⟨rfl, h3, tk, S, m, rfl, sr, hS, hm, kp⟩ := h2
            repeat (any_goals (first | assumption | wp_step))
            exact go _ _ S m sr hS hm kp
          | _ => exact h2.elim
    | _ => exact h1.elim
theorem call_setR {X : Cx} (hc : X.calm = true) : CallR X (.type "set") (fun xs H Q => ∃ (a : Addr) (ns : List Int), xs = [.ref a] ∧ SqL X.K H a (ns.map V.int) ∧ ns.length ≤ 40 ∧ ∀ p S n, H p = none → (∀ k, S k = true → k ∈ ns) → n ≤ ns.length → Q (.ref p) (upd H p (SetO X.w p S n))) := by
  intro pins s σ H xs us Q I r h
  obtain ⟨a, ns, rfl, ha, hz, q⟩ := h
  obtain ⟨u, rfl, e1⟩ := vals1 r
  cases (show u = Value.ref a from e1)
  obtain ⟨its, rv, pl, _⟩ := I.list ha
  have il := rv.length
  rw [List.length_map] at il
  refine set_ints (ns := ns) (I.ok.hd hc) pl.isList (by simpa using rv.ints) (Nat.lt_of_le_of_lt (by omega) (by decide : 41 < scanBound)) fun h2 tk S m sr hS hm keep => ?_
  have J := I.laid (t' := tk) (a := s.heap.objs.size) (o := SetO X.w s.heap.objs.size S m) (fun b o e => keep b o (Heap.lt_size e) e) (Nat.le_refl _) (setO_new sr)
  exact ⟨.ref s.heap.objs.size, _, J, rfl, q _ _ _ (I.hok.fresh (Nat.le_refl _)) hS hm⟩
end
end LM
-- EX
/-! errors of own classes whose __init__ tells the class's name: C.__name__, e.__class__, isinstance, the whole of a raise -/
namespace LX
open PySem PySem.W PySem.Calls PyProof.Rows Builtin Builtin.ObjectAttr Builtin.Getset_descriptor
section
variable {prog : Program} {w : World} {A : Around} {E : Value → Shared → Prop} {s : Shared} {K : Frag} {R : Result → Shared → Prop} {C : Addr}
/-- the name that a class keeps in its slots -/
theorem kept_name {tp v : Value} {o : Obj} (X : K.In s.heap) (tC : typeIn K (.ref C) = some (.type "type")) (ho : K.lookup C = some o) (hs : o.slots[2]? = some (some v)) (h : R (.ok (.ret v)) s) :
    codeAny (model prog w) A (.call (.builtin "getset_descriptor.__get__") ⟨[.builtin "type.__name__", .ref C, tp], []⟩) R s := by
  obtain ⟨hp, g, dr, tk, os⟩ := s
  have isTy : Looks (model prog w) hp (typeOf (.ref C)) (.type "type") := looks_typeIn X tC
  have same : Looks (model prog w) hp (isSubtype (.type "type") (.type "type")) true := .of_pure (by rw [isSubtype_type]; kernel_rfl)
  refine codeAny_call_builtin KF.slot_gs.plain KF.entry_gs (KF.slot_gs.check _ _ _ _ _ _ _ _ ktyn_type (KF.args_gs _ _ _) ?_)
  unfold Builtin.«getset_descriptor.__get__» descrGet
  rw [show descrGetArgs ⟨[.builtin "type.__name__", .ref C, tp], []⟩ = pure (.builtin "type.__name__", some (.ref C), given tp) by kernel_rfl]
  refine wpAny_bind (wpAny_pure ?_); unfold descrGetter descrCheckInstance descrNameAndClass isInstance
  simp only [ktyn_owner]; repeat lk
  refine ⟨Code.quiet_builtin _ (by decide +kernel), codeAny_builtin ktyn_entry ?_⟩
  unfold Builtin.«type.__name__» keptObject slotAt; dsimp only
  refine wpAny_bind (wpAny_bind (wpAny_loadPart_at (X _ _ ho) (wpAny_pure ?_))); rw [hs]
  exact wpAny_pure h
theorem name_of_class {v : Value} {o : Obj} {ex : Bool} {Q : Value → Shared → Prop} (X : K.In s.heap) (hr : readsIn K C (.type "type") = true)
    (e : findCls K (.ref C) (.type "type") "__name__" = some (.get (.builtin "getset_descriptor.__get__") (.builtin "type.__name__") (.ref C) (.type "type")))
    (tC : typeIn K (.ref C) = some (.type "type")) (ho : K.lookup C = some o) (hs : o.slots[2]? = some (some v)) (hv : handedIn v = true) (h : Q v { s with toks := s.toks + 1 }) :
    wpAny (model prog w) A (getAttr (.ref C) "__name__" ex) Q E s := cls_bind X hr e (wpAny_call (kept_name (s := { s with toks := s.toks + 1 }) X tC ho hs (handed_on hv h)))
/-- what the written part says of an own error class -/
structure Own (K : Frag) (D : Addr) : Prop where
  cl : (clsIn K D).isSome = true
  ga : findIn K (.ref D) "__getattribute__" = some (some (.builtin "BaseException.__getattribute__"))
  gt : findIn K (.ref D) "__getattr__" = some none
  sub : subIn K (.ref D) (.type "BaseException") = some true
  at_ : findIn K (.ref D) "__class__" = some (some (.builtin "object.__class__"))
  sp : specialIn K (.builtin "object.__class__") "__get__" = some (some (.builtin "getset_descriptor.__get__"))
  tk : takesIn K (.builtin "object.__class__") = some true
  mro : mroIn K D (.type "object") = some true
theorem class_of_error {x D : Addr} {ox : Obj} {od : Option Obj} {ex : Bool} {Q : Value → Shared → Prop} (T : Own K D) (X : K.In s.heap) (I : InstAt s.heap x ox D od) (h : Q (.ref D) { s with toks := s.toks + 1 }) :
    wpAny (model prog w) A (getAttr (.ref x) "__class__" ex) Q E s := by
  have hf : findObj K D od "__class__" = some (.bind (.builtin "getset_descriptor.__get__") (.builtin "object.__class__")) := findObj_dataE T.cl T.at_ T.sp T.tk
  obtain ⟨hp, g, d, t, os⟩ := s
  have l0 := I.type (M := model prog w); have l1 := looks_findIn (M := model prog w) X T.ga
  have l2 := looks_findIn (M := model prog w) X T.gt; have l3 := looks_find (M := model prog w) X I hf
  have isE : Looks (model prog w) hp (isInstance (.ref x) (.type "BaseException")) true := l0.andThen (looks_subIn X T.sub)
  have n2 : (Value.builtin "BaseException.__getattribute__" == Value.builtin "object.__getattribute__") = false := by decide +kernel
  unfold getAttr getAttrBy
  refine wpAny_bind (wpAny_mkText (wpAny_holding (wpAny_bind (l0.at (wpAny_bind (l1.at ?_))))))
  show wpAny _ _ (if (onTheHeap (Value.ref D) && Value.builtin "BaseException.__getattribute__" == Value.builtin "object.__getattribute__") = true then _ else _) _ _ _; rw [n2, Bool.and_false, if_neg Bool.false_ne_true]
  unfold getAttrByItsOwn hookBefore; refine wpAny_bind ?_; rw [if_pos (show onTheHeap (Value.ref D) = true from rfl)]
  refine l2.at (wpAny_bind (wpAny_attempt (wpAny_holding ?_)))
  unfold callGetattribute boundAndCalled; rw [show (ex && onTheHeap (Value.builtin "BaseException.__getattribute__")) = false by cases ex <;> rfl, if_neg Bool.false_ne_true, PySem.F.excAttr_ValueError.ga.bind (.ref x)]
  refine wpAny_bind (wpAny_pure ?_); show wpAny _ _ (call (.builtin "BaseException.__getattribute__") [.ref x, .str "__class__" t]) _ _ _
  refine wpAny_call (codeAny_call_builtin PySem.F.excAttr_ValueError.ga.plain PySem.F.entry_bexc_ga (@PySem.W.check_slot (model prog w) _ _ ⟨hp, g, d, t + 1, os⟩ "BaseException.__getattribute__" "BaseException" "__getattribute__" (.ref x) [.str "__class__" t] [] _ (by decide +kernel) (by decide +kernel) isE (PySem.F.args_bexc_ga (.ref x) (.str "__class__" t)) ?_))
  unfold Builtin.«object.__getattribute__»; refine wpAny_bind (wpAny_of_eq (a := ((Value.ref x : Value), [Value.str "__class__" t])) (by first | rfl | (simp only [slotArgs]; rfl)) ?_)
  refine wpAny_bind (wpAny_pure (wpAny_bind (l0.at (wpAny_bind (l3.at (wpAny_bind (wpAny_holding (wpAny_call (class_get (s := ⟨hp, g, d, t + 1, os⟩) (ox := ox) (od := od) X I T.mro ?_)))))))))
  refine wpAny_pure ?_; show wpAny _ _ (handedOut (.ref D)) _ _ _; rw [handedOut_of (v := .ref D) rfl]
  first | exact wpAny_pure h | exact wpAny_pure (wpAny_pure h)
end
end LX
namespace LX
open PySem PySem.Spec PyProof.Rows L2
/-- .. and of its kept name -/
structure Named (K : PySem.W.Frag) (D : Addr) (nm : Str) : Prop where
  own : Own K D
  rd : PySem.W.readsIn K D (.type "type") = true
  fc : PySem.W.findCls K (.ref D) (.type "type") "__name__" = some (.get (.builtin "getset_descriptor.__get__") (.builtin "type.__name__") (.ref D) (.type "type"))
  ty : PySem.W.typeIn K (.ref D) = some (.type "type")
  lk : ∃ (o : Obj) (t : Tok), K.lookup D = some o ∧ o.slots[2]? = some (some (.str nm t))
  sz : nm.length ≤ 1000
def tCn (K : PySem.W.Frag) (te : TE) : TE := fun σ H Q => te σ H fun x H1 => ∃ (a D : Addr) (nm : Str), x = .ref a ∧ H1 a = some (exo a D none) ∧ Named K D nm ∧ Q (.str nm) H1
/-- self.__class__.__name__ -/
theorem pe_cn {X : Cx} {e : Expr} {te : TE} {p1 p2 : Pos} (he : PE X e te) (hb : attributeBase e "__class__" X.env (eval e X.env) = eval e X.env := by rfl)
    (hb2 : attributeBase (.Attribute e "__class__" p1) "__name__" X.env (eval (.Attribute e "__class__" p1) X.env) = eval (.Attribute e "__class__" p1) X.env := by rfl) : PE X (.Attribute (.Attribute e "__class__" p1) "__name__" p2) (tCn X.K te) := by
  refine ⟨fun pins s σ H Q I h => attr_of hb2 (attr_of hb (thn (he.run pins s σ H _ I h) fun u s1 hh => ?_))⟩
  obtain ⟨x, H1, J, rx, a, D, nm, rfl, ea, T, q⟩ := hh
  obtain rfl : u = Value.ref a := rx
  obtain ⟨t1, hg⟩ := exo_at J.hok ea
  obtain ⟨o, tk, hlk, hsl⟩ := T.lk
  refine class_of_error (od := none) T.own J.kIn ⟨hg, rfl, rfl, True.intro⟩ ?_
  exact name_of_class (s := { s1 with toks := s1.toks + 1 }) J.kIn T.rd T.fc T.ty hlk hsl rfl ⟨.str nm, H1, (J.tok _).tok _, ⟨tk, rfl⟩, q⟩
/-- isinstance(e, c) of a caught error that has fields -/
def rIsD (K : PySem.W.Frag) (D a dd : Addr) : List V → Hp → VK → Prop := fun xs H Q => ∃ (c : V) (cv : Value) (b : Bool) (fs : List (Str × V)), xs = [.ref a, c] ∧ ClsV c cv ∧ H dd = some (.xd fs) ∧ PySem.W.kitOne K (.ref D) cv = some b ∧ Q (.bl b) H
theorem call_isD {X : Cx} {a D dd : Addr} {oe : Obj} {pn : List (Addr × Obj)} (T : Own X.K D) (hz : Zc (.ref D) (some dd) oe) (hf : ∃ vs, oe.data = .fields vs) : CallR (X.suite a ((a, oe) :: pn)) (.builtin "isinstance") (rIsD X.K D a dd) := by
  intro pins s σ H xs us Q I r h
  obtain ⟨c, cv, b, fs, rfl, hcv, hdd, e, q⟩ := h
  obtain ⟨u1, u2, rfl, r1, r2⟩ := vals2 r
  obtain rfl : u1 = Value.ref a := r1
  have ec := hcv.eq r2
  subst ec
  obtain ⟨hget, _⟩ := I.pin (a, oe) (List.mem_append_left _ List.mem_cons_self)
  obtain ⟨vs, hv⟩ := hf
  have hx : ObjOk X.prog X.w H s.heap dd (.xd fs) := I.hok dd _ hdd
  obtain ⟨mA, hns, _⟩ := hx
  obtain ⟨od, ho, _⟩ := lookIn_ns hns
  have J : PySem.W.InstAt s.heap a oe D (some od) := ⟨hget, hz.1, by unfold PySem.W.notCls; rw [hv] <;> rfl, by rw [hz.2]; exact ho⟩
  exact PySem.W.kia_one (PySem.W.kitx_exc T.cl T.ga T.gt T.sub T.at_ T.sp T.tk T.mro) I.kIn J e (fun z => nomatch z) fun tk => ⟨.bl b, H, I.tok tk, rfl, q⟩
end LX
-- EY
/-! further generic texts: // by a divisor of any sign, isinstance of a caught error whose class is told by the reading, the facts of an own error class that keeps a number -/
namespace LX
open PySem PySem.Spec PyProof.Rows L2
def CDivWN (_ j : Int) : Prop := j ≠ 0 ∧ j.natAbs.log2 < 9000
section
variable {X : Cx}
theorem op_fdivWN : OpR X (binaryOp .FloorDiv) (rI CDivWN fun i j => .int (i.fdiv j)) := opI fun _ _ _ _ _ _ _ hc q => floordiv_int hc.1 q (.inl (PyProof.noPylong_of_log2 hc.2))
end
def rIsX (K : PySem.W.Frag) (a : Addr) (cls : Value) (d : Option Addr) : List V → Hp → VK → Prop := fun xs H Q => ∃ (D dd : Addr) (c : V) (cv : Value) (b : Bool) (fs : List (Str × V)), cls = .ref D ∧ d = some dd ∧ Own K D ∧ xs = [.ref a, c] ∧ ClsV c cv ∧
  H dd = some (.xd fs) ∧ PySem.W.kitOne K (.ref D) cv = some b ∧ Q (.bl b) H
theorem call_isX {X : Cx} {a : Addr} {cls : Value} {d : Option Addr} {oe : Obj} {pn : List (Addr × Obj)} (hz : Zc cls d oe) (hf : ∃ vs, oe.data = .fields vs) : CallR (X.suite a ((a, oe) :: pn)) (.builtin "isinstance") (rIsX X.K a cls d) := by
  intro pins s σ H xs us Q I r h
  obtain ⟨D, dd, c, cv, b, fs, rfl, rfl, T, ex, hcv, hdd, e, q⟩ := h
  exact call_isD T hz hf pins s σ H xs us Q I r ⟨c, cv, b, fs, ex, hcv, hdd, e, q⟩
theorem text_len {i : Int} {k : Nat} (hk : 0 < k) (h : i.natAbs < 10 ^ k) : (Str.ofString (toString i)).length ≤ k + 1 := by
  have e := PySem.int_text_length_le10 hk h
  rw [PyProof.Rows.ofString_length]
  exact e
theorem bits_le {i : Int} {k : Nat} (h : i.natAbs < 2 ^ k) : Builtin.Int.intBits i ≤ k := PyProof.Rows.intBits_le h
/-- the base of the text's errors -/
structure Err0 (K : PySem.W.Frag) (mg : Str → Option Value) (st : Stmt) where
  CM : Addr
  f : Addr
  fd : FuncData
  F : Fun K "__init__" "ModelError.__init__" st f fd
  b : Binds K fd ["self", "at"] []
  tI : PySem.W.typeIn K (.ref f) = some (.type "function")
  gM : mg "ModelError" = some (.ref CM)
  mV : mg "ValueError" = none
  vV : PySem.W.findCls K (.type "ValueError") (.type "type") "__init__" = some (.val (.builtin "ValueError.__init__"))
/-- one of them -/
structure ErrC (K : PySem.W.Frag) (mg : Str → Option Value) (x : Str) (CM f : Addr) where
  C : Addr
  nm : Str
  named : Named K C nm
  oex : OexC K C
  noAt : PySem.W.findIn K (.ref C) "at" = some none
  iC : PySem.W.findIn K (.ref C) "__init__" = some (some (.ref f))
  g : mg x = some (.ref C)
  exm : PySem.W.exmOne K (.ref C) (.ref CM) = some true
  kit : PySem.W.kitOne K (.ref C) (.ref C) = some true
  xf : XfC K C
/-- an error of the class at C is taken by a clause for the class at S above it -/
theorem exm_is {K : PySem.W.Frag} {S C : Addr} (h1 : PySem.W.subIn K (.ref S) (.type "BaseException") = some true) (h2 : PySem.W.isClsIn K S = true) (h3 : PySem.W.typeIn K (.ref S) = some (.type "type")) (h4 : PySem.W.subIn K (.ref C) (.ref S) = some true) :
    PySem.W.exmOne K (.ref C) (.ref S) = some true := by
  have a : ((PySem.W.clsIn K S).isSome && PySem.W.typeIn K (.ref S) == some (.type "type")) = true := by
    rw [show (PySem.W.clsIn K S).isSome = true from h2, h3]; rfl
  unfold PySem.W.exmOne
  rw [h1, if_pos (by rfl)]
  show (if ((PySem.W.clsIn K S).isSome && PySem.W.typeIn K (.ref S) == some (.type "type")) = true then PySem.W.subIn K (.ref C) (.ref S) else none) = some true
  rw [if_pos a, h4]
theorem refs_one (c : Addr) : PySem.HandSPX.refsVE [.ref c, .type "ValueError", .type "Exception", .type "BaseException", .type "object"] = true := by
  show PySem.HandSPX.refsVE PySem.HandSPX.veTail = true
  decide +kernel
theorem kit_self (K : PySem.W.Frag) (C : Addr) : PySem.W.kitOne K (.ref C) (.ref C) = some true := by
  unfold PySem.W.kitOne
  rw [if_pos (by simp)]
/-- a and b as a value, where b changes nothing and its answer is known -/
def tAndP (ta tb : TE) : TE := fun σ H Q => ta σ H fun x H1 => ∃ c r, x = .bl c ∧ (c = true → ∀ Q' : VK, Q' (.bl r) H1 → tb σ H1 Q') ∧ Q (.bl (c && r)) H1
theorem pe_andP {X : Cx} {a b : Expr} {rest : List Expr} {ta tb : TE} {pos : Pos} (ha : PE X a ta) (hb : PE X (.BoolOp .And (b :: rest) pos) tb) : PE X (.BoolOp .And (a :: b :: rest) pos) (tAndP ta tb) := by
  refine ⟨fun pins s σ H Q I h => ?_⟩
  refine BoolOp_and (thn (ha.run pins s σ H _ I h) fun v s1 ⟨x, H1, I1, r1, q1⟩ => ?_)
  obtain ⟨c, r, rfl, hA, q⟩ := q1
  cases r1
  refine wpAny_truthy_bool ?_
  cases c with
  | true => exact hb.run pins s1 σ H1 Q I1 (hA rfl Q q)
  | false => exact ⟨.bl false, H1, I1, rfl, q⟩
/-- an error is let go that stood above H -/
theorem upd_back {H : Hp} {a d : Addr} {o1 o2 o3 x : HO} (ha : H a = none) (hd : d ≠ a) : upd (del (upd (upd (upd H a o1) d o2) a o3) a) d x = upd H d x := by
  funext b
  by_cases h1 : b = d
  · rw [h1, upd_same, upd_same]
  · rw [upd_ne h1, upd_ne h1]
    by_cases h2 : b = a
    · rw [h2, del_same, ha]
    · rw [del_ne h2, upd_ne h2, upd_ne h1, upd_ne h2]
/-- __init__ of the text's errors, at an error of the class C -/
def sp_init (K : PySem.W.Frag) : Sp := fun vs H Q _ => ∃ (e C : Addr) (nm : Str) (i : Int), vs = [.ref e, .int i] ∧ H e = some (exo e C none) ∧ Named K C nm ∧ OexC K C ∧ PySem.W.findIn K (.ref C) "at" = some none ∧ i.natAbs < 10 ^ 12 ∧
  ∀ d, H d = none → d ≠ e → Q .non (upd (upd H d (exd d [("at", .int i)])) e (exo e C (some d)))
/-- what a raise asks when the class's __init__ is as above -/
theorem raised {K : PySem.W.Frag} {mg : Str → Option Value} {x : Str} {CM f : Addr} (T : ErrC K mg x CM f) {H : Hp} {n : Int} {E : XK} (hn : n.natAbs < 10 ^ 12) (q : ∀ d, H d = none → E (.ref T.C) (some d) (upd H d (.xd [("at", .int n)]))) (a : Addr) (ha : H a = none) :
    sp_init K (.ref a :: ([.int n] ++ [])) (upd H a (exo a T.C none)) (fun v H2 => v = .non ∧ ∃ (d : Addr) (fs : List (Str × V)), H2 a = some (exo a T.C (some d)) ∧ H2 d = some (exd d fs) ∧ H d = none ∧ E (.ref T.C) (some d) (upd (del H2 a) d (.xd fs))) (fun _ _ _ => False) := by
  refine ⟨a, T.C, T.nm, n, rfl, upd_same, T.named, T.oex, T.noAt, hn, fun d hd ne => ⟨rfl, d, [("at", .int n)], upd_same, ?_, ?_, ?_⟩⟩
  · rw [upd_ne ne]; exact upd_same
  · rw [upd_ne ne] at hd; exact hd
  · rw [upd_ne ne] at hd
    rw [upd_back ha ne]
    exact q d hd
end LX
-- EZ
/-! the number that a caught error keeps, where the reading tells which class it has -/
namespace LX
open PySem PySem.Spec PyProof.Rows L2
def tXfA (K : PySem.W.Frag) (a : Addr) (cls : Value) (d : Option Addr) (n : Str) (te : TE) : TE := fun σ H Q => ∃ C : Addr, XfC K C ∧ PySem.W.findIn K (.ref C) n = some none ∧ tXf a cls d C n te σ H Q
theorem pe_xfA {X : Cx} {a : Addr} {oe : Obj} {cls : Value} {d : Option Addr} {pn : List (Addr × Obj)} {e : Expr} {te : TE} {pos : Pos} {n : Str}
    (hz : Zc cls d oe) (hf : ∃ vs, oe.data = .fields vs) (he : PE (X.suite a ((a, oe) :: pn)) e te) (hb : attributeBase e n X.env (eval e X.env) = eval e X.env := by rfl) :
    PE (X.suite a ((a, oe) :: pn)) (.Attribute e n pos) (tXfA X.K a cls d n te) :=
  ⟨fun pins s σ H Q I ⟨_, T, hno, h⟩ => (pe_xf T hno hz hf he hb).run pins s σ H Q I h⟩
end LX
namespace K46
open PySem PySem.Spec PyProof.Rows L2
-- B
def topS (i : Nat) : Stmt := PySem.Challenge.pw_unsaidsizes_k46_grids_of_models.main.body.getD i (.Pass ⟨0, 0, 0, 0⟩)
abbrev s_wording : Stmt := topS 1
theorem sc_wording : FnScope ["name", "at"] ["name", "at"] (defScope s_wording) := ⟨rfl, rfl, rfl, by decide +kernel, rfl, by decide +kernel, by decide +kernel⟩
abbrev s_is_exact : Stmt := topS 8
theorem sc_is_exact : FnScope ["told"] ["told"] (defScope s_is_exact) := ⟨rfl, rfl, rfl, by decide +kernel, rfl, by decide +kernel, by decide +kernel⟩
abbrev s_terms_of : Stmt := topS 9
theorem sc_terms_of : FnScope ["told"] ["told"] (defScope s_terms_of) := ⟨rfl, rfl, rfl, by decide +kernel, rfl, by decide +kernel, by decide +kernel⟩
abbrev s_places_of : Stmt := topS 10
theorem sc_places_of : FnScope ["told", "places", "_", "k", "j"] ["told"] (defScope s_places_of) := ⟨rfl, rfl, rfl, by decide +kernel, rfl, by decide +kernel, by decide +kernel⟩
abbrev s_exact_row : Stmt := topS 12
theorem sc_exact_row : FnScope ["told", "many", "row", "number", "k", "j", "one", "_"] ["told", "many"] (defScope s_exact_row) := ⟨rfl, rfl, rfl, by decide +kernel, rfl, by decide +kernel, by decide +kernel⟩
abbrev s_exact_table : Stmt := topS 13
theorem sc_exact_table : FnScope ["model", "quantities", "laws", "told"] ["model"] (defScope s_exact_table) := ⟨rfl, rfl, rfl, by decide +kernel, rfl, by decide +kernel, by decide +kernel⟩
abbrev s_orders_of : Stmt := topS 16
theorem sc_orders_of : FnScope ["told", "many", "row", "k", "j", "_"] ["told", "many"] (defScope s_orders_of) := ⟨rfl, rfl, rfl, by decide +kernel, rfl, by decide +kernel, by decide +kernel⟩
abbrev s_grid_of : Stmt := topS 17
theorem sc_grid_of : FnScope ["model", "quantities", "laws", "many", "sized", "told"] ["model"] (defScope s_grid_of) := ⟨rfl, rfl, rfl, by decide +kernel, rfl, by decide +kernel, by decide +kernel⟩
abbrev s_exact_indexes : Stmt := topS 18
theorem sc_exact_indexes : FnScope ["grid", "i", "told"] ["grid"] (defScope s_exact_indexes) := ⟨rfl, rfl, rfl, by decide +kernel, rfl, by decide +kernel, by decide +kernel⟩
abbrev s_copied : Stmt := topS 19
theorem sc_copied : FnScope ["told", "kind", "row", "one"] ["told"] (defScope s_copied) := ⟨rfl, rfl, rfl, by decide +kernel, rfl, by decide +kernel, by decide +kernel⟩
abbrev s_with_exact : Stmt := topS 20
theorem sc_with_exact : FnScope ["grid", "table", "found", "i", "row", "told"] ["grid", "table"] (defScope s_with_exact) := ⟨rfl, rfl, rfl, by decide +kernel, rfl, by decide +kernel, by decide +kernel⟩
abbrev s_power_of : Stmt := topS 21
theorem sc_power_of : FnScope ["told", "j", "kind", "row"] ["told", "j"] (defScope s_power_of) := ⟨rfl, rfl, rfl, by decide +kernel, rfl, by decide +kernel, by decide +kernel⟩
abbrev s_powers_of : Stmt := topS 22
theorem sc_powers_of : FnScope ["grid", "told", "j"] ["grid"] (defScope s_powers_of) := ⟨rfl, rfl, rfl, by decide +kernel, rfl, by decide +kernel, by decide +kernel⟩
abbrev s_without : Stmt := topS 23
theorem sc_without : FnScope ["grid", "i", "j", "many", "found", "kind", "row"] ["grid", "i", "j"] (defScope s_without) := ⟨rfl, rfl, rfl, by decide +kernel, rfl, by decide +kernel, by decide +kernel⟩
abbrev s_exact_rows : Stmt := topS 24
theorem sc_exact_rows : FnScope ["grid", "kind", "row", "one"] ["grid"] (defScope s_exact_rows) := ⟨rfl, rfl, rfl, by decide +kernel, rfl, by decide +kernel, by decide +kernel⟩
abbrev s_law_draws : Stmt := topS 26
theorem sc_law_draws : FnScope ["script", "draws", "k", "rest", "turn", "mixed"] ["script"] (defScope s_law_draws) := ⟨rfl, rfl, rfl, by decide +kernel, rfl, by decide +kernel, by decide +kernel⟩
abbrev s_law_mix : Stmt := topS 27
theorem sc_law_mix : FnScope ["draws", "k", "many", "value"] ["draws", "k", "many"] (defScope s_law_mix) := ⟨rfl, rfl, rfl, by decide +kernel, rfl, by decide +kernel, by decide +kernel⟩
abbrev s_law_trimmed : Stmt := topS 28
theorem sc_law_trimmed : FnScope ["numbers", "size", "turn"] ["numbers"] (defScope s_law_trimmed) := ⟨rfl, rfl, rfl, by decide +kernel, rfl, by decide +kernel, by decide +kernel⟩
abbrev s_law_number : Stmt := topS 29
theorem sc_law_number : FnScope ["draws", "k"] ["draws", "k"] (defScope s_law_number) := ⟨rfl, rfl, rfl, by decide +kernel, rfl, by decide +kernel, by decide +kernel⟩
abbrev s_law_element : Stmt := topS 30
theorem sc_law_element : FnScope ["draws", "k", "shares", "out", "at"] ["draws", "k", "shares"] (defScope s_law_element) := ⟨rfl, rfl, rfl, by decide +kernel, rfl, by decide +kernel, by decide +kernel⟩
abbrev s_law_likely : Stmt := topS 31
theorem sc_law_likely : FnScope ["draws", "k", "row", "scale", "shift", "out", "turn", "j", "element", "number", "n"] ["draws", "k", "row"] (defScope s_law_likely) := ⟨rfl, rfl, rfl, by decide +kernel, rfl, by decide +kernel, by decide +kernel⟩
abbrev s_law_orders : Stmt := topS 32
theorem sc_law_orders : FnScope ["draws", "k", "shares", "chosen", "order"] ["draws", "k", "shares"] (defScope s_law_orders) := ⟨rfl, rfl, rfl, by decide +kernel, rfl, by decide +kernel, by decide +kernel⟩
abbrev s_law_grid : Stmt := topS 33
theorem sc_law_grid : FnScope ["draws", "k", "many", "grid", "exact", "share", "i", "at", "row", "j"] ["draws", "k", "many"] (defScope s_law_grid) := ⟨rfl, rfl, rfl, by decide +kernel, rfl, by decide +kernel, by decide +kernel⟩
abbrev s_law_places : Stmt := topS 34
theorem sc_law_places : FnScope ["row", "out", "j", "order"] ["row"] (defScope s_law_places) := ⟨rfl, rfl, rfl, by decide +kernel, rfl, by decide +kernel, by decide +kernel⟩
abbrev s_law_terms : Stmt := topS 35
theorem sc_law_terms : FnScope ["row", "out", "j", "order"] ["row"] (defScope s_law_terms) := ⟨rfl, rfl, rfl, by decide +kernel, rfl, by decide +kernel, by decide +kernel⟩
abbrev s_law_model : Stmt := topS 36
theorem sc_law_model : FnScope ["draws", "k", "grid", "laws", "rows", "count", "i", "kind", "row", "source", "places", "turn", "terms", "order", "at", "j"] ["draws", "k", "grid"] (defScope s_law_model) := ⟨rfl, rfl, rfl, by decide +kernel, rfl, by decide +kernel, by decide +kernel⟩
abbrev s_law_is_integer : Stmt := topS 37
theorem sc_law_is_integer : FnScope ["actual"] ["actual"] (defScope s_law_is_integer) := ⟨rfl, rfl, rfl, by decide +kernel, rfl, by decide +kernel, by decide +kernel⟩
abbrev s_law_refused : Stmt := topS 38
theorem sc_law_refused : FnScope ["way", "grid", "i", "j", "e"] ["way", "grid", "i", "j"] (defScope s_law_refused) := ⟨rfl, rfl, rfl, by decide +kernel, rfl, by decide +kernel, by decide +kernel⟩
abbrev s_law_power : Stmt := topS 39
theorem sc_law_power : FnScope ["kind", "element"] ["kind", "element"] (defScope s_law_power) := ⟨rfl, rfl, rfl, by decide +kernel, rfl, by decide +kernel, by decide +kernel⟩
abbrev s_law_bad : Stmt := topS 40
theorem sc_law_bad : FnScope ["draws", "model", "quantities", "laws", "many", "more", "size", "plain", "names", "j"] ["draws", "model"] (defScope s_law_bad) := ⟨rfl, rfl, rfl, by decide +kernel, rfl, by decide +kernel, by decide +kernel⟩
abbrev s_law_left : Stmt := topS 41
theorem sc_law_left : FnScope ["draws", "rows", "told", "many", "turn", "i", "j", "due", "left", "a"] ["draws", "rows", "told"] (defScope s_law_left) := ⟨rfl, rfl, rfl, by decide +kernel, rfl, by decide +kernel, by decide +kernel⟩
abbrev s_law : Stmt := topS 42
theorem sc_law : FnScope ["script", "draws", "model", "rows", "kept", "told", "row", "kind", "element", "due", "powers", "exact", "item"] ["script"] (defScope s_law) := ⟨rfl, rfl, rfl, by decide +kernel, rfl, by decide +kernel, by decide +kernel⟩
/-- a def as it stands behind the top -/
structure Def (K : PySem.W.Frag) (mg : Str → Option Value) (x : Str) (st : Stmt) (ps : List Str) where
  a : Addr
  fd : FuncData
  F : Fun K x x st a fd
  b : Binds K fd ps []
  g : mg x = some (.ref a)
structure Txt (K : PySem.W.Frag) (mg : Str → Option Value) where
  wording : Def K mg "_wording" s_wording ["name", "at"]
  is_exact : Def K mg "is_exact" s_is_exact ["told"]
  terms_of : Def K mg "terms_of" s_terms_of ["told"]
  places_of : Def K mg "places_of" s_places_of ["told"]
  exact_row : Def K mg "_exact_row" s_exact_row ["told", "many"]
  exact_table : Def K mg "exact_table" s_exact_table ["model"]
  orders_of : Def K mg "orders_of" s_orders_of ["told", "many"]
  grid_of : Def K mg "grid_of" s_grid_of ["model"]
  exact_indexes : Def K mg "exact_indexes" s_exact_indexes ["grid"]
  copied : Def K mg "copied" s_copied ["told"]
  with_exact : Def K mg "with_exact" s_with_exact ["grid", "table"]
  power_of : Def K mg "power_of" s_power_of ["told", "j"]
  powers_of : Def K mg "powers_of" s_powers_of ["grid"]
  without : Def K mg "without" s_without ["grid", "i", "j"]
  exact_rows : Def K mg "exact_rows" s_exact_rows ["grid"]
  law_draws : Def K mg "_law_draws" s_law_draws ["script"]
  law_mix : Def K mg "_law_mix" s_law_mix ["draws", "k", "many"]
  law_trimmed : Def K mg "_law_trimmed" s_law_trimmed ["numbers"]
  law_number : Def K mg "_law_number" s_law_number ["draws", "k"]
  law_element : Def K mg "_law_element" s_law_element ["draws", "k", "shares"]
  law_likely : Def K mg "_law_likely" s_law_likely ["draws", "k", "row"]
  law_orders : Def K mg "_law_orders" s_law_orders ["draws", "k", "shares"]
  law_grid : Def K mg "_law_grid" s_law_grid ["draws", "k", "many"]
  law_places : Def K mg "_law_places" s_law_places ["row"]
  law_terms : Def K mg "_law_terms" s_law_terms ["row"]
  law_model : Def K mg "_law_model" s_law_model ["draws", "k", "grid"]
  law_is_integer : Def K mg "_law_is_integer" s_law_is_integer ["actual"]
  law_refused : Def K mg "_law_refused" s_law_refused ["way", "grid", "i", "j"]
  law_power : Def K mg "_law_power" s_law_power ["kind", "element"]
  law_bad : Def K mg "_law_bad" s_law_bad ["draws", "model"]
  law_left : Def K mg "_law_left" s_law_left ["draws", "rows", "told"]
  law : Def K mg "law" s_law ["script"]
  m_abs : mg "abs" = none
  m_bool : mg "bool" = none
  m_enumerate : mg "enumerate" = none
  m_int : mg "int" = none
  m_isinstance : mg "isinstance" = none
  m_len : mg "len" = none
  m_list : mg "list" = none
  m_max : mg "max" = none
  m_min : mg "min" = none
  m_range : mg "range" = none
  m_repr : mg "repr" = none
  m_sorted : mg "sorted" = none
  m_str : mg "str" = none
  m_sum : mg "sum" = none
  m_tuple : mg "tuple" = none
  m_zip : mg "zip" = none
  k_MOST_ROWS : Tok
  c_MOST_ROWS : mg "MOST_ROWS" = some (.int 16 k_MOST_ROWS)
/-! ### the errors of the text -/
abbrev s_init : Stmt := inClass (topS 2) 0
theorem sc_init : FnScope ["self", "at"] ["self", "at"] (defScope s_init) := ⟨rfl, rfl, rfl, by decide +kernel, rfl, by decide +kernel, by decide +kernel⟩
structure Errs (K : PySem.W.Frag) (mg : Str → Option Value) where
  e0 : LX.Err0 K mg s_init
  NotSquare : LX.ErrC K mg "NotSquare" e0.CM e0.f
  TooLarge : LX.ErrC K mg "TooLarge" e0.CM e0.f
  NoLaw : LX.ErrC K mg "NoLaw" e0.CM e0.f
  NoQuantity : LX.ErrC K mg "NoQuantity" e0.CM e0.f
  n_NotSquare_TooLarge : PySem.W.kitOne K (.ref NotSquare.C) (.ref TooLarge.C) = some false
  n_NotSquare_NoLaw : PySem.W.kitOne K (.ref NotSquare.C) (.ref NoLaw.C) = some false
  n_NotSquare_NoQuantity : PySem.W.kitOne K (.ref NotSquare.C) (.ref NoQuantity.C) = some false
  n_TooLarge_NotSquare : PySem.W.kitOne K (.ref TooLarge.C) (.ref NotSquare.C) = some false
  n_TooLarge_NoLaw : PySem.W.kitOne K (.ref TooLarge.C) (.ref NoLaw.C) = some false
  n_TooLarge_NoQuantity : PySem.W.kitOne K (.ref TooLarge.C) (.ref NoQuantity.C) = some false
  n_NoLaw_NotSquare : PySem.W.kitOne K (.ref NoLaw.C) (.ref NotSquare.C) = some false
  n_NoLaw_TooLarge : PySem.W.kitOne K (.ref NoLaw.C) (.ref TooLarge.C) = some false
  n_NoLaw_NoQuantity : PySem.W.kitOne K (.ref NoLaw.C) (.ref NoQuantity.C) = some false
  n_NoQuantity_NotSquare : PySem.W.kitOne K (.ref NoQuantity.C) (.ref NotSquare.C) = some false
  n_NoQuantity_TooLarge : PySem.W.kitOne K (.ref NoQuantity.C) (.ref TooLarge.C) = some false
  n_NoQuantity_NoLaw : PySem.W.kitOne K (.ref NoQuantity.C) (.ref NoLaw.C) = some false
/-! ### words -/
theorem same_upd {H : Hp} {p : Addr} {o : HO} (h : H p = none) : Same H (upd H p o) := fun b x e => by
  rw [upd_ne (ne_of_none e h)]
  exact e
theorem same_over {H H' : Hp} {p : Addr} {o : HO} (s : Same H H') (h : H p = none) : Same H (upd H' p o) := fun b x e => by
  rw [upd_ne (ne_of_none e h)]
  exact s _ _ e
theorem Same.seqT {K : PySem.W.Frag} {H H' : Hp} {a : Addr} {xs : List V} (e : Same H H') (h : SqT K H a xs) : SqT K H' a xs := by
  rcases h with (h | ⟨o, h⟩) | h
  · exact .inl (.inl (e _ _ h))
  · exact .inl (.inr ⟨o, e _ _ h⟩)
  · exact .inr h
/-- two lists in step -/
inductive A2 {α β : Type} (R : α → β → Prop) : List α → List β → Prop
  | nil : A2 R [] []
  | cons {a b as bs} : R a b → A2 R as bs → A2 R (a :: as) (b :: bs)
namespace A2
variable {α β γ : Type} {R S : α → β → Prop} {as : List α} {bs : List β}
theorem mono (f : ∀ a b, R a b → S a b) : ∀ {as : List α} {bs : List β}, A2 R as bs → A2 S as bs
  | _, _, .nil => .nil
  | _, _, .cons h t => .cons (f _ _ h) (mono f t)
theorem len : ∀ {as : List α} {bs : List β}, A2 R as bs → as.length = bs.length
  | _, _, .nil => rfl
  | _, _, .cons _ t => by rw [List.length_cons, List.length_cons, len t]
theorem get : ∀ {as : List α} {bs : List β}, A2 R as bs → ∀ {i : Nat} {a : α}, as[i]? = some a → ∃ b, bs[i]? = some b ∧ R a b
  | _, _, .nil, i, a, h => by simp at h
  | _, _, .cons h t, 0, a, e => by simp at e; subst e; exact ⟨_, rfl, h⟩
  | _, _, .cons h t, i + 1, a, e => get t (i := i) (by simpa using e)
theorem get' : ∀ {as : List α} {bs : List β}, A2 R as bs → ∀ {i : Nat} {b : β}, bs[i]? = some b → ∃ a, as[i]? = some a ∧ R a b
  | _, _, .nil, i, a, h => by simp at h
  | _, _, .cons h t, 0, a, e => by simp at e; subst e; exact ⟨_, rfl, h⟩
  | _, _, .cons h t, i + 1, a, e => get' t (i := i) (by simpa using e)
theorem snoc {a : α} {b : β} (h : R a b) : ∀ {as : List α} {bs : List β}, A2 R as bs → A2 R (as ++ [a]) (bs ++ [b])
  | _, _, .nil => .cons h .nil
  | _, _, .cons x t => .cons x (snoc h t)
theorem set {a : α} {b : β} (h : R a b) : ∀ {as : List α} {bs : List β}, A2 R as bs → ∀ i : Nat, A2 R (as.set i a) (bs.set i b)
  | _, _, .nil, _ => .nil
  | _, _, .cons _ t, 0 => .cons h t
  | _, _, .cons x t, i + 1 => .cons x (set h t i)
end A2
theorem take_snoc {α : Type} {xs : List α} {i : Nat} {x : α} (h : xs[i]? = some x) : xs.take (i + 1) = xs.take i ++ [x] := by
  rw [List.take_add_one, h]; rfl
theorem a2_eq {α : Type} {f : α → V} : ∀ {ys : List V} {xs : List α}, A2 (fun v x => v = f x) ys xs → ys = xs.map f
  | _, _, .nil => rfl
  | _, _, .cons h t => by rw [h, a2_eq t]; rfl
theorem a2_ref {α : Type} {R : Addr → α → Prop} : ∀ {ys : List V} {xs : List α}, A2 (fun v x => ∃ a, v = .ref a ∧ R a x) ys xs → ∃ as : List Addr, ys = as.map V.ref ∧ A2 R as xs
  | _, _, .nil => ⟨[], rfl, .nil⟩
  | _, _, .cons ⟨a, e, h⟩ t => by
    obtain ⟨as, rfl, r⟩ := a2_ref t
    exact ⟨a :: as, by rw [e]; rfl, .cons h r⟩
theorem fm_some {α β : Type} (f : α → β) (xs : List α) : xs.filterMap (fun x => some (f x)) = xs.map f := by
  induction xs with
  | nil => rfl
  | cons x r ih =>
    rw [List.filterMap_cons]
    show f x :: _ = _
    rw [ih]; rfl
theorem some_at {α : Type} {xs : List α} {i : Nat} (h : i < xs.length) : ∃ x, xs[i]? = some x := ⟨_, List.getElem?_eq_getElem h⟩
theorem mem_at {α : Type} {xs : List α} {i : Nat} {x : α} (h : xs[i]? = some x) : x ∈ xs := List.mem_of_getElem? h
/-- a list of ints stands at a -/
def IL (H : Hp) (a : Addr) (ns : List Int) : Prop := H a = some (.lst (ns.map V.int))
theorem IL.sq {K : PySem.W.Frag} {H : Hp} {a : Addr} {ns : List Int} (h : IL H a ns) : SqL K H a (ns.map V.int) := SqL.of h
theorem IL.same {H H' : Hp} {a : Addr} {ns : List Int} (h : IL H a ns) (s : Same H H') : IL H' a ns := s _ _ h
theorem il_upd {H : Hp} {p : Addr} {ns : List Int} : IL (upd H p (.lst (ns.map V.int))) p ns := upd_same
theorem app_ints {ds : List Int} {x : Int} : ds.map V.int ++ [V.int x] = (ds ++ [x]).map V.int := by rw [List.map_append]; rfl
theorem small {n : Nat} (h : n ≤ 60000) : n ≤ sizeLine := Nat.le_trans h (by decide)
theorem small' {n : Nat} (h : n < 60000) : n < sizeLine := Nat.lt_of_lt_of_le h (by decide)
def cf (ns : List Int) (m : Nat) : Int := ns.getD m 0
theorem at_map {ns : List Int} {m : Nat} (h : m < ns.length) : ns[m]? = some (cf ns m) := by unfold cf; rw [List.getD_eq_getElem?_getD, List.getElem?_eq_getElem h]; rfl
theorem at_map' {ns : List Int} {i : Int} {m : Nat} (e : i = (m : Int)) (h : m < ns.length) : atI (ns.map V.int) i = some (V.int (cf ns m)) := by
  rw [e]
  refine atI_nat ?_
  rw [List.getElem?_map, at_map h]; rfl
/-- all but D stand as they stood -/
def SameX (D : Addr) (H H' : Hp) : Prop := ∀ c o, c ≠ D → H c = some o → H' c = some o
theorem sx {D : Addr} {H H' : Hp} (s : Same H H') : SameX D H H' := fun c o _ h => s c o h
theorem SameX.trans {D : Addr} {H H1 H2 : Hp} (a : SameX D H H1) (b : SameX D H1 H2) : SameX D H H2 := fun c o n h => b c o n (a c o n h)
theorem SameX.put {D : Addr} {H : Hp} {o : HO} : SameX D H (upd H D o) := fun c x n h => by
  rw [upd_ne n]; exact h
section
variable {J : It} {n : Nat} {G : Hp → Prop} {Y : Nat → Hp → V → Hp → Prop} {g : TG} {tt : TT} {te : TE} {vs : List Nat} {σ : L2.St} {H1 : Hp} {D : Addr} {Qd : Hp → Prop}
/-- what a comprehension wants of its turns -/
abbrev LcW (J : It) (g : TG) (tt : TT) (te : TE) (vs : List Nat) (σ : L2.St) (H1 : Hp) (D : Addr) (Qd : Hp → Prop) : Prop :=
  ∃ W : Nat → Nat → Hp → Prop, (∃ m, W 0 m (upd H1 D (.lst []))) ∧ ∀ i m H, W i m H →
      (J.stop i H ∧ Qd H) ∨ (J.go i H ∧ ∃ Nx : Hp → Prop, (∀ H', Nx H' → ∃ m', m' < m ∧ W (i + 1) m' H') ∧ ∀ x H', J.yld i H x H' → g x (wipe σ vs) H' fun σ2 H2 => wipe σ2 vs = wipe σ vs ∧ tt σ2 H2 fun b H3 =>
        if b = true then te σ2 H3 fun y H4 => ∃ acc, H4 D = some (.lst acc) ∧ acc.length < sizeLine ∧ Nx (upd H4 D (.lst (acc ++ [y]))) else Nx H3)
theorem lc_inv (w : Walk J n G Y) (R : Nat → Hp → List V → Prop) (nD : H1 D = none) (hG : ∀ H', Same H1 H' → G H') (hl : n < sizeLine) (h0 : R 0 (upd H1 D (.lst [])) [])
    (hs : ∀ i x H Hx ys, i < n → Same H1 H → H D = some (.lst ys) → R i H ys → Y i H x Hx → ∀ (Qt : VK) (Qf : Hp → Prop), (∀ y H4, Same H H4 → R (i + 1) (upd H4 D (.lst (ys ++ [y]))) (ys ++ [y]) → Qt y H4) →
      (∀ H3, Same H H3 → R (i + 1) H3 ys → Qf H3) → g x (wipe σ vs) Hx fun σ2 H2 => wipe σ2 vs = wipe σ vs ∧ tt σ2 H2 fun b H3 => if b = true then te σ2 H3 Qt else Qf H3)
    (hd : ∀ H ys, Same H1 H → H D = some (.lst ys) → R n H ys → Qd H) : LcW J g tt te vs σ H1 D Qd := by
  refine lc_it w (fun i H => Same H1 H ∧ ∃ ys, ys.length ≤ i ∧ H D = some (.lst ys) ∧ R i H ys) ⟨same_upd nD, [], Nat.le_refl _, upd_same, h0⟩ (fun i H _ p => hG H p.1) (fun i x H Hx hi p y => ?_) (fun H p => ?_)
  · obtain ⟨sm, ys, hn, hD, hR⟩ := p
    refine hs i x H Hx ys hi sm hD hR y (fun y H4 => ∃ acc, H4 D = some (.lst acc) ∧ acc.length < sizeLine ∧ Same H1 (upd H4 D (.lst (acc ++ [y]))) ∧ ∃ zs, zs.length ≤ i + 1 ∧ upd H4 D (.lst (acc ++ [y])) D = some (.lst zs) ∧ R (i + 1) (upd H4 D (.lst (acc ++ [y]))) zs) _ (fun y H4 s4 r => ?_) (fun H3 s3 r => ?_)
    · exact ⟨ys, s4 _ _ hD, by omega, same_over (sm.trans s4) nD, ys ++ [y], by rw [List.length_append]; exact Nat.succ_le_succ hn, upd_same, r⟩
    · exact ⟨sm.trans s3, ys, by omega, s3 _ _ hD, r⟩
  · obtain ⟨sm, ys, _, hD, hR⟩ := p
    exact hd H ys sm hD hR
/-- item by item -/
theorem lc_fm {α β : Type} (w : Walk J n G Y) (ls : List α) (f : α → Option β) (rel : Hp → V → β → Prop) (mono : ∀ H H' v b, SameX D H H' → rel H v b → rel H' v b) (hn : ls.length = n) (nD : H1 D = none)
    (hG : ∀ H', Same H1 H' → G H') (hl : n < sizeLine)
    (hs : ∀ i x H Hx ys l, ls[i]? = some l → Same H1 H → H D = some (.lst ys) → Y i H x Hx → ∀ (Qt : VK) (Qf : Hp → Prop), (∀ y H4 b, f l = some b → Same H H4 → rel H4 y b → Qt y H4) →
      (f l = none → ∀ H3, Same H H3 → Qf H3) → g x (wipe σ vs) Hx fun σ2 H2 => wipe σ2 vs = wipe σ vs ∧ tt σ2 H2 fun b H3 => if b = true then te σ2 H3 Qt else Qf H3)
    (hd : ∀ H ys, Same H1 H → H D = some (.lst ys) → A2 (rel H) ys (ls.filterMap f) → Qd H) : LcW J g tt te vs σ H1 D Qd := by
  refine lc_inv w (fun i H ys => A2 (rel H) ys ((ls.take i).filterMap f)) nD hG hl .nil (fun i x H Hx ys hi sm hD hR y Qt Qf qt qf => ?_) (fun H ys sm hD hR => ?_)
  · obtain ⟨l, hl⟩ : ∃ l, ls[i]? = some l := ⟨ls[i]'(by omega), by simp [show i < ls.length by omega]⟩
    refine hs i x H Hx ys l hl sm hD y Qt Qf (fun y H4 b hb s4 r => ?_) (fun hb H3 s3 => ?_)
    · refine qt y H4 s4 ?_
      rw [take_snoc hl, List.filterMap_append]
      show A2 _ _ (_ ++ List.filterMap f [l])
      rw [show List.filterMap f [l] = [b] by simp [hb]]
      exact A2.snoc (mono _ _ _ _ SameX.put r) (hR.mono fun _ _ z => mono _ _ _ _ ((sx s4).trans SameX.put) z)
    · refine qf H3 s3 ?_
      rw [take_snoc hl, List.filterMap_append]
      show A2 _ _ (_ ++ List.filterMap f [l])
      rw [show List.filterMap f [l] = [] by simp [hb], List.append_nil]
      exact hR.mono fun _ _ z => mono _ _ _ _ (sx s3) z
  · rw [List.take_of_length_le (by omega)] at hR
    exact hd H ys sm hD hR
/-- new things, one a turn, each with something known of it -/
theorem lc_new {β : Type} (w : Walk J n G Y) (rel : Hp → Addr → β → Prop) (mono : ∀ H H' v b, SameX D H H' → rel H v b → rel H' v b) (ok : Nat → β → Prop) (nD : H1 D = none) (hG : ∀ H', Same H1 H' → G H') (hl : n < sizeLine)
    (hs : ∀ i x H Hx, i < n → Same H1 H → H D ≠ none → Y i H x Hx → ∀ Qt : VK, (∀ y b H4, Same H H4 → rel H4 y b → ok i b → Qt (.ref y) H4) → g x (wipe σ vs) Hx fun σ2 H2 => wipe σ2 vs = wipe σ vs ∧ tt σ2 H2 fun b H3 => b = true ∧ te σ2 H3 Qt)
    (hd : ∀ H as bs, Same H1 H → H D = some (.lst (as.map V.ref)) → A2 (rel H) as bs → bs.length = n → (∀ i b, bs[i]? = some b → ok i b) → Qd H)
    (gm : ∀ {x σ' H' Q1 Q2}, (∀ a b, Q1 a b → Q2 a b) → g x σ' H' Q1 → g x σ' H' Q2) (tm : ∀ {σ' H' Q1 Q2}, (∀ a b, Q1 a b → Q2 a b) → tt σ' H' Q1 → tt σ' H' Q2) : LcW J g tt te vs σ H1 D Qd := by
  refine lc_inv w (fun i H ys => ∃ (as : List Addr) (bs : List β), ys = as.map V.ref ∧ A2 (rel H) as bs ∧ bs.length = i ∧ ∀ j b, bs[j]? = some b → ok j b) nD hG hl ⟨[], [], rfl, .nil, rfl, fun j b z => by simp at z⟩ (fun i x H Hx ys hi sm hD hR y Qt Qf qt qf => ?_) (fun H ys sm hD hR => ?_)
  · obtain ⟨as, bs, rfl, ha, hb, hk⟩ := hR
    refine gm (fun σ2 H2 z => ⟨z.1, tm (fun c H3 z2 => ?_) z.2⟩) (hs i x H Hx hi sm (by rw [hD]; exact fun z => nomatch z) y Qt fun y b H4 s4 r o => ?_)
    · rw [if_pos z2.1]
      exact z2.2
    · refine qt _ _ s4 ⟨as ++ [y], bs ++ [b], by rw [List.map_append]; rfl, A2.snoc (mono _ _ _ _ SameX.put r) (ha.mono fun _ _ z => mono _ _ _ _ ((sx s4).trans SameX.put) z), by rw [List.length_append, hb]; rfl, fun j c z => ?_⟩
      rcases Nat.lt_or_ge j bs.length with lt | ge
      · rw [List.getElem?_append_left lt] at z
        exact hk j c z
      · rw [List.getElem?_append_right ge] at z
        have e : j - bs.length = 0 := by
          rcases Nat.eq_zero_or_pos (j - bs.length) with e | e
          · exact e
          · rw [List.getElem?_eq_none (by show 1 ≤ _; omega)] at z
            cases z
        rw [e] at z
        cases z
        have : j = i := by omega
        rw [this]
        exact o
  · obtain ⟨as, bs, rfl, ha, hb, hk⟩ := hR
    exact hd H as bs sm hD ha hb hk
end
def rLenS (K : PySem.W.Frag) : List V → Hp → VK → Prop := fun xs H Q => ∃ p ys, xs = [.ref p] ∧ (SqL K H p ys ∨ SqT K H p ys) ∧ Q (.int (ys.length : Nat)) H
theorem call_lenC {X : Cx} : CallR X (.builtin "len") (rLenS X.K) := call_len_seq
def rListC (K : PySem.W.Frag) : List V → Hp → VK → Prop := fun xs H Q => ∃ p ys, xs = [.ref p] ∧ (SqL K H p ys ∨ SqT K H p ys) ∧ ∀ l, H l = none → Q (.ref l) (upd H l (.lst ys))
theorem call_listC {X : Cx} : CallR X (.type "list") (rListC X.K) := call_list_of
/-! ### grids -/
abbrev Rw := Bool × List (List Int)
def kS (b : Bool) : Str := if b then "exact" else "sized"
def RowL (H : Hp) (b : Addr) (els : List (List Int)) : Prop := ∃ as : List Addr, H b = some (.lst (as.map V.ref)) ∧ A2 (IL H) as els
def RwV (K : PySem.W.Frag) (H : Hp) (v : V) (r : Rw) : Prop := ∃ t b, v = .ref t ∧ SqT K H t [.str (kS r.1), .ref b] ∧ RowL H b r.2
def GR (K : PySem.W.Frag) (H : Hp) (g : Addr) (rs : List Rw) : Prop := ∃ xs, H g = some (.lst xs) ∧ A2 (RwV K H) xs rs
/-- all stands but the tables of code -/
def Lk (H H' : Hp) : Prop := ∀ b o, H b = some o → (∀ q, o ≠ .tbl q) → H' b = some o
theorem Lk.refl {H : Hp} : Lk H H := fun _ _ h _ => h
theorem Lk.trans {H H1 H2 : Hp} (a : Lk H H1) (b : Lk H1 H2) : Lk H H2 := fun c o h n => b c o (a c o h n) n
theorem lk {H H' : Hp} (s : Same H H') : Lk H H' := fun b o h _ => s b o h
theorem lk_tab {H H' : Hp} {P : Addr} (h : GxR.TabG H P) (s : GxR.Tabbed P H H') : Lk H H' := fun b o e n => by
  by_cases z : b = P
  · obtain ⟨ps, hP, _⟩ := h
    rw [z, hP] at e
    cases e
    exact absurd rfl (n ps)
  · rw [s.2 b z]
    exact e
theorem tabG_same {H H' : Hp} {P : Addr} (h : GxR.TabG H P) (s : Same H H') : GxR.TabG H' P := let ⟨ps, e, t⟩ := h; ⟨ps, s _ _ e, t⟩
section
variable {K : PySem.W.Frag} {H H' : Hp}
theorem Lk.seqT (s : Lk H H') {a : Addr} {xs : List V} (h : SqT K H a xs) : SqT K H' a xs := by
  rcases h with (h | ⟨o, h⟩) | h
  · exact .inl (.inl (s _ _ h fun _ z => nomatch z))
  · exact .inl (.inr ⟨o, s _ _ h fun _ z => nomatch z⟩)
  · exact .inr h
theorem Lk.seqL (s : Lk H H') {a : Addr} {xs : List V} (h : SqL K H a xs) : SqL K H' a xs := by
  rcases h with (h | ⟨o, h⟩) | h
  · exact .inl (.inl (s _ _ h fun _ z => nomatch z))
  · exact .inl (.inr ⟨o, s _ _ h fun _ z => nomatch z⟩)
  · exact .inr h
theorem Lk.lst (s : Lk H H') {a : Addr} {xs : List V} (h : H a = some (.lst xs)) : H' a = some (.lst xs) := s _ _ h fun _ z => nomatch z
theorem IL.lk (s : Lk H H') {a : Addr} {ns : List Int} (h : IL H a ns) : IL H' a ns := s.lst h
theorem RowL.lk (s : Lk H H') {b : Addr} {els : List (List Int)} (h : RowL H b els) : RowL H' b els := let ⟨as, e, r⟩ := h; ⟨as, s.lst e, r.mono fun _ _ z => z.lk s⟩
theorem RwV.lk (s : Lk H H') {v : V} {r : Rw} (h : RwV K H v r) : RwV K H' v r := let ⟨t, b, e, z, y⟩ := h; ⟨t, b, e, s.seqT z, y.lk s⟩
theorem GR.lk (s : Lk H H') {g : Addr} {rs : List Rw} (h : GR K H g rs) : GR K H' g rs := let ⟨xs, e, r⟩ := h; ⟨xs, s.lst e, r.mono fun _ _ z => z.lk s⟩
end
/-- an element of a grid that is drawn -/
def VE (ns : List Int) : Prop := ns.length ≤ 13 ∧ ∀ n ∈ ns, n.natAbs ≤ 10 ^ 30
def VR (many : Nat) (els : List (List Int)) : Prop := els.length = many ∧ ∀ e ∈ els, VE e
def VG (many : Nat) (rs : List Rw) : Prop := rs.length = many ∧ ∀ r ∈ rs, VR many r.2
/-- the power of an element -/
def pw (ex : Bool) (e : List Int) : Option Int := if e = [] then none else some (if ex = true then (e.length : Int) - 1 else cf e (e.length - 1))
def vI : Option Int → V
  | none => .non
  | some k => .int k
-- D
section
variable {P : Program} {w : World} {K : PySem.W.Frag} {mg : Str → Option Value} {base : Heap}
def sp_law_draws (K : PySem.W.Frag) : Sp := fun vs H Q _ => ∃ (a : Addr) (ns : List Int), vs = [.ref a] ∧ SqL K H a (ns.map V.int) ∧ ns.length ≤ 63 ∧ ∀ H' p ds, Same H H' → H p = none → IL H' p ds → ds.length ≤ 4000 → Q (.ref p) H'
theorem ok_law_draws (T : Txt K mg) : FnOk P w K mg base CX0 1 T.law_draws.a T.law_draws.fd ["script"] (sp_law_draws K) := by
  refine T.law_draws.F.ok sc_law_draws (fun vs H Q E h => ?_) (fun cdv A outer s H vs Q E hr h => ?_)
  · obtain ⟨a, ns, rfl, _⟩ := h
    rfl
  · obtain ⟨a, ns, rfl, ha, hl, q⟩ := h
    refine ⟨_, (pss_cons (ps_set (i := 1) sc_law_draws.nd rfl (.inl rfl) (pe_lst pa_nil))
      (pss_cons (ps_for PassesOwn.never rfl (pi_range1 (by rfl) T.m_range (pa_cons (pe_callB (call_min2 rfl) (by rfl) T.m_min (by decide +kernel) (pa_cons pe_int (pa_cons (pe_callB call_len_seq (by rfl) T.m_len (by decide +kernel) (pa_cons (pv 0) pa_nil)) pa_nil))) pa_nil)) (pg_name (i := 2) sc_law_draws.nd rfl (.inl rfl))
        (pss_cons (ps_set (i := 3) sc_law_draws.nd rfl (.inl rfl) (pe_callB call_abs (by rfl) T.m_abs (by decide +kernel) (pa_cons (pe_ix ix_list (pv 0) (pv 2) (fun _ _ => rfl)) pa_nil)))
        (pss_one (ps_if (pt_cmpR op_ge (pv 3) (pe_op op_pow pe_int pe_int) (nomark _))
          (pss_one (ps_for PassesOwn.never rfl (pi_range1 (by rfl) T.m_range (pa_cons pe_int pa_nil)) (pg_name (i := 4) sc_law_draws.nd rfl (.inl rfl))
            (pss_one (ps_if (pt_cmpR op_gt (pv 3) pe_int (nomark _))
              (pss_cons (ps_expr (pe_bm PySem.F.plainAttrs_list PySem.F.slot_list_append PySem.F.type_list_append mt_append (pv 1) (pa_cons (pe_op op_mod (pe_callTy call_int1 (by rfl) T.m_int (by decide +kernel) (pa_cons (pv 3) pa_nil)) pe_int) pa_nil)))
              (pss_one (ps_set (i := 3) sc_law_draws.nd rfl (.inl rfl) (pe_op op_fdiv (pv 3) pe_int))))
              pss_nil))))
          (pss_cons (ps_set (i := 5) sc_law_draws.nd rfl (.inl rfl) (pe_op op_mod (pe_callTy call_int1 (by rfl) T.m_int (by decide +kernel) (pa_cons (pe_op op_add (pe_op op_mul (pv 3) pe_int) (pe_op op_mul (pe_op op_add (pv 2) pe_int) pe_int)) pa_nil)) pe_int))
          (pss_cons (ps_set (i := 5) sc_law_draws.nd rfl (.inl rfl) (pe_op op_mod (pe_callTy call_int1 (by rfl) T.m_int (by decide +kernel) (pa_cons (pe_op op_add (pe_op op_add (pe_op op_mul (pv 5) pe_int) (pe_op op_mul pe_int (pv 2))) pe_int) pa_nil)) pe_int))
          (pss_cons (ps_expr (pe_bm PySem.F.plainAttrs_list PySem.F.slot_list_append PySem.F.type_list_append mt_append (pv 1) (pa_cons (pe_op op_mod (pe_callTy call_int1 (by rfl) T.m_int (by decide +kernel) (pa_cons (pv 5) pa_nil)) pe_int) pa_nil)))
          (pss_one (ps_expr (pe_bm PySem.F.plainAttrs_list PySem.F.slot_list_append PySem.F.type_list_append mt_append (pv 1) (pa_cons (pe_op op_mod (pe_callTy call_int1 (by rfl) T.m_int (by decide +kernel) (pa_cons (pe_op op_fdiv (pv 5) pe_int) pa_nil)) pe_int) pa_nil)))))))))))
      (pss_one (ps_ret (pv 1))))), ?_⟩
    refine ⟨Nat.zero_le _, fun p hp => ?_⟩
    have s0 := same_upd (o := .lst []) hp
    obtain ⟨L, hL, eL⟩ : ∃ L : Nat, L ≤ ns.length ∧ L ≤ 63 ∧ (if ((ns.map V.int).length : Int) < 63 then ((ns.map V.int).length : Int) else 63) = (L : Int) := by
      refine ⟨min ns.length 63, Nat.min_le_left _ _, Nat.min_le_right _ _, ?_⟩
      rw [List.length_map]
      split <;> omega
    refine ⟨.ref a, rfl, a, _, rfl, .inl (s0.seq ha), 63, _, rfl, (L : Int), congrArg (fun z => [V.int z]) eL.2, by omega, by omega, ?_⟩
    refine for_range (n := (L : Int).toNat) (lo := 0) (fun i σ H' => Same H H' ∧ ∃ ds v2 v3 v4 v5, σ = [some (.ref a), some (.ref p), v2, v3, v4, v5] ∧ IL H' p ds ∧ ds.length ≤ 60 * i) ⟨s0, [], none, none, none, none, rfl, upd_same, Nat.zero_le _⟩ (fun i σ H' hi hP => ?_) (fun σ H' hP => ?_)
    · obtain ⟨sm, ds, v2, v3, v4, v5, rfl, hd, hn⟩ := hP
      have hi' : i < ns.length := by omega
      refine ⟨.ref a, rfl, _, rfl, a, _, _, _, rfl, rfl, sm.seq ha, at_map' (m := i) (by omega) hi', _, rfl, ?_⟩
      obtain ⟨r, hr1, er⟩ : ∃ r : Int, 0 ≤ r ∧ (if cf ns i < 0 then -cf ns i else cf ns i) = r := ⟨_, by split <;> omega, rfl⟩
      rw [er]
      refine ⟨_, rfl, _, _, rfl, rfl, ⟨by decide, by decide, by decide⟩, _, _, rfl, rfl, _, rfl, ?_⟩
      refine ite2 (fun _ => ?_) (fun hlt => ?_)
      · refine ⟨60, rfl, by decide, by decide, ?_⟩
        refine for_range (n := 60) (lo := 0) (fun j σ H' => Same H H' ∧ ∃ ds v2 v4 v5 r, σ = [some (.ref a), some (.ref p), v2, some (.int r), v4, v5] ∧ 0 ≤ r ∧ IL H' p ds ∧ ds.length ≤ 60 * i + j) ⟨sm, ds, _, _, _, r, rfl, hr1, hd, hn⟩ (fun j σ H' hj hP => ?_) (fun σ H' hP => ?_)
        · obtain ⟨sm, ds, v2, v4, v5, r, rfl, hr1, hd, hn⟩ := hP
          refine ⟨_, rfl, _, _, rfl, rfl, _, rfl, ?_⟩
          refine ite2 (fun _ => ?_) (fun _ => ⟨sm, ds, _, _, _, r, rfl, hr1, hd, by omega⟩)
          refine ⟨.ref p, rfl, .inl ⟨rfl, _, hd.sq⟩, _, rfl, .inl ⟨_, rfl, _, _, rfl, rfl, (by show (0 : Int) < _; decide), p, _, _, rfl, rfl, hd, by rw [List.length_map]; exact small' (by omega), ?_⟩⟩
          rw [app_ints]
          refine ⟨_, rfl, _, _, rfl, rfl, ⟨by decide, by decide⟩, ?_⟩
          exact ⟨same_over sm hp, _, _, _, _, _, rfl, by omega, il_upd, by rw [List.length_append]; show _ + 1 ≤ _; omega⟩
        · obtain ⟨sm, ds, v2, v4, v5, r, rfl, hr1, hd, hn⟩ := hP
          exact ⟨sm, ds, _, _, _, _, rfl, hd, by omega⟩
      · have hr2 : r < 10 ^ 18 := by
          have e : ((10 : Int) ^ (18 : Int).toNat) = 10 ^ 18 := rfl
          rw [e] at hlt
          have := of_decide_eq_false (Bool.eq_false_iff.mpr hlt)
          omega
        refine ⟨_, rfl, _, _, rfl, rfl, .inl ⟨by omega, by omega⟩, _, rfl, _, _, rfl, rfl, _, _, rfl, rfl, .inr ⟨by decide, by decide⟩, _, _, rfl, rfl, .inl ⟨_, rfl, _, _, rfl, rfl, (by show (0 : Int) < _; decide), ?_⟩⟩
        refine ⟨_, rfl, _, _, rfl, rfl, .inr ⟨by decide, by decide⟩, _, rfl, _, _, rfl, rfl, .inl ⟨by decide, by decide⟩, _, _, rfl, rfl, _, _, rfl, rfl, .inl ⟨_, rfl, _, _, rfl, rfl, (by show (0 : Int) < _; decide), ?_⟩⟩
        refine ⟨.ref p, rfl, .inl ⟨rfl, _, hd.sq⟩, _, rfl, .inl ⟨_, rfl, _, _, rfl, rfl, (by show (0 : Int) < _; decide), p, _, _, rfl, rfl, hd, by rw [List.length_map]; exact small' (by omega), ?_⟩⟩
        rw [app_ints]
        refine ⟨.ref p, rfl, .inl ⟨rfl, _, il_upd.sq⟩, _, rfl, _, _, rfl, rfl, ⟨by decide, by decide⟩, .inl ⟨_, rfl, _, _, rfl, rfl, (by show (0 : Int) < _; decide), p, _, _, rfl, rfl, il_upd, by rw [List.length_map, List.length_append]; exact small' (by show _ + 1 < _; omega), ?_⟩⟩
        rw [app_ints]
        exact ⟨same_over (same_over sm hp) hp, _, _, _, _, _, rfl, il_upd, by rw [List.length_append, List.length_append]; show _ + 1 + 1 ≤ _; omega⟩
    · obtain ⟨sm, ds, v2, v3, v4, v5, rfl, hd, hn⟩ := hP
      exact ⟨_, rfl, q H' p ds sm hp hd (by omega)⟩
def sp_law_mix : Sp := fun vs H Q _ => ∃ (a : Addr) (ds : List Int) (k many : Int), vs = [.ref a, .int k, .int many] ∧ IL H a ds ∧ 0 ≤ k ∧ 0 < many ∧ ∀ r, 0 ≤ r → r < many → Q (.int r) H
theorem ok_law_mix (T : Txt K mg) : FnOk P w K mg base CX0 1 T.law_mix.a T.law_mix.fd ["draws", "k", "many"] sp_law_mix := by
  refine T.law_mix.F.ok sc_law_mix (fun vs H Q E h => ?_) (fun cdv A outer s H vs Q E hr h => ?_)
  · obtain ⟨a, ds, k, m, rfl, _⟩ := h
    rfl
  · obtain ⟨a, ds, k, m, rfl, ha, hk, hm, q⟩ := h
    have qq : ∀ z : Int, Q (.int (z % m)) H := fun z => q _ (Int.emod_nonneg _ (by omega)) (Int.emod_lt_of_pos _ hm)
    refine ⟨_, (pss_cons (ps_set (i := 3) sc_law_mix.nd rfl (.inl rfl) pe_int)
      (pss_cons (ps_if (pt_cmpR op_gt (pe_callB call_len_seq (by rfl) T.m_len (by decide +kernel) (pa_cons (pv 0) pa_nil)) pe_int (nomark _))
        (pss_one (ps_set (i := 3) sc_law_mix.nd rfl (.inl rfl) (pe_ix ix_list (pv 0) (pe_op op_mod (pe_callTy call_int1 (by rfl) T.m_int (by decide +kernel) (pa_cons (pv 1) pa_nil)) (pe_callB call_len_seq (by rfl) T.m_len (by decide +kernel) (pa_cons (pv 0) pa_nil))) (fun _ _ => rfl))))
        pss_nil)
      (pss_cons (ps_if (pt_cmpR op_lt (pv 1) (pe_callB call_len_seq (by rfl) T.m_len (by decide +kernel) (pa_cons (pv 0) pa_nil)) (nomark _))
        (pss_one (ps_ret (pe_op op_mod (pe_callTy call_int1 (by rfl) T.m_int (by decide +kernel) (pa_cons (pv 3) pa_nil)) (pv 2))))
        pss_nil)
      (pss_one (ps_ret (pe_op op_mod (pe_callTy call_int1 (by rfl) T.m_int (by decide +kernel) (pa_cons (pe_op op_fdiv (pe_callTy call_int1 (by rfl) T.m_int (by decide +kernel) (pa_cons (pe_op op_add (pe_op op_mul (pv 3) pe_int) (pe_op op_mul (pv 1) pe_int)) pa_nil)) pe_int) pa_nil)) (pv 2))))))), ?_⟩
    refine ⟨.ref a, rfl, a, _, rfl, .inl ha.sq, _, _, rfl, rfl, _, rfl, ?_⟩
    rw [List.length_map]
    refine ite2 (fun h => ?_) (fun h => ?_)
    · have hp : 0 < ds.length := by have := of_decide_eq_true h; omega
      obtain ⟨n, hn, en⟩ : ∃ n : Nat, n < ds.length ∧ k % (ds.length : Int) = (n : Int) := ⟨(k % (ds.length : Int)).toNat, by have := Int.emod_nonneg k (show (ds.length : Int) ≠ 0 by omega); have := Int.emod_lt_of_pos k (show (0 : Int) < ds.length by omega); omega, by have := Int.emod_nonneg k (show (ds.length : Int) ≠ 0 by omega); omega⟩
      refine ⟨.ref a, rfl, _, rfl, .inl ⟨_, rfl, .ref a, rfl, a, _, rfl, .inl ha.sq, _, _, rfl, rfl, (by show (0 : Int) < _; rw [List.length_map]; omega), a, _, _, _, rfl, rfl, ha.sq, at_map' (m := n) (by rw [List.length_map]; exact en) hn, ?_⟩⟩
      refine ⟨_, rfl, .ref a, rfl, a, _, rfl, .inl ha.sq, _, _, rfl, rfl, _, rfl, ?_⟩
      refine ite2 (fun _ => ?_) (fun _ => ?_)
      · exact ⟨_, rfl, .inl ⟨_, rfl, _, rfl, _, _, rfl, rfl, hm, qq _⟩⟩
      · exact ⟨_, rfl, _, _, rfl, rfl, .inr ⟨by decide, by decide⟩, _, rfl, _, _, rfl, rfl, .inr ⟨by decide, by decide⟩, _, _, rfl, rfl, .inl ⟨_, rfl, _, _, rfl, rfl, ⟨by decide, by decide⟩, .inl ⟨_, rfl, _, rfl, _, _, rfl, rfl, hm, qq _⟩⟩⟩
    · refine ⟨_, rfl, .ref a, rfl, a, _, rfl, .inl ha.sq, _, _, rfl, rfl, _, rfl, ?_⟩
      refine ite2 (fun _ => ?_) (fun _ => ?_)
      · exact ⟨_, rfl, .inl ⟨_, rfl, _, rfl, _, _, rfl, rfl, hm, qq _⟩⟩
      · exact ⟨_, rfl, _, _, rfl, rfl, .inr ⟨by decide, by decide⟩, _, rfl, _, _, rfl, rfl, .inr ⟨by decide, by decide⟩, _, _, rfl, rfl, .inl ⟨_, rfl, _, _, rfl, rfl, ⟨by decide, by decide⟩, .inl ⟨_, rfl, _, rfl, _, _, rfl, rfl, hm, qq _⟩⟩⟩
end
-- E
section
variable {P : Program} {w : World} {K : PySem.W.Frag} {mg : Str → Option Value} {base : Heap}
theorem cut_to {ns : List Int} {m : Nat} (h : m ≤ ns.length) : cutV (ns.map V.int) none (some (m : Int)) = (ns.take m).map V.int := by
  unfold cutV
  rw [HT.sIx_none, HT.sIx_nat, List.drop_zero, List.length_map, Nat.min_eq_left h, Nat.sub_zero, List.map_take]
theorem cut_from {ns : List Int} : cutV (ns.map V.int) (some ((1 : Nat) : Int)) none = (ns.drop 1).map V.int := by
  unfold cutV
  rw [HT.sIx_none, HT.sIx_nat, List.length_map, List.map_drop, List.take_of_length_le]
  · cases ns with
    | nil => rfl
    | cons x r => rw [Nat.min_eq_left (by show 1 ≤ r.length + 1; omega)]
  · rw [List.length_drop, List.length_map]; exact Nat.le_refl _
/-- the last number is not 0 -/
def NZ (ns : List Int) : Prop := ∀ x, ns[ns.length - 1]? = some x → x ≠ 0
theorem nz_nil : NZ [] := fun x h => by cases h
theorem nz_take {ns : List Int} {m : Nat} (m0 : 0 < m) (hm : m ≤ ns.length) (h : cf ns (m - 1) ≠ 0) : NZ (ns.take m) := fun x hx => by
  rw [List.length_take, Nat.min_eq_left hm, List.getElem?_take, if_pos (by omega), at_map (by omega)] at hx
  rw [← Option.some.inj hx]; exact h
theorem nz_snoc {ns : List Int} {r : Int} (h : r ≠ 0) : NZ (ns ++ [r]) := fun x hx => by
  rw [List.length_append, show ns.length + [r].length - 1 = ns.length from rfl, List.getElem?_append_right (Nat.le_refl _), Nat.sub_self] at hx
  rw [← Option.some.inj hx]; exact h
def sp_law_trimmed (K : PySem.W.Frag) : Sp := fun vs H Q _ => ∃ (a : Addr) (ns : List Int), vs = [.ref a] ∧ SqL K H a (ns.map V.int) ∧ ns.length ≤ 40 ∧ ∀ H' p m, Same H H' → H p = none → IL H' p (ns.take m) → NZ (ns.take m) → Q (.ref p) H'
theorem ok_law_trimmed (T : Txt K mg) : FnOk P w K mg base CX0 1 T.law_trimmed.a T.law_trimmed.fd ["numbers"] (sp_law_trimmed K) := by
  refine T.law_trimmed.F.ok sc_law_trimmed (fun vs H Q E h => ?_) (fun cdv A outer s H vs Q E hr h => ?_)
  · obtain ⟨a, ns, rfl, _⟩ := h
    rfl
  · obtain ⟨a, ns, rfl, ha, hl, q⟩ := h
    refine ⟨_, (pss_cons (ps_set (i := 1) sc_law_trimmed.nd rfl (.inl rfl) (pe_callB call_len_seq (by rfl) T.m_len (by decide +kernel) (pa_cons (pv 0) pa_nil)))
      (pss_cons (ps_for PassesOwn.never rfl (pi_range1 (by rfl) T.m_range (pa_cons (pe_callB call_len_seq (by rfl) T.m_len (by decide +kernel) (pa_cons (pv 0) pa_nil)) pa_nil)) (pg_name (i := 2) sc_law_trimmed.nd rfl (.inl rfl))
        (pss_one (ps_if (PW.pt (pw_and (pt_cmpR op_gt (pv 1) pe_int (nomark _)) (pw_and1 (pt_cmpR op_eq (pe_ix ix_list (pv 0) (pe_op op_sub (pv 1) pe_int) (fun _ _ => rfl)) pe_int (nomark _)))))
          (pss_one (ps_set (i := 1) sc_law_trimmed.nd rfl (.inl rfl) (pe_op op_sub (pv 1) pe_int)))
          pss_nil)))
      (pss_one (ps_ret (pe_slice sl_list (pv 0) po_none (po_some (pv 1))))))), ?_⟩
    refine ⟨.ref a, rfl, a, _, rfl, .inl ha, ?_⟩
    refine ⟨.ref a, rfl, a, _, rfl, .inl ha, (ns.length : Nat), by rw [List.length_map], by omega, by omega, ?_⟩
    rw [Int.toNat_natCast, List.length_map]
    refine for_range (n := ns.length) (lo := 0) (fun i σ H' => H' = H ∧ ∃ (m : Nat) (v2 : Option V), σ = [some (.ref a), some (.int (m : Int)), v2] ∧ m ≤ ns.length ∧ (m + i = ns.length ∨ NZ (ns.take m))) ⟨rfl, ns.length, none, rfl, Nat.le_refl _, .inl rfl⟩ (fun i σ H' hi hP => ?_) (fun σ H' hP => ?_)
    · obtain ⟨rfl, m, v2, rfl, hm, hz⟩ := hP
      refine ⟨_, rfl, _, _, rfl, rfl, _, rfl, ?_⟩
      refine ite2 (fun h => ?_) (fun h => iteF ⟨rfl, m, _, rfl, hm, .inr ?_⟩)
      rotate_left
      · obtain rfl : m = 0 := by have : ¬ (0 : Int) < m := fun z => h (decide_eq_true z); omega
        exact nz_nil
      have m0 : 0 < m := by have := of_decide_eq_true h; omega
      refine ⟨.ref a, rfl, _, rfl, _, _, rfl, rfl, a, _, _, _, rfl, rfl, ha, at_map' (m := m - 1) (by omega) (by omega), rfl, _, rfl, ?_⟩
      refine ite2 (fun h0 => ?_) (fun h0 => ⟨rfl, m, _, rfl, hm, .inr (nz_take m0 hm fun z => h0 (by rw [z]; exact decide_eq_true rfl))⟩)
      have h1 : cf ns (m - 1) = 0 := by exact V.int.inj (of_decide_eq_true h0)
      refine ⟨_, rfl, _, _, rfl, rfl, rfl, m - 1, some (.int (0 + (i : Int))), ?_, by omega, ?_⟩
      rotate_left
      · rcases hz with z | z
        · exact .inl (by omega)
        · exfalso
          refine z (cf ns (m - 1)) ?_ h1
          rw [List.length_take, Nat.min_eq_left hm, List.getElem?_take, if_pos (by omega), at_map (by omega)]
      rw [show ((m - 1 : Nat) : Int) = (m : Int) - 1 by omega]; rfl
    · obtain ⟨rfl, m, v2, rfl, hm, hz⟩ := hP
      have hz : NZ (ns.take m) := by
        rcases hz with z | z
        · obtain rfl : m = 0 := by omega
          exact nz_nil
        · exact z
      refine ⟨.ref a, rfl, _, rfl, _, rfl, a, _, rfl, ha, fun p hp => ?_⟩
      exact q _ p m (same_upd hp) hp (by rw [cut_to hm]; exact upd_same) hz
theorem neg_le {i : Int} {b : Nat} (h : i.natAbs ≤ b) : (-i).natAbs ≤ b := by rw [Int.natAbs_neg]; exact h
def sp_law_number : Sp := fun vs H Q _ => ∃ (a : Addr) (ds : List Int) (k : Int), vs = [.ref a, .int k] ∧ IL H a ds ∧ 0 ≤ k ∧ ∀ H' r, Same H H' → r.natAbs ≤ 10 ^ 30 → r ≠ 0 → Q (.int r) H'
theorem ok_law_number (T : Txt K mg) : FnOk P w K mg base CX0 2 T.law_number.a T.law_number.fd ["draws", "k"] sp_law_number := by
  refine T.law_number.F.ok sc_law_number (fun vs H Q E h => ?_) (fun cdv A outer s H vs Q E hr h => ?_)
  · obtain ⟨a, ds, k, rfl, _⟩ := h
    rfl
  · obtain ⟨a, ds, k, rfl, ha, hk, q⟩ := h
    refine ⟨_, (pss_one (ps_ret (pe_ix ix_list (pe_lst (pa_cons pe_int (pa_cons (pe_un un_neg pe_int) (pa_cons pe_int (pa_cons (pe_op op_add pe_int (pe_call (ok_law_mix T) (hr.mono (by decide)) (by rfl) T.law_mix.g T.law_mix.F.kp T.law_mix.b .nil pass0 (pa_cons (pv 0) (pa_cons (pe_op op_add (pv 1) pe_int) (pa_cons pe_int pa_nil))))) (pa_cons (pe_op op_add pe_int (pe_call (ok_law_mix T) (hr.mono (by decide)) (by rfl) T.law_mix.g T.law_mix.F.kp T.law_mix.b .nil pass0 (pa_cons (pv 0) (pa_cons (pe_op op_add (pv 1) pe_int) (pa_cons pe_int pa_nil))))) (pa_cons (pe_un un_neg pe_int) pa_nil))))))) (pe_call (ok_law_mix T) (hr.mono (by decide)) (by rfl) T.law_mix.g T.law_mix.F.kp T.law_mix.b .nil pass0 (pa_cons (pv 0) (pa_cons (pv 1) (pa_cons pe_int pa_nil)))) (fun _ _ => rfl)))), ?_⟩
    refine ⟨_, rfl, .ref a, rfl, _, rfl, _, _, rfl, rfl, a, ds, _, _, rfl, ha, by omega, by decide, fun r2 p2 u2 => ?_⟩
    refine ⟨_, _, rfl, rfl, ?_⟩
    refine ⟨.ref a, rfl, _, rfl, _, _, rfl, rfl, a, ds, _, _, rfl, ha, by omega, by decide, fun r3 p3 u3 => ?_⟩
    refine ⟨_, _, rfl, rfl, ?_⟩
    refine ⟨_, rfl, by show 6 ≤ sizeLine; decide, fun l nl => ?_⟩
    have s1 := same_upd nl (o := .lst [.int 1, .int (-1), .int 2, .int (1 + r2), .int (1 + r3), .int (-1000000)])
    refine ⟨.ref a, rfl, _, rfl, a, ds, _, _, rfl, ha.same s1, hk, by decide, fun r4 p4 u4 => ?_⟩
    have hall : ∀ x ∈ [1, -1, 2, 1 + r2, 1 + r3, -1000000], x.natAbs ≤ 10 ^ 30 ∧ x ≠ 0 := fun x hx => by
      simp only [List.mem_cons, List.not_mem_nil, or_false] at hx
      rcases hx with rfl | rfl | rfl | rfl | rfl | rfl <;> omega
    have hlt : r4.toNat < [1, -1, 2, 1 + r2, 1 + r3, -1000000].length := by show _ < 6; omega
    refine ⟨l, _, _, _, rfl, rfl, .of upd_same, at_map' (ns := [1, -1, 2, 1 + r2, 1 + r3, -1000000]) (m := r4.toNat) (by omega) hlt, ?_⟩
    exact q _ _ s1 (hall _ (mem_at (at_map hlt))).1 (hall _ (mem_at (at_map hlt))).2
end
-- F
section
variable {P : Program} {w : World} {K : PySem.W.Frag} {mg : Str → Option Value} {base : Heap}
theorem rep0 (n : Nat) : (List.replicate n [V.int 0]).flatten = (List.replicate n (0 : Int)).map V.int := by rw [List.flatten_replicate_singleton, List.map_replicate]
theorem ix_ok {n j : Nat} {i : Int} (e : i = (j : Int)) (h : j < n) : ixN n i = some j := by
  unfold ixN
  rw [if_pos (by omega), if_pos (by omega), e]; rfl
theorem mem_set {α : Type} {xs : List α} {i : Nat} {y x : α} (h : x ∈ xs.set i y) : x ∈ xs ∨ x = y := List.mem_or_eq_of_mem_set h
theorem set_map {xs : List Int} {i : Nat} {r : Int} : (xs.map V.int).set i (V.int r) = (xs.set i r).map V.int := by rw [List.map_set]
def OutE (H : Hp) (Q : VK) : Prop := ∀ H' p ns, Same H H' → H p = none → IL H' p ns → VE ns → NZ ns → Q (.ref p) H'
/-- orders, one after the other -/
def OA (ns : List Int) : Prop := ns.Pairwise (· < ·) ∧ ∀ x ∈ ns, 0 ≤ x ∧ x < 4
def OutO (H : Hp) (Q : VK) : Prop := ∀ H' p ns, Same H H' → H p = none → IL H' p ns → VE ns → OA ns → Q (.ref p) H'
def sp_law_element : Sp := fun vs H Q _ => ∃ (a : Addr) (ds : List Int) (k sh : Int), vs = [.ref a, .int k, .int sh] ∧ IL H a ds ∧ 0 ≤ k ∧ OutE H Q
theorem ok_law_element (T : Txt K mg) : FnOk P w K mg base CX0 3 T.law_element.a T.law_element.fd ["draws", "k", "shares"] sp_law_element := by
  refine T.law_element.F.ok sc_law_element (fun vs H Q E h => ?_) (fun cdv A outer s H vs Q E hr h => ?_)
  · obtain ⟨a, ds, k, sh, rfl, _⟩ := h
    rfl
  · obtain ⟨a, ds, k, sh, rfl, ha, hk, q⟩ := h
    refine ⟨_, (pss_cons (ps_if (pt_cmpR op_lt (pe_call (ok_law_mix T) (hr.mono (by decide)) (by rfl) T.law_mix.g T.law_mix.F.kp T.law_mix.b .nil pass0 (pa_cons (pv 0) (pa_cons (pv 1) (pa_cons pe_int pa_nil)))) (pv 2) (nomark _))
        (pss_one (ps_ret (pe_lst pa_nil)))
        pss_nil)
      (pss_cons (ps_set (i := 3) sc_law_element.nd rfl (.inl rfl) (pe_op op_rep (pe_lst (pa_cons pe_int pa_nil)) (pe_call (ok_law_mix T) (hr.mono (by decide)) (by rfl) T.law_mix.g T.law_mix.F.kp T.law_mix.b .nil pass0 (pa_cons (pv 0) (pa_cons (pe_op op_add (pv 1) pe_int) (pa_cons (pe_ix ix_list (pe_lst (pa_cons pe_int (pa_cons pe_int pa_nil))) (pe_call (ok_law_mix T) (hr.mono (by decide)) (by rfl) T.law_mix.g T.law_mix.F.kp T.law_mix.b .nil pass0 (pa_cons (pv 0) (pa_cons (pe_op op_add (pv 1) pe_int) (pa_cons pe_int pa_nil)))) (fun _ _ => rfl)) pa_nil))))))
      (pss_cons (ps_for PassesOwn.never rfl (pi_range1 (by rfl) T.m_range (pa_cons (pe_callB call_len_seq (by rfl) T.m_len (by decide +kernel) (pa_cons (pv 3) pa_nil)) pa_nil)) (pg_name (i := 4) sc_law_element.nd rfl (.inl rfl))
        (pss_one (ps_if (pt_cmpR op_eq (pe_call (ok_law_mix T) (hr.mono (by decide)) (by rfl) T.law_mix.g T.law_mix.F.kp T.law_mix.b .nil pass0 (pa_cons (pv 0) (pa_cons (pe_op op_add (pe_op op_add (pv 1) pe_int) (pe_op op_mul pe_int (pv 4))) (pa_cons pe_int pa_nil)))) pe_int (nomark _))
          (pss_one (ps_asg (pe_call (ok_law_number T) (hr.mono (by decide)) (by rfl) T.law_number.g T.law_number.F.kp T.law_number.b .nil pass0 (pa_cons (pv 0) (pa_cons (pe_op op_add (pe_op op_add (pv 1) pe_int) (pe_op op_mul pe_int (pv 4))) pa_nil))) (pg_sub (pv 3) (pv 4) set_list)))
          pss_nil)))
      (pss_one (ps_ret (pe_op op_cat (pv 3) (pe_lst (pa_cons (pe_call (ok_law_number T) (hr.mono (by decide)) (by rfl) T.law_number.g T.law_number.F.kp T.law_number.b .nil pass0 (pa_cons (pv 0) (pa_cons (pe_op op_add (pv 1) pe_int) pa_nil))) pa_nil)))))))), ?_⟩
    refine ⟨.ref a, rfl, _, rfl, a, ds, _, _, rfl, ha, hk, by decide, fun r0 p0 u0 => ?_⟩
    refine ⟨_, rfl, _, _, rfl, rfl, _, rfl, ?_⟩
    refine ite2 (fun _ => ?_) (fun _ => ?_)
    · exact ⟨by show 0 ≤ sizeLine; decide, fun p hp => q _ p [] (same_upd hp) hp upd_same ⟨by show 0 ≤ 13; decide, fun _ z => by cases z⟩ nz_nil⟩
    refine ⟨by show 1 ≤ sizeLine; decide, fun l0 n0 => ?_⟩
    have s0 := same_upd n0 (o := .lst [.int 0])
    refine ⟨.ref a, rfl, _, rfl, _, _, rfl, rfl, by show 2 ≤ sizeLine; decide, fun l1 n1 => ?_⟩
    have s1 := same_upd n1 (o := .lst [.int 2, .int 4])
    refine ⟨.ref a, rfl, _, rfl, _, _, rfl, rfl, a, ds, _, _, rfl, ha.same (s0.trans s1), by omega, by decide, fun r2 p2 u2 => ?_⟩
    have hlt : r2.toNat < [(2 : Int), 4].length := by show _ < 2; omega
    refine ⟨l1, _, _, _, rfl, rfl, .of upd_same, at_map' (ns := [2, 4]) (m := r2.toNat) (by omega) hlt, ?_⟩
    have hm : ∀ x ∈ [(2 : Int), 4], 0 < x ∧ x ≤ 13 := by decide
    obtain ⟨m0, m1⟩ := hm _ (mem_at (at_map hlt))
    refine ⟨a, ds, _, _, rfl, ha.same (s0.trans s1), by omega, m0, fun r3 p3 u3 => ?_⟩
    obtain ⟨n, en, hn⟩ : ∃ n : Nat, r3 = (n : Int) ∧ n ≤ 12 := ⟨r3.toNat, by omega, by omega⟩
    subst en
    refine ⟨l0, _, _, rfl, rfl, s1 _ _ upd_same, by omega, by omega, by show 1 * _ ≤ _; rw [Int.toNat_natCast]; exact small (by omega), fun D nD => ?_⟩
    rw [Int.toNat_natCast, rep0]
    have sD := s0.trans (s1.trans (same_upd nD (o := .lst ((List.replicate n (0 : Int)).map V.int))))
    have nD0 : H D = none := (s0.trans s1).free nD
    refine ⟨.ref D, rfl, D, _, rfl, .inl (.of upd_same), (n : Nat), by rw [List.length_map, List.length_replicate], by omega, by omega, ?_⟩
    rw [Int.toNat_natCast]
    refine for_range (n := n) (lo := 0) (fun i σ H' => Same H H' ∧ ∃ (xs : List Int) (v4 : Option V), σ = [some (.ref a), some (.int k), some (.int sh), some (.ref D), v4] ∧ IL H' D xs ∧ xs.length = n ∧ ∀ x ∈ xs, x.natAbs ≤ 10 ^ 30) ⟨sD, _, none, rfl, upd_same, List.length_replicate, fun x hx => by rw [(List.mem_replicate.mp hx).2]; decide⟩ (fun i σ H' hi hP => ?_) (fun σ H' hP => ?_)
    · obtain ⟨sm, xs, v4, rfl, hD, hl, hb⟩ := hP
      refine ⟨.ref a, rfl, _, rfl, _, _, rfl, rfl, _, rfl, _, _, rfl, rfl, .inl ⟨by decide, by decide⟩, _, _, rfl, rfl, a, ds, _, _, rfl, ha.same sm, by omega, by decide, fun r4 p4 u4 => ⟨rfl, _, rfl, ?_⟩⟩
      refine ite2 (fun _ => ?_) (fun _ => ⟨sm, xs, _, rfl, hD, hl, hb⟩)
      refine ⟨.ref a, rfl, _, rfl, _, _, rfl, rfl, _, rfl, _, _, rfl, rfl, .inl ⟨by decide, by decide⟩, _, _, rfl, rfl, a, ds, _, rfl, ha.same sm, by omega, fun G r5 s5 u5 _ => ?_⟩
      refine ⟨.ref D, rfl, _, rfl, D, _, _, i, rfl, rfl, s5 _ _ hD, ix_ok (by omega) (by rw [List.length_map]; omega), ?_⟩
      rw [set_map]
      refine ⟨same_over (sm.trans s5) nD0, _, _, rfl, upd_same, by rw [List.length_set]; exact hl, fun x hx => ?_⟩
      rcases mem_set hx with z | z
      · exact hb x z
      · rw [z]; exact u5
    · obtain ⟨sm, xs, v4, rfl, hD, hl, hb⟩ := hP
      refine ⟨.ref D, rfl, .ref a, rfl, _, rfl, _, _, rfl, rfl, a, ds, _, rfl, ha.same sm, by omega, fun G r6 s6 u6 v6 => ?_⟩
      refine ⟨by show 1 ≤ sizeLine; decide, fun l2 n2 => ?_⟩
      have s2 := same_upd n2 (o := .lst [.int r6])
      refine ⟨D, l2, _, _, rfl, rfl, s2 _ _ (s6 _ _ hD), upd_same, by rw [List.length_map]; exact small (by show _ + 1 ≤ _; omega), fun p np => ?_⟩
      have sp := same_upd np (o := .lst (xs.map V.int ++ [.int r6]))
      refine q _ p (xs ++ [r6]) (sm.trans (s6.trans (s2.trans sp))) ((sm.trans (s6.trans s2)).free np) (by unfold IL; rw [← app_ints]; exact upd_same) ⟨by rw [List.length_append]; show _ + 1 ≤ _; omega, fun x hx => ?_⟩ (nz_snoc v6)
      rcases List.mem_append.mp hx with z | z
      · exact hb x z
      · rw [List.mem_singleton.mp z]; exact u6
def sp_law_orders : Sp := fun vs H Q _ => ∃ (a : Addr) (ds : List Int) (k sh : Int), vs = [.ref a, .int k, .int sh] ∧ IL H a ds ∧ 0 ≤ k ∧ OutO H Q
theorem ok_law_orders (T : Txt K mg) : FnOk P w K mg base CX0 2 T.law_orders.a T.law_orders.fd ["draws", "k", "shares"] sp_law_orders := by
  refine T.law_orders.F.ok sc_law_orders (fun vs H Q E h => ?_) (fun cdv A outer s H vs Q E hr h => ?_)
  · obtain ⟨a, ds, k, sh, rfl, _⟩ := h
    rfl
  · obtain ⟨a, ds, k, sh, rfl, ha, hk, q⟩ := h
    refine ⟨_, (pss_cons (ps_if (pt_cmpR op_lt (pe_call (ok_law_mix T) (hr.mono (by decide)) (by rfl) T.law_mix.g T.law_mix.F.kp T.law_mix.b .nil pass0 (pa_cons (pv 0) (pa_cons (pv 1) (pa_cons pe_int pa_nil)))) (pv 2) (nomark _))
        (pss_one (ps_ret (pe_lst pa_nil)))
        pss_nil)
      (pss_cons (ps_set (i := 3) sc_law_orders.nd rfl (.inr rfl) (pe_op op_add pe_int (pe_call (ok_law_mix T) (hr.mono (by decide)) (by rfl) T.law_mix.g T.law_mix.F.kp T.law_mix.b .nil pass0 (pa_cons (pv 0) (pa_cons (pe_op op_add (pv 1) pe_int) (pa_cons pe_int pa_nil))))))
      (pss_one (ps_ret (pe_lc (own := [("order", 4)]) rfl sc_law_orders.nd (pi_range1 (by rfl) T.m_range (pa_cons pe_int pa_nil)) (blkOk_by (N := ["draws", "k", "shares", "chosen", "order"]) (sc := defScope s_law_orders) (by decide +kernel)) (fun _ _ _ _ _ => (pg_name (i := 4) sc_law_orders.nd rfl (.inl rfl))) (fun _ _ _ _ _ => (pts_one (pt_cmpR op_eq (pe_op op_and (pe_op op_shr (pv 3) (pv 4)) pe_int) pe_int (nomark _)))) (fun _ _ _ _ _ => (pv 4))))))), ?_⟩
    refine ⟨.ref a, rfl, _, rfl, a, ds, _, _, rfl, ha, hk, by decide, fun r0 p0 u0 => ?_⟩
    refine ⟨_, rfl, _, _, rfl, rfl, _, rfl, ?_⟩
    refine ite2 (fun _ => ?_) (fun _ => ?_)
    · exact ⟨by show 0 ≤ sizeLine; decide, fun p hp => q _ p [] (same_upd hp) hp upd_same ⟨by show 0 ≤ 13; decide, fun _ z => by cases z⟩ ⟨.nil, fun _ z => by cases z⟩⟩
    refine ⟨.ref a, rfl, _, rfl, _, _, rfl, rfl, a, ds, _, _, rfl, ha, by omega, by decide, fun r1 p1 u1 => ?_⟩
    refine ⟨_, _, rfl, rfl, ?_⟩
    · refine ⟨4, rfl, by decide, by decide, fun D nD => ?_⟩
      refine lc_inv (walk_range (lo := 0) (n := 4)) (fun i G ys => ∃ ns : List Int, ys = ns.map V.int ∧ ns.length ≤ i ∧ (∀ x ∈ ns, 0 ≤ x ∧ x < 4) ∧ ns.Pairwise (· < ·) ∧ ∀ x ∈ ns, x < i) nD (fun _ _ => trivial) (by decide) ⟨[], rfl, Nat.le_refl _, (fun _ z => by cases z), .nil, fun _ z => by cases z⟩ (fun i x G Hx ys hi sm hD hR y Qt Qf qt qf => ?_) (fun G ys sm hD hR => ?_)
      · obtain ⟨rfl, rfl⟩ := y
        obtain ⟨ns, rfl, hl, hb, hp, hi2⟩ := hR
        refine ⟨rfl, _, rfl, _, rfl, _, _, rfl, rfl, by omega, _, _, rfl, rfl, rfl, _, rfl, ?_⟩
        refine ite2 (fun _ => ?_) (fun _ => ?_)
        · refine ⟨_, rfl, qt _ _ (Same.refl _) ⟨ns ++ [0 + (i : Int)], app_ints, by rw [List.length_append]; exact Nat.succ_le_succ hl, fun x hx => ?_, List.pairwise_append.mpr ⟨hp, List.pairwise_singleton _ _, fun x hx y hy => by rw [List.mem_singleton.mp hy]; have := hi2 x hx; omega⟩, fun x hx => ?_⟩⟩
          · rcases List.mem_append.mp hx with z | z
            · exact hb x z
            · rw [List.mem_singleton.mp z]; omega
          · rcases List.mem_append.mp hx with z | z
            · have := hi2 x z; omega
            · rw [List.mem_singleton.mp z]; omega
        · exact qf _ (Same.refl _) ⟨ns, rfl, by omega, hb, hp, fun x hx => by have := hi2 x hx; omega⟩
      · obtain ⟨ns, rfl, hl, hb, hp, hi2⟩ := hR
        exact q _ D ns sm nD hD ⟨by omega, fun x hx => by have := hb x hx; omega⟩ ⟨hp, hb⟩
end
-- G
/-- a statement by what is asked of one before it -/
theorem ps_via {X : Cx} {st : Stmt} {t t' : TS} (h : PS X st t) (f : ∀ D σ H, t' D σ H → t D σ H) : PS X st t' := ⟨fun pins s σ H D I z => h.run pins s σ H D I (f D σ H z)⟩
/-- a row under way: its elements new, none of them at D -/
def RN (D : Addr) (H0 H : Hp) (as : List Addr) (es : List (List Int)) : Prop := A2 (fun a ns => (a ≠ D ∧ H0 a = none) ∧ IL H a ns) as es
/-- a row, its elements new -/
def RowF (H0 H : Hp) (b : Addr) (els : List (List Int)) : Prop := ∃ as : List Addr, H b = some (.lst (as.map V.ref)) ∧ A2 (fun e ns => H0 e = none ∧ IL H e ns) as els
theorem RN.up {D : Addr} {H0 H H' : Hp} {as : List Addr} {es : List (List Int)} (h : RN D H0 H as es) (s : SameX D H H') : RN D H0 H' as es := h.mono fun _ _ z => ⟨z.1, s _ _ z.1.1 z.2⟩
theorem RN.row {D : Addr} {H0 H : Hp} {as : List Addr} {es : List (List Int)} (h : RN D H0 H as es) (hD : H D = some (.lst (as.map V.ref))) : RowF H0 H D es := ⟨as, hD, h.mono fun _ _ z => ⟨z.1.2, z.2⟩⟩
theorem RN.snoc {D y : Addr} {H0 H H4 : Hp} {as : List Addr} {es : List (List Int)} {e : List Int} {o : HO} (h : RN D H0 H as es) (s : Same H H4) (n : y ≠ D) (n0 : H0 y = none) (hy : IL H4 y e) : RN D H0 (upd H4 D o) (as ++ [y]) (es ++ [e]) :=
  A2.snoc ⟨⟨n, n0⟩, by unfold IL; rw [upd_ne n]; exact hy⟩ (h.up ((sx s).trans SameX.put))
theorem ve_snoc {p : List Int → Prop} {es : List (List Int)} {e : List Int} (h : ∀ x ∈ es, p x) (n : p e) : ∀ x ∈ es ++ [e], p x := fun x hx => by
  rcases List.mem_append.mp hx with z | z
  · exact h x z
  · rw [List.mem_singleton.mp z]; exact n
section
variable {P : Program} {w : World} {K : PySem.W.Frag} {mg : Str → Option Value} {base : Heap}
theorem RowL.same {H H' : Hp} {b : Addr} {els : List (List Int)} (h : RowL H b els) (s : Same H H') : RowL H' b els := h.lk (K46.lk s)
def OutR (many : Nat) (H : Hp) (Q : VK) : Prop := ∀ H' p els, Same H H' → H p = none → RowF H H' p els → VR many els → (∀ e ∈ els, NZ e) → Q (.ref p) H'
/-- behind the test: the numbers go with the row -/
def Fit (sc sh : Int) (els : List (List Int)) : Prop := 0 ≤ sh ∧ sh ≤ 1 ∧ (sc.natAbs ≤ 2 ∧ sc ≠ 0) ∧ ∀ e ∈ els, (e.length : Int) + sh ≤ 13 ∧ ∀ n ∈ e, (sc * n).natAbs ≤ 10 ^ 30
/-! data -/
def dI (ns : List Int) : PyData := .list (ns.map PyData.int)
theorem ints_lay : ∀ ns : List Int, PyData.canLayAll0 (ns.map PyData.int) = true ∧ PyData.depthAll (ns.map PyData.int) = 0
  | [] => ⟨rfl, rfl⟩
  | n :: r => by
    obtain ⟨a, b⟩ := ints_lay r
    refine ⟨?_, ?_⟩
    · show (PyData.canLay0 (.int n) && PyData.canLayAll0 (r.map PyData.int)) = true
      rw [a]; rfl
    · show max (PyData.depth (.int n)) (PyData.depthAll (r.map PyData.int)) = 0
      rw [b]; rfl
theorem lay_dI (ns : List Int) : (dI ns).canLay0 = true := (ints_lay ns).1
theorem dep_dI (ns : List Int) : (dI ns).depth = 1 := by
  show PyData.depthAll (ns.map PyData.int) + 1 = 1
  rw [(ints_lay ns).2]
theorem shaped_dI (ns : List Int) : SeqAt.shaped (dI ns) = true := by
  unfold SeqAt.shaped
  rw [lay_dI, dep_dI]; rfl
theorem eqv_nil (ns : List Int) : PyData.eqv (dI ns) (.list []) = decide (ns = []) := by
  cases ns <;> simp [dI, PyData.eqv, PyData.eqvAll]
theorem dp_ints {K : PySem.W.Frag} {H : Hp} : ∀ ns : List Int, DpAll K H (ns.map V.int) (ns.map PyData.int)
  | [] => .nil
  | n :: r => .cons (.int n) (dp_ints r)
theorem dpI {K : PySem.W.Frag} {H : Hp} {a : Addr} {ns : List Int} (h : SqL K H a (ns.map V.int)) : Dp K H (.ref a) (dI ns) := .lst h (dp_ints ns)
def T1 (K : PySem.W.Frag) : TS := fun D σ H => ∃ (a b : Addr) (k sc sh : Int) (els : List (List Int)), σ = [some (.ref a), some (.int k), some (.ref b), some (.int sc), some (.int sh), none, none, none, none, none, none] ∧ RowL H b els ∧ (∀ e ∈ els, VE e) ∧ els.length ≤ 16 ∧ 0 < els.length ∧ 0 ≤ sh ∧ sh ≤ 1 ∧ (sc.natAbs ≤ 2 ∧ sc ≠ 0) ∧
  ∀ H' sc' sh', Same H H' → Fit sc' sh' els → D.nx [some (.ref a), some (.int k), some (.ref b), some (.int sc'), some (.int sh'), none, none, none, none, none, none] H'
theorem row_ref {as : List Addr} {j : Nat} {x : V} (h : (as.map V.ref)[j]? = some x) : ∃ r, as[j]? = some r ∧ x = .ref r := by
  rw [List.getElem?_map] at h
  cases e : as[j]? with
  | none => rw [e] at h; cases h
  | some r => rw [e] at h; exact ⟨r, rfl, (Option.some.inj h).symm⟩
theorem row_lists {H : Hp} {as : List Addr} {els : List (List Int)} (h : A2 (IL H) as els) : LM.Lists H (as.map V.ref) (els.map fun e => e.map V.int) := by
  refine ⟨by rw [List.length_map, List.length_map, h.len], fun j zs z => ?_⟩
  rw [List.getElem?_map] at z
  cases e : els[j]? with
  | none => rw [e] at z; cases z
  | some ns =>
    rw [e] at z
    cases z
    obtain ⟨c, hc, hz⟩ := h.get' e
    exact ⟨c, by rw [List.getElem?_map, hc]; rfl, hz⟩
theorem flat_len {els : List (List Int)} {c : Nat} (h : ∀ e ∈ els, e.length ≤ c) : (els.map fun e => e.map V.int).flatten.length ≤ els.length * c := by
  induction els with
  | nil => exact Nat.zero_le _
  | cons e r ih =>
    rw [List.map_cons, List.flatten_cons, List.length_append, List.length_map, List.length_cons, Nat.succ_mul]
    have := ih fun x hx => h x (List.mem_cons_of_mem _ hx)
    have := h e List.mem_cons_self
    omega
theorem flat_map (els : List (List Int)) : (els.map fun e => e.map V.int).flatten = els.flatten.map V.int := by rw [List.map_flatten]
theorem small_flat {els : List (List Int)} (h : ∀ e ∈ els, VE e) (n : els.length ≤ 16) : els.flatten.length ≤ 208 := by
  have := flat_len (c := 13) fun e he => (h e he).1
  rw [flat_map, List.length_map] at this
  omega
theorem repB {b s : Nat} (h : b ≤ 1) : ∃ m, m ≤ s ∧ (b = 0 → m = 0) ∧ (List.replicate b ((List.replicate s (0 : Int)).map V.int)).flatten = (List.replicate m (0 : Int)).map V.int := by
  rcases Nat.eq_zero_or_pos b with rfl | z
  · exact ⟨0, Nat.zero_le _, fun _ => rfl, rfl⟩
  · obtain rfl : b = 1 := by omega
    exact ⟨s, Nat.le_refl _, (fun z => by cases z), by show (_ ++ []) = _; rw [List.append_nil]⟩
theorem cut_from1 {ns : List Int} : cutV (ns.map V.int) (some 1) none = (ns.drop 1).map V.int := cut_from
theorem ve_drop {e : List Int} {x : Int} {m : Nat} (h : VE e) (hx : x.natAbs ≤ 10 ^ 30) : VE (([x] ++ e.drop 1).take m) := by
  refine ⟨?_, fun n hn => ?_⟩
  · have := h.1
    rw [List.length_take, List.length_append, List.length_drop]
    have : [x].length = 1 := rfl
    omega
  · rcases List.mem_append.mp (List.mem_of_mem_take hn) with z | z
    · rw [List.mem_singleton.mp z]; exact hx
    · exact h.2 n (List.mem_of_mem_drop z)
theorem ve_scale {e : List Int} {sc sh : Int} {m : Nat} {els : List (List Int)} (f : Fit sc sh els) (he : e ∈ els) (hm : m ≤ sh.toNat) : VE (List.replicate m 0 ++ e.map fun n => sc * n) := by
  obtain ⟨f0, f1, f2, f3⟩ := f
  obtain ⟨a, b⟩ := f3 e he
  refine ⟨?_, fun n hn => ?_⟩
  · rw [List.length_append, List.length_replicate, List.length_map]
    omega
  · rcases List.mem_append.mp hn with z | z
    · rw [(List.mem_replicate.mp z).2]; decide
    · obtain ⟨x, hx, rfl⟩ := List.mem_map.mp z
      exact b x hx
theorem nz_scale {e : List Int} {sc : Int} {m : Nat} (h : NZ e) (hs : sc ≠ 0) (hm : e = [] → m = 0) : NZ (List.replicate m 0 ++ e.map fun n => sc * n) := by
  rcases Nat.eq_zero_or_pos e.length with z | z
  · have z := List.length_eq_zero_iff.mp z
    rw [hm z, z]; exact nz_nil
  · intro x hx
    rw [List.length_append, List.length_replicate, List.length_map, List.getElem?_append_right (by rw [List.length_replicate]; omega), List.length_replicate, show m + e.length - 1 - m = e.length - 1 by omega, List.getElem?_map, at_map (by omega)] at hx
    rw [← Option.some.inj hx]
    exact Int.mul_ne_zero hs (h _ (at_map (by omega)))
theorem mem_set2 {p : List Int → Prop} {es : List (List Int)} {j : Nat} {y : List Int} (h : ∀ e ∈ es, p e) (hy : p y) : ∀ e ∈ es.set j y, p e := fun e he => by
  rcases mem_set he with z | z
  · exact h e z
  · rw [z]; exact hy
def sp_law_likely : Sp := fun vs H Q _ => ∃ (a b : Addr) (ds : List Int) (k : Int) (els : List (List Int)) (many : Nat), vs = [.ref a, .int k, .ref b] ∧ IL H a ds ∧ 0 ≤ k ∧ RowL H b els ∧ VR many els ∧ (∀ e ∈ els, NZ e) ∧ 0 < many ∧ many ≤ 16 ∧ OutR many H Q
theorem ok_law_likely (T : Txt K mg) : FnOk P w K mg base CX0 3 T.law_likely.a T.law_likely.fd ["draws", "k", "row"] sp_law_likely := by
  refine T.law_likely.F.ok sc_law_likely (fun vs H Q E h => ?_) (fun cdv A outer s H vs Q E hr h => ?_)
  · obtain ⟨a, b, ds, k, els, many, rfl, _⟩ := h
    rfl
  · obtain ⟨a, b, ds, k, els, many, rfl, ha, hk, hb, vr, vz, hm0, hm, q⟩ := h
    refine ⟨_, (pss_cons (ps_set (i := 3) sc_law_likely.nd rfl (.inr rfl) (pe_ix ix_list (pe_lst (pa_cons pe_int (pa_cons (pe_un un_neg pe_int) (pa_cons pe_int pa_nil)))) (pe_call (ok_law_mix T) (hr.mono (by decide)) (by rfl) T.law_mix.g T.law_mix.F.kp T.law_mix.b .nil pass0 (pa_cons (pv 0) (pa_cons (pv 1) (pa_cons pe_int pa_nil)))) (fun _ _ => rfl)))
      (pss_cons (ps_set (i := 4) sc_law_likely.nd rfl (.inr rfl) (pe_op op_fdiv (pe_call (ok_law_mix T) (hr.mono (by decide)) (by rfl) T.law_mix.g T.law_mix.F.kp T.law_mix.b .nil pass0 (pa_cons (pv 0) (pa_cons (pe_op op_add (pv 1) pe_int) (pa_cons pe_int pa_nil)))) pe_int))
      (pss_cons (ps_via (t' := T1 K) (ps_if (PW.pt (pw_or (pt_cmpR op_gt (pe_op op_add (pe_callB (cr_max rfl) (by rfl) T.m_max (by decide +kernel) (pa_cons (pe_op op_cat (pe_lst (pa_cons pe_int pa_nil)) (pe_lc (own := [("element", 8)]) rfl sc_law_likely.nd (pi_list (pv 2)) (blkOk_by (N := ["draws", "k", "row", "scale", "shift", "out", "turn", "j", "element", "number", "n"]) (sc := defScope s_law_likely) (by decide +kernel)) (fun _ _ _ _ _ => (pg_name (i := 8) sc_law_likely.nd rfl (.inl rfl))) (fun _ _ _ _ _ => pts_nil) (fun _ _ _ _ _ => (pe_callB (id := "len") (r := rLenS K) call_lenC (by rfl) T.m_len (by decide +kernel) (pa_cons (pv 8) pa_nil))))) pa_nil)) (pv 4)) pe_int (nomark _)) (pw_or1 (pt_cmpR op_gt (pe_callB (cr_max rfl) (by rfl) T.m_max (by decide +kernel) (pa_cons (pe_op op_cat (pe_lst (pa_cons pe_int pa_nil)) (pe_lc (own := [("n", 10)]) rfl sc_law_likely.nd (pi_list (pe_callB (LM.cr_sumL rfl) (by rfl) T.m_sum (by decide +kernel) (pa_cons (pv 2) (pa_cons (pe_lst pa_nil) pa_nil)))) (blkOk_by (N := ["draws", "k", "row", "scale", "shift", "out", "turn", "j", "element", "number", "n"]) (sc := defScope s_law_likely) (by decide +kernel)) (fun _ _ _ _ _ => (pg_name (i := 10) sc_law_likely.nd rfl (.inl rfl))) (fun _ _ _ _ _ => pts_nil) (fun _ _ _ _ _ => (pe_callB call_abs (by rfl) T.m_abs (by decide +kernel) (pa_cons (pv 10) pa_nil))))) pa_nil)) pe_int (nomark _)))))
        (pss_cons (ps_set (i := 3) sc_law_likely.nd rfl (.inr rfl) pe_int)
        (pss_one (ps_set (i := 4) sc_law_likely.nd rfl (.inr rfl) pe_int)))
        pss_nil) ?t1)
      (pss_cons (ps_setLc (i := 5) (own := [("element", 8)]) rfl sc_law_likely.nd rfl rfl (sw_true rfl rfl rfl (by decide +kernel)) (pi_list (pv 2)) (blkOk_by (N := ["draws", "k", "row", "scale", "shift", "out", "turn", "j", "element", "number", "n"]) (sc := defScope s_law_likely) (by decide +kernel)) (fun _ _ _ _ _ => (pg_name (i := 8) sc_law_likely.nd rfl (.inl rfl))) (fun _ _ _ _ _ => pts_nil) (fun _ _ _ _ _ => (pe_op op_cat (pe_op op_rep (pe_op op_rep (pe_lst (pa_cons pe_int pa_nil)) (pv 4)) (pe_callTy call_int1 (by rfl) T.m_int (by decide +kernel) (pa_cons (pe_cmpR (r := rNeD K) (op_neD hr.units) (pv 8) (pe_lst pa_nil) (nomark _)) pa_nil))) (pe_lc (wi := iList K _) (own := [("number", 9)]) rfl sc_law_likely.nd (pi_list (pv 8)) (blkOk_by (N := ["draws", "k", "row", "scale", "shift", "out", "turn", "j", "element", "number", "n"]) (sc := { kind := .function, names := [(".0", .local), ("element", .local), ("int", .globalImplicit), ("scale", .cell), ("shift", .cell)], isGenerator := false, isCoroutine := false, more := [] }) (by decide +kernel)) (fun _ _ _ _ _ => (pg_name (i := 9) sc_law_likely.nd rfl (.inl rfl))) (fun _ _ _ _ _ => pts_nil) (fun _ _ _ _ _ => (pe_op op_mulW (pv 3) (pv 9)))))))
      (pss_cons (ps_for PassesOwn.never rfl (pi_range1 (by rfl) T.m_range (pa_cons (pe_op op_add pe_int (pe_call (ok_law_mix T) (hr.mono (by decide)) (by rfl) T.law_mix.g T.law_mix.F.kp T.law_mix.b .nil pass0 (pa_cons (pv 0) (pa_cons (pe_op op_add (pv 1) pe_int) (pa_cons pe_int pa_nil))))) pa_nil)) (pg_name (i := 6) sc_law_likely.nd rfl (.inl rfl))
        (pss_cons (ps_set (i := 7) sc_law_likely.nd rfl (.inl rfl) (pe_call (ok_law_mix T) (hr.mono (by decide)) (by rfl) T.law_mix.g T.law_mix.F.kp T.law_mix.b .nil pass0 (pa_cons (pv 0) (pa_cons (pe_op op_add (pe_op op_add (pv 1) pe_int) (pe_op op_mulW pe_int (pv 6))) (pa_cons (pe_callB call_len_seq (by rfl) T.m_len (by decide +kernel) (pa_cons (pv 2) pa_nil)) pa_nil)))))
        (pss_one (ps_asg (pe_call (ok_law_trimmed T) (hr.mono (by decide)) (by rfl) T.law_trimmed.g T.law_trimmed.F.kp T.law_trimmed.b .nil pass0 (pa_cons (pe_op op_cat (pe_lst (pa_cons (pe_op op_sub (pe_call (ok_law_mix T) (hr.mono (by decide)) (by rfl) T.law_mix.g T.law_mix.F.kp T.law_mix.b .nil pass0 (pa_cons (pv 0) (pa_cons (pe_op op_add (pe_op op_add (pv 1) pe_int) (pe_op op_mulW pe_int (pv 6))) (pa_cons pe_int pa_nil)))) pe_int) pa_nil)) (pe_slice sl_list (pe_ix ix_list (pv 5) (pv 7) (fun _ _ => rfl)) (po_some pe_int) po_none)) pa_nil)) (pg_sub (pv 5) (pv 7) set_list)))))
      (pss_one (ps_ret (pv 5)))))))), ?_⟩
    case t1 =>
      intro D σ H h
      obtain ⟨a, b, k, sc, sh, els, rfl, hb, hv, hn, hp, h0, h1, h2, nx⟩ := h
      have one : Fit 1 0 els := ⟨by decide, by decide, by decide, fun e he => ⟨by have := (hv e he).1; omega, fun n hn => by rw [Int.one_mul]; exact (hv e he).2 n hn⟩⟩
      obtain ⟨as, hbl, hA⟩ := hb
      have la := hA.len
      refine ⟨by show 1 ≤ sizeLine; decide, fun l nl => ?_⟩
      have s1 := same_upd nl (o := .lst [.int 0])
      refine ⟨.ref b, rfl, b, rfl, ⟨_, .of (s1 _ _ hbl)⟩, fun D1 nD1 => ?_⟩
      refine lc_fm (walk_list (xs := as.map V.ref)) els (fun e => some (e.length : Int)) (fun _ v n => v = .int n) (fun _ _ _ _ _ z => z) (by rw [List.length_map, la]) nD1 (fun H' s => s.seq (.of (s1 _ _ hbl))) (small' (by rw [List.length_map]; omega)) (fun i x H' Hx ys e he sm hD y Qt Qf qt qf => ?_) (fun G ys sm hD hR => ?_)
      · obtain ⟨rfl, hx⟩ := y
        obtain ⟨c, hc, rfl⟩ := row_ref hx
        obtain ⟨e', he', hI⟩ := hA.get hc
        obtain rfl := Option.some.inj (he.symm.trans he')
        exact ⟨rfl, _, rfl, c, _, rfl, .inl ((hI.same s1).same sm).sq, qt _ _ _ rfl (Same.refl _) (by rw [List.length_map])⟩
      rw [a2_eq hR, fm_some, List.map_map] at hD
      refine ⟨l, D1, _, _, rfl, rfl, sm _ _ upd_same, hD, by rw [List.length_map]; exact small (by show 1 + _ ≤ _; omega), fun p np => ?_⟩
      have s2 : Same H (upd G p (.lst ([V.int 0] ++ els.map ((fun n => V.int n) ∘ fun e => (e.length : Int))))) := s1.trans (sm.trans (same_upd np))
      refine ⟨p, 0 :: els.map (fun e => (e.length : Int)), rfl, .of (by rw [upd_same]; show some (HO.lst (V.int 0 :: _)) = some (HO.lst (V.int 0 :: _)); rw [List.map_map]; rfl), by rw [List.length_cons]; omega, fun m hm hle => ?_⟩
      refine ⟨_, rfl, _, _, rfl, rfl, _, _, rfl, rfl, _, rfl, ?_⟩
      refine ite2 (fun h => iteT (nx _ 1 0 s2 one)) (fun hno => ?_)
      have hlen : ∀ e ∈ els, (e.length : Int) + sh ≤ 13 := fun e he => by
        have := hle _ (List.mem_cons_of_mem _ (List.mem_map.mpr ⟨e, he, rfl⟩))
        have : ¬ (4 < m + sh) := fun z => hno (decide_eq_true z)
        omega
      refine ⟨by show 1 ≤ sizeLine; decide, fun l2 nl2 => ?_⟩
      have s3 := s2.trans (same_upd nl2 (o := .lst [.int 0]))
      refine ⟨.ref b, rfl, by show 0 ≤ sizeLine; decide, fun l3 nl3 => ?_⟩
      have s4 := s3.trans (same_upd nl3 (o := .lst []))
      refine ⟨b, l3, _, [], els.map fun e => e.map V.int, rfl, .of (s4 _ _ hbl), upd_same, row_lists (hA.mono fun _ _ z => z.same s4), ?_, fun e => ?_, fun p2 np2 => ?_⟩
      · rw [flat_map, List.length_map]
        have := small_flat hv hn
        exact small (by show 0 + _ ≤ _; omega)
      · have : as.length = 0 := by rw [← List.length_map (f := V.ref), e]; rfl
        omega
      rw [List.nil_append, flat_map]
      have s5 := s4.trans (same_upd np2 (o := .lst (els.flatten.map V.int)))
      refine ⟨p2, rfl, ⟨_, .of upd_same⟩, fun D2 nD2 => ?_⟩
      refine lc_fm (walk_list (xs := els.flatten.map V.int)) els.flatten (fun n => some (if n < 0 then -n else n)) (fun _ v n => v = .int n) (fun _ _ _ _ _ z => z) (by rw [List.length_map]) nD2 (fun H' s => s.seq (.of upd_same)) (small' (by rw [List.length_map]; have := small_flat hv hn; omega)) (fun i x H' Hx ys e he sm hD y Qt Qf qt qf => ?_) (fun G2 ys sm2 hD2 hR2 => ?_)
      · obtain ⟨rfl, hx⟩ := y
        rw [List.getElem?_map, he] at hx
        obtain rfl := Option.some.inj hx
        exact ⟨rfl, _, rfl, _, rfl, qt _ _ _ rfl (Same.refl _) rfl⟩
      rw [a2_eq hR2, fm_some, List.map_map] at hD2
      have l2G : G2 l2 = some (.lst [.int 0]) := sm2 _ _ (by
        refine same_upd np2 _ _ (same_upd nl3 _ _ upd_same))
      refine ⟨l2, D2, _, _, rfl, rfl, l2G, hD2, by rw [List.length_map]; have := small_flat hv hn; exact small (by show 1 + _ ≤ _; omega), fun p3 np3 => ?_⟩
      have s6 : Same H (upd G2 p3 (.lst ([V.int 0] ++ els.flatten.map ((fun n => V.int n) ∘ fun n => if n < 0 then -n else n)))) := s5.trans (sm2.trans (same_upd np3))
      refine ⟨p3, 0 :: els.flatten.map (fun n => if n < 0 then -n else n), rfl, .of (by rw [upd_same]; show some (HO.lst (V.int 0 :: _)) = some (HO.lst (V.int 0 :: _)); rw [List.map_map]; rfl), by rw [List.length_cons]; omega, fun m2 hm2 hle2 => ?_⟩
      refine ⟨_, _, rfl, rfl, _, rfl, ?_⟩
      refine ite2 (fun h => nx _ 1 0 s6 one) (fun hno2 => nx _ sc sh s6 ⟨h0, h1, h2, fun e he => ⟨hlen e he, fun n hn => ?_⟩⟩)
      have := hle2 _ (List.mem_cons_of_mem _ (List.mem_map.mpr ⟨n, List.mem_flatten.mpr ⟨e, he, hn⟩, rfl⟩))
      have h4 : ¬ (400000 < m2) := fun z => hno2 (decide_eq_true z)
      have h5 : n.natAbs ≤ 400000 := by split at this <;> omega
      rw [Int.natAbs_mul]
      exact Nat.le_trans (Nat.mul_le_mul h2.1 h5) (by decide)
    refine ⟨_, rfl, by show 3 ≤ sizeLine; decide, fun l0 n0 => ?_⟩
    have s0 := same_upd n0 (o := .lst [.int 1, .int (-1), .int 2])
    refine ⟨.ref a, rfl, _, rfl, a, ds, _, _, rfl, ha.same s0, hk, by decide, fun r0 p0 u0 => ?_⟩
    have hlt : r0.toNat < [(1 : Int), -1, 2].length := by show _ < 3; omega
    refine ⟨l0, _, _, _, rfl, rfl, .of upd_same, at_map' (ns := [1, -1, 2]) (m := r0.toNat) (by omega) hlt, ?_⟩
    have hsc : (cf [1, -1, 2] r0.toNat).natAbs ≤ 2 ∧ cf [1, -1, 2] r0.toNat ≠ 0 := (by decide : ∀ x ∈ [(1 : Int), -1, 2], x.natAbs ≤ 2 ∧ x ≠ 0) _ (mem_at (at_map hlt))
    generalize cf [1, -1, 2] r0.toNat = sc at hsc
    refine ⟨.ref a, rfl, _, rfl, _, _, rfl, rfl, a, ds, _, _, rfl, ha.same s0, by omega, by decide, fun r1 p1 u1 => ?_⟩
    refine ⟨_, _, rfl, rfl, ⟨by decide, by decide⟩, ?_⟩
    refine ⟨a, b, k, sc, r1 / 2, els, rfl, hb.same s0, vr.2, by have := vr.1; omega, by have := vr.1; omega, by omega, by omega, hsc, fun G sc sh sG fit => ?_⟩
    have s1 := s0.trans sG
    obtain ⟨rs, hbG, hrs⟩ := hb.same s1
    refine ⟨.ref b, rfl, b, rfl, ⟨_, .of hbG⟩, fun D nD => ?_⟩
    have lrs := hrs.len
    have lel := vr.1
    refine lc_inv (walk_list (xs := rs.map V.ref)) (fun i G' ys => ∃ (as : List Addr) (es : List (List Int)), ys = as.map V.ref ∧ RN D H G' as es ∧ es.length = i ∧ ∀ e ∈ es, VE e ∧ NZ e) nD (fun H' s => s.seq (.of hbG)) (small' (by rw [List.length_map]; omega)) ⟨[], [], rfl, .nil, rfl, fun _ z => by cases z⟩ (fun i x G1 Hx ys hi sm hD hR y Qt Qf qt qf => ?_) (fun G1 ys sm hD hR => ?_)
    · obtain ⟨rfl, hx⟩ := y
      obtain ⟨c, hc, rfl⟩ := row_ref hx
      obtain ⟨e, he, hI⟩ := hrs.get hc
      obtain ⟨as, es, rfl, hrn, hlen, hve⟩ := hR
      have hee := mem_at he
      obtain ⟨f0, f1, f2, f3⟩ := fit
      refine ⟨rfl, by show 1 ≤ sizeLine; decide, fun l1 n1 => ?_⟩
      have t1 := same_upd n1 (o := .lst [.int 0])
      refine ⟨_, rfl, l1, sh, _, rfl, rfl, upd_same, by omega, by omega, by show 1 * _ ≤ _; exact small (by omega), fun l2 n2 => ?_⟩
      rw [rep0]
      have t2 := t1.trans (same_upd n2 (o := .lst ((List.replicate sh.toNat (0 : Int)).map V.int)))
      refine ⟨.ref c, rfl, by show 0 ≤ sizeLine; decide, fun l3 n3 => ?_⟩
      have t3 := t2.trans (same_upd n3 (o := .lst []))
      refine ⟨dI e, .list [], dpI ((hI.same sm).same t3).sq, .lst (.of upd_same) .nil, shaped_dI e, rfl, ?_⟩
      refine .inr ⟨_, rfl, ?_⟩
      obtain ⟨bi, eb, b0, b1, bz⟩ : ∃ bi : Int, (if (!PyData.eqv (dI e) (.list [])) = true then (1 : Int) else 0) = bi ∧ 0 ≤ bi ∧ bi ≤ 1 ∧ (e = [] → bi = 0) := ⟨_, rfl, by split <;> omega, by split <;> omega, fun z => by rw [eqv_nil, decide_eq_true z]; rfl⟩
      rw [eb]
      refine ⟨l2, bi, _, rfl, rfl, same_upd n3 _ _ upd_same, by omega, by omega, by rw [List.length_map, List.length_replicate]; exact small (Nat.le_trans (Nat.mul_le_mul (show _ ≤ 1 by omega) (show _ ≤ 1 by omega)) (by decide)), fun l4 n4 => ?_⟩
      obtain ⟨m, hm1, hmz, em⟩ := repB (b := bi.toNat) (s := sh.toNat) (by omega)
      rw [em]
      have t4 := t3.trans (same_upd n4 (o := .lst ((List.replicate m (0 : Int)).map V.int)))
      refine ⟨.ref c, rfl, c, rfl, ⟨_, ((hI.same sm).same t4).sq⟩, fun D2 nD2 => ?_⟩
      have ve := vr.2 e hee
      refine lc_fm (walk_list (xs := e.map V.int)) e (fun n => some (sc * n)) (fun _ v n => v = .int n) (fun _ _ _ _ _ z => z) (by rw [List.length_map]) nD2 (fun H' s => s.seq (((hI.same sm).same t4).sq)) (small' (by rw [List.length_map]; have := ve.1; omega)) (fun i2 x2 H2 Hx2 ys2 n hn sm2 hD2 y2 Qt2 Qf2 qt2 qf2 => ?_) (fun G2 ys2 sm2 hD2 hR2 => ?_)
      · obtain ⟨rfl, hx2⟩ := y2
        rw [List.getElem?_map, hn] at hx2
        obtain rfl := Option.some.inj hx2
        have := ve.2 n (mem_at hn)
        exact ⟨rfl, _, rfl, _, rfl, _, _, rfl, rfl, wide_mul (a := 2) (b := 100) (by omega) (Nat.lt_of_le_of_lt this (by decide)) (by decide) (by decide) (by decide), qt2 _ _ _ rfl (Same.refl _) rfl⟩
      rw [a2_eq hR2, fm_some, List.map_map] at hD2
      refine ⟨l4, D2, _, _, rfl, rfl, sm2 _ _ upd_same, hD2, by rw [List.length_map, List.length_map, List.length_replicate]; have := ve.1; exact small (by omega), fun p np => ?_⟩
      have t5 := t4.trans (sm2.trans (same_upd np (o := .lst ((List.replicate m (0 : Int)).map V.int ++ e.map ((fun n => V.int n) ∘ fun n => sc * n)))))
      have pD : p ≠ D := fun z => by
        have := (t4.trans sm2) D _ hD
        rw [← z, np] at this
        cases this
      refine qt _ _ t5 ⟨as ++ [p], es ++ [List.replicate m 0 ++ e.map fun n => sc * n], by rw [List.map_append]; rfl, hrn.snoc t5 pD ((s1.trans (sm.trans (t4.trans sm2))).free np) (by unfold IL; rw [upd_same, List.map_append, List.map_map]), by rw [List.length_append, hlen]; rfl, ve_snoc hve ⟨ve_scale ⟨f0, f1, f2, f3⟩ hee hm1, nz_scale (vz e hee) f2.2 fun z => hmz (by rw [bz z]; rfl)⟩⟩
    obtain ⟨as, es, rfl, hrn, hlen, hve⟩ := hR
    rw [List.length_map, lrs, lel] at hlen
    have s2 := s1.trans sm
    have nD0 : H D = none := s1.free nD
    refine ⟨.ref a, rfl, _, rfl, _, _, rfl, rfl, a, ds, _, _, rfl, ha.same s2, by omega, by decide, fun r2 p2 u2 => ?_⟩
    refine ⟨_, _, rfl, rfl, 1 + r2, rfl, by omega, by omega, ?_⟩
    refine for_range (n := (1 + r2).toNat) (lo := 0) (fun i σ G' => Same H G' ∧ ∃ (as : List Addr) (es : List (List Int)) (v6 v7 v8 v9 v10 : Option V), σ = [some (.ref a), some (.int k), some (.ref b), some (.int sc), some (.int sh), some (.ref D), v6, v7, v8, v9, v10] ∧ G' D = some (.lst (as.map V.ref)) ∧ RN D H G' as es ∧ es.length = many ∧ ∀ e ∈ es, VE e ∧ NZ e) ⟨s2, as, es, _, _, _, _, _, rfl, hD, hrn, hlen, hve⟩ (fun i σ G' hi hP => ?_) (fun σ G' hP => ?_)
    · obtain ⟨sm, as, es, v6, v7, v8, v9, v10, rfl, hD, hrn, hlen, hve⟩ := hP
      obtain ⟨rs, hbG, hrs⟩ := hb.same sm
      have lb : (rs.map V.ref).length = many := by rw [List.length_map, hrs.len, lel]
      have wm : CMulW 2 (0 + (i : Int)) := wide_mul (a := 2) (b := 100) (by decide) (Nat.lt_of_le_of_lt (show _ ≤ 4 by omega) (by decide)) (by decide) (by decide) (by decide)
      refine ⟨.ref a, rfl, _, rfl, _, _, rfl, rfl, _, rfl, _, _, rfl, rfl, wm, _, _, rfl, rfl, .ref b, rfl, b, _, rfl, .inl (.of hbG), ?_⟩
      rw [lb]
      refine ⟨a, ds, _, _, rfl, ha.same sm, by omega, by omega, fun r3 p3 u3 => ?_⟩
      obtain ⟨j, ej, hj⟩ : ∃ j : Nat, r3 = (j : Int) ∧ j < many := ⟨r3.toNat, by omega, by omega⟩
      subst ej
      obtain ⟨e, he⟩ := some_at (xs := es) (i := j) (by omega)
      obtain ⟨c, hc, ⟨cD, _⟩, hI⟩ := hrn.get' he
      refine ⟨.ref a, rfl, _, rfl, _, _, rfl, rfl, _, rfl, _, _, rfl, rfl, wm, _, _, rfl, rfl, a, ds, _, _, rfl, ha.same sm, by omega, by decide, fun r4 p4 u4 => ?_⟩
      refine ⟨_, _, rfl, rfl, by show 1 ≤ sizeLine; decide, fun l5 n5 => ?_⟩
      have t5 := same_upd n5 (o := .lst [.int (r4 - 2)])
      refine ⟨.ref D, rfl, _, rfl, D, _, _, _, rfl, rfl, .of (t5 _ _ hD), atI_nat (by rw [List.getElem?_map, hc]; rfl), ?_⟩
      refine ⟨_, rfl, c, _, rfl, (hI.same t5).sq, fun l6 n6 => ?_⟩
      rw [cut_from1]
      have t6 := t5.trans (same_upd n6 (o := .lst ((e.drop 1).map V.int)))
      have ve := (hve e (mem_at he)).1
      refine ⟨l5, l6, _, _, rfl, rfl, same_upd n6 _ _ upd_same, upd_same, by rw [List.length_map, List.length_drop]; have := ve.1; exact small (by show 1 + _ ≤ _; omega), fun l7 n7 => ?_⟩
      have t7 := t6.trans (same_upd n7 (o := .lst ([V.int (r4 - 2)] ++ (e.drop 1).map V.int)))
      refine ⟨l7, [r4 - 2] ++ e.drop 1, rfl, .of (by rw [upd_same, List.map_append]; rfl), by rw [List.length_append, List.length_drop]; have := ve.1; show 1 + _ ≤ _; omega, fun G3 p m s3 np hp hz3 => ?_⟩
      have t8 := t7.trans s3
      have pD : p ≠ D := fun z => by
        have := t7 D _ hD
        rw [← z, np] at this
        cases this
      refine ⟨.ref D, rfl, _, rfl, D, _, _, j, rfl, rfl, t8 _ _ hD, ix_ok rfl (by rw [List.length_map, hrn.len]; omega), ?_⟩
      refine ⟨same_over (sm.trans t8) nD0, as.set j p, es.set j (([r4 - 2] ++ e.drop 1).take m), _, _, _, _, _, rfl, ?_, ?_, by rw [List.length_set]; exact hlen, mem_set2 hve ⟨ve_drop ve (Nat.le_trans (show _ ≤ 5 by omega) (by decide)), hz3⟩⟩
      · rw [upd_same, List.map_set]
      · exact A2.set ⟨⟨pD, (sm.trans t7).free np⟩, by unfold IL; rw [upd_ne pD]; exact hp⟩ (hrn.up ((sx t8).trans SameX.put)) j
    · obtain ⟨sm, as, es, v6, v7, v8, v9, v10, rfl, hD, hrn, hlen, hve⟩ := hP
      exact ⟨.ref D, rfl, q G' D es sm nD0 (hrn.row hD) ⟨hlen, fun e he => (hve e he).1⟩ fun e he => (hve e he).2⟩
end
-- H
section
variable {P : Program} {w : World} {K : PySem.W.Frag} {mg : Str → Option Value} {base : Heap}
/-! ### grids under way: the list of rows at g, of exact ones at x -/
def Of (g x : Addr) (c : Addr) : Prop := c ≠ g ∧ c ≠ x
def SP (g x : Addr) (H H' : Hp) : Prop := ∀ c o, Of g x c → H c = some o → H' c = some o
theorem spS {g x : Addr} {H H' : Hp} (s : Same H H') : SP g x H H' := fun c o _ h => s c o h
theorem SP.trans {g x : Addr} {H H1 H2 : Hp} (a : SP g x H H1) (b : SP g x H1 H2) : SP g x H H2 := fun c o n h => b c o n (a c o n h)
theorem spG {g x : Addr} {H : Hp} {o : HO} : SP g x H (upd H g o) := fun c u n h => by rw [upd_ne n.1]; exact h
theorem spX {g x : Addr} {H : Hp} {o : HO} : SP g x H (upd H x o) := fun c u n h => by rw [upd_ne n.2]; exact h
def XR (g x : Addr) (H : Hp) (v : V) (els : List (List Int)) : Prop := ∃ (b : Addr) (as : List Addr), v = .ref b ∧ Of g x b ∧ H b = some (.lst (as.map V.ref)) ∧ A2 (fun e ns => Of g x e ∧ IL H e ns) as els
def XG (K : PySem.W.Frag) (g x : Addr) (H : Hp) (v : V) (r : Rw) : Prop := ∃ (t : Addr) (u : V), v = .ref t ∧ Of g x t ∧ H t = some (.tup [.str (kS r.1), u]) ∧ XR g x H u r.2
theorem XR.up {g x : Addr} {H H' : Hp} {v : V} {els : List (List Int)} (h : XR g x H v els) (s : SP g x H H') : XR g x H' v els := let ⟨b, as, e, n, hb, r⟩ := h; ⟨b, as, e, n, s _ _ n hb, r.mono fun _ _ z => ⟨z.1, s _ _ z.1 z.2⟩⟩
theorem XG.up {g x : Addr} {H H' : Hp} {v : V} {r : Rw} (h : XG K g x H v r) (s : SP g x H H') : XG K g x H' v r := let ⟨t, u, e, n, ht, r⟩ := h; ⟨t, u, e, n, s _ _ n ht, r.up s⟩
theorem XG.row {g x : Addr} {H : Hp} {v : V} {r : Rw} (h : XG K g x H v r) : RwV K H v r := let ⟨t, u, e, n, ht, b, as, eu, nb, hb, r⟩ := h; ⟨t, b, e, .inl (.inl (eu ▸ ht)), as, hb, r.mono fun _ _ z => z.2⟩
theorem of_new {g x c : Addr} {H : Hp} (hg : H g ≠ none) (hx : H x ≠ none) (h : H c = none) : Of g x c := ⟨fun z => hg (z ▸ h), fun z => hx (z ▸ h)⟩
theorem XR.of {g x p : Addr} {H H' : Hp} {els : List (List Int)} (hg : H g ≠ none) (hx : H x ≠ none) (hp : H p = none) (h : RowF H H' p els) : XR g x H' (.ref p) els := let ⟨as, e, r⟩ := h; ⟨p, as, rfl, of_new hg hx hp, e, r.mono fun _ _ z => ⟨of_new hg hx z.1, z.2⟩⟩
theorem RowL.ofX {g x : Addr} {H : Hp} {v : V} {els : List (List Int)} (h : XR g x H v els) : ∃ b, v = .ref b ∧ RowL H b els := let ⟨b, as, e, n, hb, r⟩ := h; ⟨b, e, as, hb, r.mono fun _ _ z => z.2⟩
/-- the rows as they are drawn -/
def OKr (r : Rw) : Prop := if r.1 = true then ∀ e ∈ r.2, NZ e else ∀ e ∈ r.2, OA e
/-- the state of the loop -/
abbrev SG (a : Addr) (k : Int) (many : Nat) (g x : Addr) (sh : Int) (v6 v7 v8 v9 : Option V) : L2.St := [some (.ref a), some (.int k), some (.int (many : Nat)), some (.ref g), some (.ref x), some (.int sh), v6, v7, v8, v9]
def T3 (a : Addr) (ds : List Int) (many : Nat) : TS := fun D σ H => ∃ (k sh t : Int) (g x : Addr) (v6 v8 v9 : Option V), σ = SG a k many g x sh v6 (some (.int t)) v8 v9 ∧ IL H a ds ∧ 0 ≤ t ∧ many ≤ 16 ∧
  ∀ H' p els v9, Same H H' → H p = none → RowF H H' p els → VR many els → (∀ e ∈ els, NZ e) → D.nx (SG a k many g x sh v6 (some (.int t)) (some (.ref p)) v9) H'
def T2 (a : Addr) (ds : List Int) (many : Nat) : TS := fun D σ H => ∃ (k sh t : Int) (g x : Addr) (v6 v8 v9 : Option V) (zs : List V) (ess : List (List (List Int))), σ = SG a k many g x sh v6 (some (.int t)) v8 v9 ∧ IL H a ds ∧ 0 ≤ t ∧ 0 < many ∧ many ≤ 16 ∧
  H x = some (.lst zs) ∧ A2 (XR g x H) zs ess ∧ ess.length ≤ 16 ∧ (∀ e ∈ ess, VR many e ∧ ∀ x ∈ e, NZ x) ∧
  ∀ H' p els v9, Same H H' → H p = none → RowF H H' p els → VR many els → (∀ e ∈ els, NZ e) → D.nx (SG a k many g x sh v6 (some (.int t)) (some (.ref p)) v9) H'
def sp_law_grid (K : PySem.W.Frag) : Sp := fun vs H Q _ => ∃ (a : Addr) (ds : List Int) (k : Int) (many : Nat), vs = [.ref a, .int k, .int (many : Nat)] ∧ IL H a ds ∧ 0 ≤ k ∧ many ≤ 16 ∧ ∀ H' g rs, Same H H' → GR K H' g rs → VG many rs → (∀ r ∈ rs, OKr r) → Q (.ref g) H'
theorem ok_law_grid (T : Txt K mg) : FnOk P w K mg base CX0 4 T.law_grid.a T.law_grid.fd ["draws", "k", "many"] (sp_law_grid K) := by
  refine T.law_grid.F.ok sc_law_grid (fun vs H Q E h => ?_) (fun cdv A outer s H vs Q E hr h => ?_)
  · obtain ⟨a, ds, k, many, rfl, _⟩ := h
    rfl
  · obtain ⟨a, ds, k, many, rfl, ha, hk, hm, q⟩ := h
    refine ⟨_, (pss_cons (ps_set (i := 3) sc_law_grid.nd rfl (.inl rfl) (pe_lst pa_nil))
      (pss_cons (ps_set (i := 4) sc_law_grid.nd rfl (.inl rfl) (pe_lst pa_nil))
      (pss_cons (ps_set (i := 5) sc_law_grid.nd rfl (.inl rfl) (pe_call (ok_law_mix T) (hr.mono (by decide)) (by rfl) T.law_mix.g T.law_mix.F.kp T.law_mix.b .nil pass0 (pa_cons (pv 0) (pa_cons (pv 1) (pa_cons pe_int pa_nil)))))
      (pss_cons (ps_for PassesOwn.never rfl (pi_range1 (by rfl) T.m_range (pa_cons (pv 2) pa_nil)) (pg_name (i := 6) sc_law_grid.nd rfl (.inl rfl))
        (pss_cons (ps_set (i := 7) sc_law_grid.nd rfl (.inr rfl) (pe_op op_add (pe_op op_add (pv 1) pe_int) (pe_op op_mul pe_int (pv 6))))
        (pss_one (ps_if (pt_cmpR op_lt (pe_call (ok_law_mix T) (hr.mono (by decide)) (by rfl) T.law_mix.g T.law_mix.F.kp T.law_mix.b .nil pass0 (pa_cons (pv 0) (pa_cons (pv 7) (pa_cons pe_int pa_nil)))) (pv 5) (nomark _))
          (pss_cons (ps_via (t' := T2 a ds many) (ps_if (PW.pt (pw_and (pt_cmpR op_gt (pe_callB call_len_seq (by rfl) T.m_len (by decide +kernel) (pa_cons (pv 4) pa_nil)) pe_int (nomark _)) (pw_and1 (pt_cmpR op_eq (pe_call (ok_law_mix T) (hr.mono (by decide)) (by rfl) T.law_mix.g T.law_mix.F.kp T.law_mix.b .nil pass0 (pa_cons (pv 0) (pa_cons (pe_op op_add (pv 7) pe_int) (pa_cons pe_int pa_nil)))) pe_int (nomark _)))))
            (pss_one (ps_set (i := 8) sc_law_grid.nd rfl (.inl rfl) (pe_call (ok_law_likely T) (hr.mono (by decide)) (by rfl) T.law_likely.g T.law_likely.F.kp T.law_likely.b .nil pass0 (pa_cons (pv 0) (pa_cons (pe_op op_add (pv 7) pe_int) (pa_cons (pe_ix ix_list (pv 4) (pe_call (ok_law_mix T) (hr.mono (by decide)) (by rfl) T.law_mix.g T.law_mix.F.kp T.law_mix.b .nil pass0 (pa_cons (pv 0) (pa_cons (pe_op op_add (pv 7) pe_int) (pa_cons (pe_callB call_len_seq (by rfl) T.m_len (by decide +kernel) (pa_cons (pv 4) pa_nil)) pa_nil)))) (fun _ _ => rfl)) pa_nil))))))
            (pss_one (ps_via (t' := T3 a ds many) (ps_setLc (i := 8) (own := [("j", 9)]) rfl sc_law_grid.nd rfl rfl (sw_true rfl rfl rfl (by decide +kernel)) (pi_range1 (by rfl) T.m_range (pa_cons (pv 2) pa_nil)) (blkOk_by (N := ["draws", "k", "many", "grid", "exact", "share", "i", "at", "row", "j"]) (sc := defScope s_law_grid) (by decide +kernel)) (fun _ _ _ _ _ => (pg_name (i := 9) sc_law_grid.nd rfl (.inl rfl))) (fun _ _ _ _ _ => pts_nil) (fun _ _ _ _ _ => (pe_call (ok_law_element T) (hr.mono (by decide)) (by rfl) T.law_element.g T.law_element.F.kp T.law_element.b .nil pass0 (pa_cons (pv 0) (pa_cons (pe_op op_add (pe_op op_add (pv 7) pe_int) (pe_op op_mul pe_int (pv 9))) (pa_cons pe_int pa_nil)))))) ?t3))) ?t2)
          (pss_cons (ps_expr (pe_bm PySem.F.plainAttrs_list PySem.F.slot_list_append PySem.F.type_list_append mt_append (pv 4) (pa_cons (pv 8) pa_nil)))
          (pss_one (ps_expr (pe_bm PySem.F.plainAttrs_list PySem.F.slot_list_append PySem.F.type_list_append mt_append (pv 3) (pa_cons (pe_tup (pa_cons pe_str (pa_cons (pv 8) pa_nil))) pa_nil))))))
          (pss_one (ps_expr (pe_bm PySem.F.plainAttrs_list PySem.F.slot_list_append PySem.F.type_list_append mt_append (pv 3) (pa_cons (pe_tup (pa_cons pe_str (pa_cons (pe_lc (own := [("j", 9)]) rfl sc_law_grid.nd (pi_range1 (by rfl) T.m_range (pa_cons (pv 2) pa_nil)) (blkOk_by (N := ["draws", "k", "many", "grid", "exact", "share", "i", "at", "row", "j"]) (sc := defScope s_law_grid) (by decide +kernel)) (fun _ _ _ _ _ => (pg_name (i := 9) sc_law_grid.nd rfl (.inl rfl))) (fun _ _ _ _ _ => pts_nil) (fun _ _ _ _ _ => (pe_call (ok_law_orders T) (hr.mono (by decide)) (by rfl) T.law_orders.g T.law_orders.F.kp T.law_orders.b .nil pass0 (pa_cons (pv 0) (pa_cons (pe_op op_add (pe_op op_add (pv 7) pe_int) (pe_op op_mul pe_int (pv 9))) (pa_cons pe_int pa_nil)))))) pa_nil))) pa_nil))))))))
      (pss_one (ps_ret (pv 3))))))), ?_⟩
    case t3 =>
      intro D σ H h
      obtain ⟨k, sh, t, g, x, v6, v8, v9, rfl, ha, ht, hm, nx⟩ := h
      refine ⟨_, rfl, (many : Nat), rfl, by omega, by omega, fun C nC => ?_⟩
      rw [Int.toNat_natCast]
      refine lc_inv (walk_range (lo := 0) (n := many)) (fun i G ys => ∃ (as : List Addr) (es : List (List Int)), ys = as.map V.ref ∧ RN C H G as es ∧ es.length = i ∧ ∀ e ∈ es, VE e ∧ NZ e) nC (fun _ _ => trivial) (small' (by omega)) ⟨[], [], rfl, .nil, rfl, fun _ z => by cases z⟩ (fun i x G Hx ys hi sm hC hR y Qt Qf qt qf => ?_) (fun G ys sm hC hR => ?_)
      · obtain ⟨rfl, rfl⟩ := y
        obtain ⟨as, es, rfl, hrn, hlen, hve⟩ := hR
        refine ⟨rfl, .ref a, rfl, _, rfl, _, _, rfl, rfl, _, rfl, _, _, rfl, rfl, .inl ⟨by decide, by decide⟩, _, _, rfl, rfl, a, ds, _, _, rfl, ha.same sm, by omega, fun G2 p ns s2 np hp ve nz => ?_⟩
        have pC : p ≠ C := fun z => by rw [z, hC] at np; cases np
        exact qt _ _ s2 ⟨as ++ [p], es ++ [ns], by rw [List.map_append]; rfl, hrn.snoc s2 pC (sm.free np) hp, by rw [List.length_append, hlen]; rfl, ve_snoc hve ⟨ve, nz⟩⟩
      · obtain ⟨as, es, rfl, hrn, hlen, hve⟩ := hR
        exact nx G C es _ sm nC (hrn.row hC) ⟨hlen, fun e he => (hve e he).1⟩ fun e he => (hve e he).2
    case t2 =>
      intro D σ H h
      obtain ⟨k, sh, t, g, x, v6, v8, v9, zs, ess, rfl, ha, ht, hm0, hm, hx, hz, hl, hv, nx⟩ := h
      have els : T3 a ds many D (SG a k many g x sh v6 (some (.int t)) v8 v9) H := ⟨k, sh, t, g, x, v6, v8, v9, rfl, ha, ht, hm, nx⟩
      refine ⟨.ref x, rfl, x, _, rfl, .inl (.of hx), _, _, rfl, rfl, _, rfl, ?_⟩
      refine ite2 (fun h => ?_) (fun h => iteF els)
      have pos : 0 < ess.length := by have := of_decide_eq_true h; rw [hz.len] at this; omega
      refine ⟨.ref a, rfl, _, rfl, _, _, rfl, rfl, a, ds, _, _, rfl, ha, by omega, by decide, fun r1 p1 u1 => ⟨rfl, _, rfl, ?_⟩⟩
      refine ite2 (fun _ => ?_) (fun _ => els)
      refine ⟨.ref a, rfl, _, rfl, _, _, rfl, rfl, .ref x, rfl, .ref a, rfl, _, rfl, _, _, rfl, rfl, .ref x, rfl, x, _, rfl, .inl (.of hx), a, ds, _, _, rfl, ha, by omega, by rw [hz.len]; omega, fun r2 p2 u2 => ?_⟩
      rw [hz.len] at u2
      obtain ⟨es, he⟩ := some_at (xs := ess) (i := r2.toNat) (by omega)
      obtain ⟨v, hv2, hX⟩ := hz.get' he
      obtain ⟨b, rfl, hb⟩ := RowL.ofX hX
      have e2 : r2 = ((r2.toNat : Nat) : Int) := by omega
      refine ⟨x, _, _, _, rfl, rfl, .of hx, by rw [e2]; exact atI_nat hv2, ?_⟩
      exact ⟨a, b, ds, _, es, many, rfl, ha, by omega, hb, (hv _ (mem_at he)).1, (hv _ (mem_at he)).2, hm0, hm, fun H' p els s1 np hF vr vz => nx H' p els _ s1 np hF vr vz⟩
    refine ⟨by show 0 ≤ sizeLine; decide, fun g ng => ?_⟩
    have s0 := same_upd ng (o := .lst [])
    refine ⟨by show 0 ≤ sizeLine; decide, fun x nx => ?_⟩
    have s1 := s0.trans (same_upd nx (o := .lst []))
    have xg : x ≠ g := fun z => by rw [z, upd_same] at nx; cases nx
    have nx0 : H x = none := s0.free nx
    refine ⟨.ref a, rfl, _, rfl, a, ds, _, _, rfl, ha.same s1, hk, by decide, fun sh p0 u0 => ?_⟩
    refine ⟨_, rfl, (many : Nat), rfl, by omega, by omega, ?_⟩
    rw [Int.toNat_natCast]
    refine for_range (n := many) (lo := 0) (fun i σ G => Same H G ∧ ∃ (v6 v7 v8 v9 : Option V) (xs : List V) (rs : List Rw) (zs : List V) (ess : List (List (List Int))), σ = SG a k many g x sh v6 v7 v8 v9 ∧ G g = some (.lst xs) ∧ A2 (XG K g x G) xs rs ∧ G x = some (.lst zs) ∧ A2 (XR g x G) zs ess ∧ rs.length = i ∧ ess.length ≤ i ∧ (∀ r ∈ rs, VR many r.2 ∧ OKr r) ∧ (∀ e ∈ ess, VR many e ∧ ∀ x ∈ e, NZ x)) ⟨s1, none, none, none, none, [], [], [], [], rfl, by rw [upd_ne xg.symm, upd_same], .nil, upd_same, .nil, rfl, Nat.le_refl _, (fun _ z => by cases z), (fun _ z => by cases z)⟩ (fun i σ G hi hP => ?_) (fun σ G hP => ?_)
    · obtain ⟨sm, v6, v7, v8, v9, xs, rs, zs, ess, rfl, hg, hA, hx, hz, lr, le, vr, ve⟩ := hP
      have lx := hA.len
      have lz := hz.len
      have gn : G g ≠ none := by rw [hg]; exact fun z => nomatch z
      have xn : G x ≠ none := by rw [hx]; exact fun z => nomatch z
      refine ⟨_, rfl, _, _, rfl, rfl, _, rfl, _, _, rfl, rfl, .inl ⟨by decide, by decide⟩, _, _, rfl, rfl, ?_⟩
      refine ⟨.ref a, rfl, _, rfl, a, ds, _, _, rfl, ha.same sm, by omega, by decide, fun r1 p1 u1 => ⟨_, rfl, _, _, rfl, rfl, _, rfl, ?_⟩⟩
      refine ite2 (fun _ => ?_) (fun _ => ?_)
      · refine ⟨_, _, _, _, _, _, _, _, zs, ess, rfl, ha.same sm, by omega, by omega, hm, hx, hz, by omega, ve, fun G2 p els v9 s2 np hF vrow vz => ?_⟩
        have hXR := XR.of gn xn np hF
        refine ⟨.ref x, rfl, .inl ⟨rfl, _, .of (s2 _ _ hx)⟩, _, rfl, x, _, _, rfl, rfl, s2 _ _ hx, small' (by omega), ?_⟩
        have s3 : Same H (upd G2 x (.lst (zs ++ [.ref p]))) := same_over (sm.trans s2) nx0
        have u3 : SP g x G (upd G2 x (.lst (zs ++ [.ref p]))) := (spS s2).trans spX
        have g3 : upd G2 x (.lst (zs ++ [.ref p])) g = some (.lst xs) := by rw [upd_ne xg.symm]; exact s2 _ _ hg
        have x3 : upd G2 x (.lst (zs ++ [.ref p])) x = some (.lst (zs ++ [.ref p])) := upd_same
        have hX3 := hXR.up (spX (g := g) (x := x) (o := .lst (zs ++ [.ref p])))
        generalize upd G2 x (.lst (zs ++ [.ref p])) = G3 at s3 u3 g3 x3 hX3
        refine ⟨.ref g, rfl, .inl ⟨rfl, _, .of g3⟩, _, rfl, by show 2 ≤ sizeLine; decide, fun t nt => ?_⟩
        have s4 := same_upd nt (o := .tup [.str "exact", .ref p])
        refine ⟨g, _, _, rfl, rfl, s4 _ _ g3, small' (by omega), ?_⟩
        have u5 : SP g x G3 (upd (upd G3 t (.tup [.str "exact", .ref p])) g (.lst (xs ++ [.ref t]))) := (spS s4).trans spG
        have tn : Of g x t := of_new (H := G3) (by rw [g3]; exact fun z => nomatch z) (by rw [x3]; exact fun z => nomatch z) nt
        refine ⟨same_over (s3.trans s4) ng, _, _, _, _, xs ++ [.ref t], rs ++ [(true, els)], zs ++ [.ref p], ess ++ [els], rfl, upd_same, A2.snoc ⟨t, .ref p, rfl, tn, by rw [upd_ne tn.1, upd_same]; rfl, hX3.up u5⟩ (hA.mono fun _ _ z => z.up (u3.trans u5)), by rw [upd_ne xg]; exact s4 _ _ x3, A2.snoc (hX3.up u5) (hz.mono fun _ _ z => z.up (u3.trans u5)), by rw [List.length_append, lr]; rfl, by rw [List.length_append]; exact Nat.succ_le_succ le, fun r hr => ?_, fun e he => ?_⟩
        · rcases List.mem_append.mp hr with z | z
          · exact vr r z
          · rw [List.mem_singleton.mp z]; exact ⟨vrow, vz⟩
        · rcases List.mem_append.mp he with z | z
          · exact ve e z
          · rw [List.mem_singleton.mp z]; exact ⟨vrow, vz⟩
      · refine ⟨.ref g, rfl, .inl ⟨rfl, _, .of hg⟩, _, rfl, (many : Nat), rfl, by omega, by omega, fun C nC => ?_⟩
        rw [Int.toNat_natCast]
        refine lc_inv (walk_range (lo := 0) (n := many)) (fun i G1 ys => ∃ (as : List Addr) (es : List (List Int)), ys = as.map V.ref ∧ RN C G G1 as es ∧ es.length = i ∧ ∀ e ∈ es, VE e ∧ OA e) nC (fun _ _ => trivial) (small' (by omega)) ⟨[], [], rfl, .nil, rfl, fun _ z => by cases z⟩ (fun i x G1 Hx ys hi sm1 hC hR y Qt Qf qt qf => ?_) (fun G1 ys sm1 hC hR => ?_)
        · obtain ⟨rfl, rfl⟩ := y
          obtain ⟨as, es, rfl, hrn, hlen, hve⟩ := hR
          refine ⟨rfl, .ref a, rfl, _, rfl, _, _, rfl, rfl, _, rfl, _, _, rfl, rfl, .inl ⟨by decide, by decide⟩, _, _, rfl, rfl, a, ds, _, _, rfl, (ha.same sm).same sm1, by omega, fun G2 p ns s2 np hp ve nz => ?_⟩
          have pC : p ≠ C := fun z => by rw [z, hC] at np; cases np
          exact qt _ _ s2 ⟨as ++ [p], es ++ [ns], by rw [List.map_append]; rfl, hrn.snoc s2 pC (sm1.free np) hp, by rw [List.length_append, hlen]; rfl, ve_snoc hve ⟨ve, nz⟩⟩
        · obtain ⟨as, es, rfl, hrn, hlen, hve⟩ := hR
          have hXR := XR.of gn xn nC (hrn.row hC)
          refine ⟨by show 2 ≤ sizeLine; decide, fun t nt => ?_⟩
          have s4 := same_upd nt (o := .tup [.str "sized", .ref C])
          have g3 := sm1 _ _ hg
          have x3 := sm1 _ _ hx
          refine ⟨g, _, _, rfl, rfl, s4 _ _ g3, small' (by omega), ?_⟩
          have u5 : SP g x G1 (upd (upd G1 t (.tup [.str "sized", .ref C])) g (.lst (xs ++ [.ref t]))) := (spS s4).trans spG
          have tn : Of g x t := of_new (H := G1) (by rw [g3]; exact fun z => nomatch z) (by rw [x3]; exact fun z => nomatch z) nt
          refine ⟨same_over ((sm.trans sm1).trans s4) ng, _, _, _, _, xs ++ [.ref t], rs ++ [(false, es)], zs, ess, rfl, upd_same, A2.snoc ⟨t, .ref C, rfl, tn, by rw [upd_ne tn.1, upd_same]; rfl, hXR.up u5⟩ (hA.mono fun _ _ z => z.up ((spS sm1).trans u5)), by rw [upd_ne xg]; exact s4 _ _ x3, (hz.mono fun _ _ z => z.up ((spS sm1).trans u5)), by rw [List.length_append, lr]; rfl, by omega, fun r hr => ?_, ve⟩
          rcases List.mem_append.mp hr with z | z
          · exact vr r z
          · rw [List.mem_singleton.mp z]; exact ⟨⟨hlen, fun e he => (hve e he).1⟩, fun e he => (hve e he).2⟩
    · obtain ⟨sm, v6, v7, v8, v9, xs, rs, zs, ess, rfl, hg, hA, hx, hz, lr, le, vr, ve⟩ := hP
      exact ⟨.ref g, rfl, q G g rs sm ⟨xs, hg, hA.mono fun _ _ z => z.row⟩ ⟨lr, fun r hr => (vr r hr).1⟩ fun r hr => (vr r hr).2⟩
end
-- I
section
variable {P : Program} {w : World} {K : PySem.W.Frag} {mg : Str → Option Value} {base : Heap}
theorem str_ex (b : Bool) : decide (V.str (kS b) = V.str "exact") = b := by
  cases b <;> decide +kernel
theorem at_last {ns : List Int} (h : ns ≠ []) : atI (ns.map V.int) (-1) = some (V.int (cf ns (ns.length - 1))) := by
  have p : 0 < ns.length := List.length_pos_iff.mpr h
  unfold atI ixN
  rw [List.length_map, if_neg (by omega), if_pos (by omega)]
  show (ns.map V.int)[(-1 + (ns.length : Int)).toNat]? = _
  rw [show (-1 + (ns.length : Int)).toNat = ns.length - 1 by omega, List.getElem?_map, at_map (by omega)]; rfl
def pwr (ex : Bool) (e : List Int) : Int := if ex = true then (e.length : Int) - 1 else cf e (e.length - 1)
theorem pw_yes {ex : Bool} {e : List Int} (h : e ≠ []) : pw ex e = some (pwr ex e) := by unfold pw pwr; rw [if_neg h]
theorem pw_no {ex : Bool} : pw ex [] = none := rfl
def sp_law_power (K : PySem.W.Frag) : Sp := fun vs H Q _ => ∃ (a : Addr) (e : List Int) (ex : Bool), vs = [.str (kS ex), .ref a] ∧ IL H a e ∧ ∀ H', Same H H' → Q (vI (pw ex e)) H'
theorem ok_law_power (T : Txt K mg) : FnOk P w K mg base CX0 1 T.law_power.a T.law_power.fd ["kind", "element"] (sp_law_power K) := by
  refine T.law_power.F.ok sc_law_power (fun vs H Q E h => ?_) (fun cdv A outer s H vs Q E hr h => ?_)
  · obtain ⟨a, e, ex, rfl, _⟩ := h
    rfl
  · obtain ⟨a, e, ex, rfl, hI, q⟩ := h
    refine ⟨_, (pss_cons (ps_if (pt_cmpR (op_eqD hr.units) (pv 1) (pe_lst pa_nil) (nomark _))
        (pss_one (ps_ret pe_non))
        pss_nil)
      (pss_cons (ps_if (pt_cmpR op_eq (pv 0) pe_str (nomark _))
        (pss_one (ps_ret (pe_op op_sub (pe_callB call_len_seq (by rfl) T.m_len (by decide +kernel) (pa_cons (pv 1) pa_nil)) pe_int)))
        pss_nil)
      (pss_one (ps_ret (pe_ix ix_list (pv 1) (pe_un un_neg pe_int) (fun _ _ => rfl)))))), ?_⟩
    refine ⟨.ref a, rfl, by show 0 ≤ sizeLine; decide, fun l nl => ?_⟩
    have s1 := same_upd nl (o := .lst [])
    refine ⟨dI e, .list [], dpI (hI.same s1).sq, .lst (.of upd_same) .nil, shaped_dI e, rfl, _, rfl, ?_⟩
    rw [eqv_nil]
    refine ite2 (fun h => ?_) (fun h => ?_)
    · obtain rfl := of_decide_eq_true h
      exact q _ s1
    have hn : e ≠ [] := fun z => h (decide_eq_true z)
    rw [pw_yes hn] at q
    refine ⟨_, rfl, rfl, _, rfl, ?_⟩
    rw [str_ex]
    cases ex with
    | true =>
      refine iteT ⟨.ref a, rfl, a, _, rfl, .inl (hI.same s1).sq, _, _, rfl, rfl, ?_⟩
      rw [List.length_map]
      exact q _ s1
    | false => exact iteF ⟨.ref a, rfl, _, rfl, a, _, _, _, rfl, rfl, (hI.same s1).sq, at_last hn, q _ s1⟩
def sp_power_of (K : PySem.W.Frag) : Sp := fun vs H Q _ => ∃ (v : V) (r : Rw) (j : Nat) (e : List Int), vs = [v, .int (j : Nat)] ∧ RwV K H v r ∧ r.2[j]? = some e ∧ ∀ H', Same H H' → Q (vI (pw r.1 e)) H'
theorem ok_power_of (T : Txt K mg) : FnOk P w K mg base CX0 1 T.power_of.a T.power_of.fd ["told", "j"] (sp_power_of K) := by
  refine T.power_of.F.ok sc_power_of (fun vs H Q E h => ?_) (fun cdv A outer s H vs Q E hr h => ?_)
  · obtain ⟨v, r, j, e, rfl, _⟩ := h
    rfl
  · obtain ⟨v, r, j, e, rfl, hv, he, q⟩ := h
    obtain ⟨t, b, rfl, ht, as, hb, hA⟩ := hv
    obtain ⟨c, hc, hI⟩ := hA.get' he
    have hat : atI (as.map V.ref) ((j : Nat) : Int) = some (.ref c) := atI_nat (by rw [List.getElem?_map, hc]; rfl)
    refine ⟨_, (pss_cons (ps_asg (pv 0) (pg_tup rfl (pgs_cons (pg_name (i := 2) sc_power_of.nd rfl (.inl rfl)) (pgs_cons (pg_name (i := 3) sc_power_of.nd rfl (.inl rfl)) pgs_nil))))
      (pss_cons (ps_if (pt_cmpR (op_eqD hr.units) (pe_ix ix_list (pv 3) (pv 1) (fun _ _ => rfl)) (pe_lst pa_nil) (nomark _))
        (pss_one (ps_ret pe_non))
        pss_nil)
      (pss_one (ps_ret (pe_ifExp (pt_cmpR op_eq (pv 2) pe_str (nomark _)) (pe_op op_sub (pe_callB call_len_seq (by rfl) T.m_len (by decide +kernel) (pa_cons (pe_ix ix_list (pv 3) (pv 1) (fun _ _ => rfl)) pa_nil)) pe_int) (pe_ix ix_list (pe_ix ix_list (pv 3) (pv 1) (fun _ _ => rfl)) (pe_un un_neg pe_int) (fun _ _ => rfl))))))), ?_⟩
    refine ⟨.ref t, rfl, t, _, rfl, ht, rfl, _, _, rfl, _, _, rfl, rfl, ?_⟩
    refine ⟨.ref b, rfl, _, rfl, b, _, _, _, rfl, rfl, .of hb, hat, by show 0 ≤ sizeLine; decide, fun l nl => ?_⟩
    have s1 := same_upd nl (o := .lst [])
    refine ⟨dI e, .list [], dpI (hI.same s1).sq, .lst (.of upd_same) .nil, shaped_dI e, rfl, _, rfl, ?_⟩
    rw [eqv_nil]
    refine ite2 (fun h => ?_) (fun h => ?_)
    · obtain rfl := of_decide_eq_true h
      exact q _ s1
    have hn : e ≠ [] := fun z => h (decide_eq_true z)
    rw [pw_yes hn] at q
    refine ⟨_, rfl, rfl, _, rfl, ?_⟩
    rw [str_ex]
    have hb1 := s1 _ _ hb
    cases hx : r.1 with
    | true =>
      rw [hx] at q
      refine iteT ⟨.ref b, rfl, _, rfl, b, _, _, _, rfl, rfl, .of hb1, hat, c, _, rfl, .inl (hI.same s1).sq, _, _, rfl, rfl, ?_⟩
      rw [List.length_map]
      exact q _ s1
    | false =>
      rw [hx] at q
      exact iteF ⟨.ref b, rfl, _, rfl, b, _, _, _, rfl, rfl, .of hb1, hat, _, rfl, c, _, _, _, rfl, rfl, (hI.same s1).sq, at_last hn, q _ s1⟩
/-- the powers of a grid, row by row, in a new list -/
def PRow (D : Addr) (H : Hp) (v : V) (row : List (Option Int)) : Prop := ∃ a, v = .ref a ∧ a ≠ D ∧ H a = some (.lst (row.map vI))
def sp_powers_of (K : PySem.W.Frag) : Sp := fun vs H Q _ => ∃ (g : Addr) (rs : List Rw) (many : Nat), vs = [.ref g] ∧ GR K H g rs ∧ VG many rs ∧ many ≤ 16 ∧ ∀ H' p xs, Same H H' → H p = none → H' p = some (.lst xs) → A2 (PRow p H') xs (rs.map fun r => r.2.map (pw r.1)) → Q (.ref p) H'
theorem ok_powers_of (T : Txt K mg) : FnOk P w K mg base CX0 2 T.powers_of.a T.powers_of.fd ["grid"] (sp_powers_of K) := by
  refine T.powers_of.F.ok sc_powers_of (fun vs H Q E h => ?_) (fun cdv A outer s H vs Q E hr h => ?_)
  · obtain ⟨g, rs, many, rfl, _⟩ := h
    rfl
  · obtain ⟨g, rs, many, rfl, hg, vg, hm, q⟩ := h
    obtain ⟨xs, hx, hA⟩ := hg
    have lx := hA.len
    have lr := vg.1
    refine ⟨_, (pss_one (ps_ret (pe_lc (own := [("told", 1)]) rfl sc_powers_of.nd (pi_list (pv 0)) (blkOk_by (N := ["grid", "told", "j"]) (sc := defScope s_powers_of) (by decide +kernel)) (fun _ _ _ _ _ => (pg_name (i := 1) sc_powers_of.nd rfl (.inr rfl))) (fun _ _ _ _ _ => pts_nil) (fun _ _ _ _ _ => (pe_lc (own := [("j", 2)]) rfl sc_powers_of.nd (pi_range1 (by rfl) T.m_range (pa_cons (pe_callB (id := "len") (r := rLenS K) call_lenC (by rfl) T.m_len (by decide +kernel) (pa_cons (pv 0) pa_nil)) pa_nil)) (blkOk_by (N := ["grid", "told", "j"]) (sc := { kind := .function, names := [(".0", .local), ("told", .cell), ("range", .globalImplicit), ("len", .globalImplicit), ("grid", .cell)], isGenerator := false, isCoroutine := false, more := [] }) (by decide +kernel)) (fun _ _ _ _ _ => (pg_name (i := 2) sc_powers_of.nd rfl (.inl rfl))) (fun _ _ _ _ _ => pts_nil) (fun _ _ _ _ _ => (pe_call (ok_power_of T) (hr.mono (by decide)) (by rfl) T.power_of.g T.power_of.F.kp T.power_of.b .nil pass0 (pa_cons (pv 1) (pa_cons (pv 2) pa_nil))))))))), ?_⟩
    refine ⟨.ref g, rfl, g, rfl, ⟨_, .of hx⟩, fun D nD => ?_⟩
    refine lc_fm (walk_list (xs := xs)) rs (fun r => some (r.2.map (pw r.1))) (PRow D) (fun _ _ _ _ s ⟨a, e, n, h⟩ => ⟨a, e, n, s _ _ n h⟩) lx.symm nD (fun H' s => s.seq (.of hx)) (small' (by omega)) (fun i x H' Hx ys r hr2 sm hD y Qt Qf qt qf => ?_) (fun G ys sm hD hR => ?_)
    · obtain ⟨rfl, hxi⟩ := y
      obtain ⟨r', hr', hv⟩ := hA.get hxi
      obtain rfl := Option.some.inj (hr2.symm.trans hr')
      have hx1 := sm _ _ hx
      have lrow := (vg.2 r (mem_at hr2)).1
      refine ⟨rfl, .ref g, rfl, g, _, rfl, .inl (.of hx1), (rs.length : Nat), by rw [lx], by omega, by omega, fun D2 nD2 => ?_⟩
      rw [Int.toNat_natCast]
      refine lc_fm (walk_range (lo := 0) (n := rs.length)) r.2 (fun e => some (pw r.1 e)) (fun _ v o => v = vI o) (fun _ _ _ _ _ z => z) (by omega) nD2 (fun _ _ => trivial) (small' (by omega)) (fun i2 x2 H2 Hx2 ys2 e he sm2 hD2 y2 Qt2 Qf2 qt2 qf2 => ?_) (fun G2 ys2 sm2 hD2 hR2 => ?_)
      · obtain ⟨rfl, rfl⟩ := y2
        refine ⟨rfl, _, rfl, _, rfl, x, r, i2, e, ?_, (hv.lk (lk sm)).lk (lk sm2), he, fun H3 s3 => qt2 _ _ _ rfl s3 rfl⟩
        show [x, V.int (0 + (i2 : Int))] = _
        rw [Int.zero_add]
      · rw [a2_eq hR2, fm_some] at hD2
        exact qt _ _ _ rfl sm2 ⟨D2, rfl, (fun z => by rw [z, hD] at nD2; cases nD2), hD2⟩
    · rw [fm_some] at hR
      exact q _ D ys sm nD hD hR
end
-- R
/-! ### tables, and grids with other rows -/
abbrev Tb := List (List (List Int))
def TbR (H : Hp) (p : Addr) (tab : Tb) : Prop := ∃ as : List Addr, H p = some (.lst (as.map V.ref)) ∧ A2 (RowL H) as tab
theorem TbR.lk {H H' : Hp} {p : Addr} {tab : Tb} (s : Lk H H') (h : TbR H p tab) : TbR H' p tab := let ⟨as, e, r⟩ := h; ⟨as, s.lst e, r.mono fun _ _ z => z.lk s⟩
theorem fold_take {α β : Type} (f : β → α → β) (b : β) {xs : List α} {i : Nat} {x : α} (h : xs[i]? = some x) : (xs.take (i + 1)).foldl f b = f ((xs.take i).foldl f b) x := by
  rw [take_snoc h, List.foldl_append]; rfl
def idxE (rs : List Rw) : List Nat := (List.range rs.length).filter fun i => (rs.getD i (false, [])).1
def exs (rs : List Rw) : Tb := rs.filterMap fun r => if r.1 = true then some r.2 else none
def seE (cur : List Rw) (p : Nat × List (List Int)) : List Rw := cur.set p.1 (true, p.2)
def chgS (rs : List Rw) (lines : Tb) : List Rw := ((idxE rs).zip lines).foldl seE rs
section
variable {P : Program} {w : World} {K : PySem.W.Frag} {mg : Str → Option Value} {base : Heap}
theorem RowL.seq {H : Hp} {a : Addr} {row : List (List Int)} (h : RowL H a row) : ∃ xs : List V, SqL K H a xs ∧ xs.length = row.length := let ⟨as, e, r⟩ := h; ⟨_, .of e, by rw [List.length_map, r.len]⟩
def sp_is_exact (K : PySem.W.Frag) : Sp := fun vs H Q _ => ∃ (v : V) (r : Rw), vs = [v] ∧ RwV K H v r ∧ Q (.bl r.1) H
theorem ok_is_exact (T : Txt K mg) : FnOk P w K mg base CX0 1 T.is_exact.a T.is_exact.fd ["told"] (sp_is_exact K) := by
  refine T.is_exact.F.ok sc_is_exact (fun vs H Q E h => ?_) (fun cdv A outer s H vs Q E hr h => ?_)
  · obtain ⟨v, r, rfl, _⟩ := h
    rfl
  · obtain ⟨v, r, rfl, ⟨t, b, rfl, ht, hb⟩, q⟩ := h
    refine ⟨_, (pss_one (ps_ret (pe_cmpR op_eq (pe_ix ix_tup (pv 0) pe_int (fun _ _ => rfl)) pe_str (nomark _)))), ?_⟩
    refine ⟨.ref t, rfl, t, _, _, _, rfl, rfl, ht, rfl, rfl, ?_⟩
    rw [str_ex]
    exact q
theorem idx_step {rs : List Rw} {i : Nat} {r : Rw} (h : rs[i]? = some r) : (List.range (i + 1)).filter (fun i => (rs.getD i (false, [])).1) = (List.range i).filter (fun i => (rs.getD i (false, [])).1) ++ if r.1 = true then [i] else [] := by
  rw [List.range_succ, List.filter_append]
  have e : (rs.getD i (false, [])).1 = r.1 := by rw [List.getD_eq_getElem?_getD, h]; rfl
  show _ ++ List.filter _ [i] = _
  rw [List.filter_cons, e]
  cases r.1 <;> rfl
def sp_exact_indexes (K : PySem.W.Frag) : Sp := fun vs H Q _ => ∃ (g : Addr) (rs : List Rw), vs = [.ref g] ∧ GR K H g rs ∧ rs.length ≤ 16 ∧ ∀ H' p, Same H H' → H p = none → H' p = some (.lst ((idxE rs).map fun i => V.int (i : Nat))) → Q (.ref p) H'
theorem ok_exact_indexes (T : Txt K mg) : FnOk P w K mg base CX0 2 T.exact_indexes.a T.exact_indexes.fd ["grid"] (sp_exact_indexes K) := by
  refine T.exact_indexes.F.ok sc_exact_indexes (fun vs H Q E h => ?_) (fun cdv A outer s H vs Q E hr h => ?_)
  · obtain ⟨g, rs, rfl, _⟩ := h
    rfl
  · obtain ⟨g, rs, rfl, hg, hl, q⟩ := h
    obtain ⟨xs, hx, hA⟩ := hg
    have lx := hA.len
    refine ⟨_, (pss_one (ps_ret (pe_lc (own := [("i", 1), ("told", 2)]) (g := gTup K 2 (gCons (gName 1) (gCons (gName 2) gNil))) rfl sc_exact_indexes.nd (pi_enum (by rfl) T.m_enumerate (pa_cons (pv 0) pa_nil)) (blkOk_by (N := ["grid", "i", "told"]) (sc := defScope s_exact_indexes) (by decide +kernel)) (fun _ _ _ _ _ => (pg_tup rfl (pgs_cons (pg_name (i := 1) sc_exact_indexes.nd rfl (.inl rfl)) (pgs_cons (pg_name (i := 2) sc_exact_indexes.nd rfl (.inl rfl)) pgs_nil)))) (fun _ _ _ _ _ => (pts_one (pt_val (pe_call (ok_is_exact T) (hr.mono (by decide)) (by rfl) T.is_exact.g T.is_exact.F.kp T.is_exact.b .nil pass0 (pa_cons (pv 2) pa_nil))))) (fun _ _ _ _ _ => (pv 1))))), ?_⟩
    refine ⟨.ref g, rfl, g, _, rfl, .of hx, fun D nD => ?_⟩
    refine lc_inv (walk_enum (xs := xs)) (fun i G ys => ys = ((List.range i).filter fun i => (rs.getD i (false, [])).1).map fun i => V.int (i : Nat)) nD (fun H' s => s.seq (.of hx)) (small' (by omega)) rfl (fun i x G Hx ys hi sm hD hR y Qt Qf qt qf => ?_) (fun G ys sm hD hR => ?_)
    · obtain ⟨T', i', x', rfl, nT, rfl, e1, hx'⟩ := y
      obtain rfl := Option.some.inj e1
      obtain ⟨r, hr2, hV⟩ := hA.get hx'
      have s1 := same_upd nT (o := .tup [V.int (i : Nat), x'])
      refine ⟨T', _, rfl, .of upd_same, rfl, _, _, rfl, _, _, rfl, rfl, rfl, x', rfl, x', r, rfl, hV.lk (K46.lk (sm.trans s1)), _, rfl, ?_⟩
      have st := idx_step hr2
      cases e : r.1 with
      | true =>
        refine iteT ⟨_, rfl, qt _ _ s1 ?_⟩
        rw [st, e, hR, List.map_append]; rfl
      | false =>
        refine iteF (qf _ s1 ?_)
        rw [st, e, hR]
        show _ = List.map _ (_ ++ [])
        rw [List.append_nil]
    · refine q G D sm nD ?_
      rw [hD, hR, lx]; rfl
/-- a row handed back, all of it new -/
def RF (H0 H : Hp) (v : V) (r : Rw) : Prop := ∃ t b, v = .ref t ∧ H0 t = none ∧ H0 b = none ∧ H t = some (.tup [.str (kS r.1), .ref b]) ∧ RowF H0 H b r.2
def sp_copied (K : PySem.W.Frag) : Sp := fun vs H Q _ => ∃ (v : V) (r : Rw), vs = [v] ∧ RwV K H v r ∧ r.2.length ≤ 16 ∧ ∀ H' u, Same H H' → RF H H' u r → Q u H'
theorem ok_copied (T : Txt K mg) : FnOk P w K mg base CX0 1 T.copied.a T.copied.fd ["told"] (sp_copied K) := by
  refine T.copied.F.ok sc_copied (fun vs H Q E h => ?_) (fun cdv A outer s H vs Q E hr h => ?_)
  · obtain ⟨v, r, rfl, _⟩ := h
    rfl
  · obtain ⟨v, r, rfl, ⟨t, b, rfl, ht, as, hb, hA⟩, hl, q⟩ := h
    have la := hA.len
    refine ⟨_, (pss_cons (ps_asg (pv 0) (pg_tup rfl (pgs_cons (pg_name (i := 1) sc_copied.nd rfl (.inl rfl)) (pgs_cons (pg_name (i := 2) sc_copied.nd rfl (.inl rfl)) pgs_nil))))
      (pss_one (ps_ret (pe_tup (pa_cons (pv 1) (pa_cons (pe_lc (own := [("one", 3)]) rfl sc_copied.nd (pi_list (pv 2)) (blkOk_by (N := ["told", "kind", "row", "one"]) (sc := defScope s_copied) (by decide +kernel)) (fun _ _ _ _ _ => (pg_name (i := 3) sc_copied.nd rfl (.inl rfl))) (fun _ _ _ _ _ => pts_nil) (fun _ _ _ _ _ => (pe_callTy (T := "list") (r := rListC K) call_listC (by rfl) T.m_list (by decide +kernel) (pa_cons (pv 3) pa_nil)))) pa_nil)))))), ?_⟩
    refine ⟨.ref t, rfl, t, _, rfl, ht, rfl, _, _, rfl, _, _, rfl, rfl, ?_⟩
    refine ⟨_, rfl, .ref b, rfl, b, rfl, ⟨_, .of hb⟩, fun D nD => ?_⟩
    refine lc_inv (walk_list (xs := as.map V.ref)) (fun i G ys => ∃ cs : List Addr, ys = cs.map V.ref ∧ RN D H G cs (r.2.take i)) nD (fun H' s => s.seq (.of hb)) (small' (by rw [List.length_map]; omega)) ⟨[], rfl, .nil⟩ (fun i x G Hx ys hi sm hD hR y Qt Qf qt qf => ?_) (fun G ys sm hD hR => ?_)
    · obtain ⟨rfl, hx⟩ := y
      obtain ⟨c, hc, rfl⟩ := row_ref hx
      obtain ⟨e, he, hI⟩ := hA.get hc
      obtain ⟨cs, rfl, hrn⟩ := hR
      refine ⟨rfl, .ref c, rfl, c, _, rfl, .inl (hI.same sm).sq, fun n nn => ?_⟩
      have s1 := same_upd nn (o := .lst (e.map V.int))
      have nD2 : n ≠ D := fun z => by rw [z, hD] at nn; cases nn
      refine qt _ _ s1 ⟨cs ++ [n], by rw [List.map_append]; rfl, ?_⟩
      rw [take_snoc he]
      exact hrn.snoc s1 nD2 (sm.free nn) upd_same
    · obtain ⟨cs, rfl, hrn⟩ := hR
      rw [List.take_of_length_le (by rw [List.length_map]; omega)] at hrn
      refine ⟨by show 2 ≤ sizeLine; decide, fun u nu => ?_⟩
      have s1 := same_upd nu (o := .tup [.str (kS r.1), .ref D])
      refine q _ _ (sm.trans s1) ⟨u, D, rfl, sm.free nu, nD, upd_same, cs, s1 _ _ hD, hrn.mono fun _ _ z => ⟨z.1.2, z.2.same s1⟩⟩
def RFD (D : Addr) (H0 H : Hp) (v : V) (r : Rw) : Prop := ∃ (t b : Addr) (as : List Addr), v = .ref t ∧ (t ≠ D ∧ H0 t = none) ∧ (b ≠ D ∧ H0 b = none) ∧ H t = some (.tup [.str (kS r.1), .ref b]) ∧ H b = some (.lst (as.map V.ref)) ∧ RN D H0 H as r.2
theorem RFD.up {D : Addr} {H0 H H' : Hp} {v : V} {r : Rw} (h : RFD D H0 H v r) (s : SameX D H H') : RFD D H0 H' v r := let ⟨t, b, as, e, nt, nb, ht, hb, hr⟩ := h; ⟨t, b, as, e, nt, nb, s _ _ nt.1 ht, s _ _ nb.1 hb, hr.up s⟩
theorem RFD.of {D : Addr} {H0 Hx H' : Hp} {v : V} {r : Rw} (s : Same H0 Hx) (hD : Hx D ≠ none) (h : RF Hx H' v r) : RFD D H0 H' v r := by
  obtain ⟨t, b, e, nt, nb, ht, as, hb, hA⟩ := h
  have nD : ∀ {c : Addr}, Hx c = none → c ≠ D ∧ H0 c = none := fun {c} z => ⟨fun y => hD (y ▸ z), s.free z⟩
  exact ⟨t, b, as, e, nD nt, nD nb, ht, hb, hA.mono fun _ _ z => ⟨nD z.1, z.2⟩⟩
theorem RFD.rf {D : Addr} {H0 H : Hp} {v : V} {r : Rw} (h : RFD D H0 H v r) : RF H0 H v r := let ⟨t, b, as, e, nt, nb, ht, hb, hr⟩ := h; ⟨t, b, e, nt.2, nb.2, ht, as, hb, hr.mono fun _ _ z => ⟨z.1.2, z.2⟩⟩
theorem same_x {D : Addr} {H G0 G : Hp} (s : Same H G0) (x : SameX D G0 G) (n : H D = none) : Same H G := fun c o h => x c o (fun z => by rw [z, n] at h; cases h) (s c o h)
theorem seE_len (rs : List Rw) (ps : List (Nat × List (List Int))) : (ps.foldl seE rs).length = rs.length := by
  induction ps generalizing rs with
  | nil => rfl
  | cons p r ih => rw [List.foldl_cons, ih]; exact List.length_set
def sp_with_exact (K : PySem.W.Frag) : Sp := fun vs H Q _ => ∃ (g b : Addr) (rs : List Rw) (lines : Tb), vs = [.ref g, .ref b] ∧ GR K H g rs ∧ rs.length ≤ 16 ∧ (∀ r ∈ rs, r.2.length ≤ 16) ∧ TbR H b lines ∧ (∀ l ∈ lines, l.length ≤ 16) ∧ lines.length ≤ 16 ∧
  ∀ H' p xs, Same H H' → H p = none → H' p = some (.lst xs) → A2 (RFD p H H') xs (chgS rs lines) → Q (.ref p) H'
theorem ok_with_exact (T : Txt K mg) : FnOk P w K mg base CX0 3 T.with_exact.a T.with_exact.fd ["grid", "table"] (sp_with_exact K) := by
  refine T.with_exact.F.ok sc_with_exact (fun vs H Q E h => ?_) (fun cdv A outer s H vs Q E hr h => ?_)
  · obtain ⟨g, b, rs, lines, rfl, _⟩ := h
    rfl
  · obtain ⟨g, b, rs, lines, rfl, hg, hl, hr16, hb, hll, hll2, q⟩ := h
    have hgr := hg
    obtain ⟨xs, hx, hA⟩ := hg
    obtain ⟨bs, hbl, hB⟩ := hb
    have lx := hA.len
    have lb := hB.len
    refine ⟨_, (pss_cons (ps_setLc (i := 2) (own := [("told", 5)]) rfl sc_with_exact.nd rfl rfl (sw_true rfl rfl rfl (by decide +kernel)) (pi_list (pv 0)) (blkOk_by (N := ["grid", "table", "found", "i", "row", "told"]) (sc := defScope s_with_exact) (by decide +kernel)) (fun _ _ _ _ _ => (pg_name (i := 5) sc_with_exact.nd rfl (.inl rfl))) (fun _ _ _ _ _ => pts_nil) (fun _ _ _ _ _ => (pe_call (ok_copied T) (hr.mono (by decide)) (by rfl) T.copied.g T.copied.F.kp T.copied.b .nil pass0 (pa_cons (pv 5) pa_nil))))
      (pss_cons (ps_for PassesOwn.never rfl (pi_zip (by rfl) T.m_zip (pa_cons (pe_call (ok_exact_indexes T) (hr.mono (by decide)) (by rfl) T.exact_indexes.g T.exact_indexes.F.kp T.exact_indexes.b .nil pass0 (pa_cons (pv 0) pa_nil)) (pa_cons (pv 1) pa_nil))) (pg_tup rfl (pgs_cons (pg_name (i := 3) sc_with_exact.nd rfl (.inl rfl)) (pgs_cons (pg_name (i := 4) sc_with_exact.nd rfl (.inl rfl)) pgs_nil)))
        (pss_one (ps_asg (pe_call (ok_copied T) (hr.mono (by decide)) (by rfl) T.copied.g T.copied.F.kp T.copied.b .nil pass0 (pa_cons (pe_tup (pa_cons pe_str (pa_cons (pv 4) pa_nil))) pa_nil)) (pg_sub (pv 2) (pv 3) set_list))))
      (pss_one (ps_ret (pv 2))))), ?_⟩
    refine ⟨.ref g, rfl, g, rfl, ⟨_, .of hx⟩, fun D nD => ?_⟩
    refine lc_inv (walk_list (xs := xs)) (fun i G ys => A2 (RFD D H G) ys (rs.take i)) nD (fun H' s => s.seq (.of hx)) (small' (by omega)) .nil (fun i x G Hx ys hi sm hD hR y Qt Qf qt qf => ?_) (fun G ys s1 hD hR => ?_)
    · obtain ⟨rfl, hxi⟩ := y
      obtain ⟨r, hr2, hV⟩ := hA.get hxi
      refine ⟨rfl, _, rfl, x, r, rfl, hV.lk (K46.lk sm), hr16 r (mem_at hr2), fun G2 u s2 hF => ?_⟩
      refine qt _ _ s2 ?_
      rw [take_snoc hr2]
      exact A2.snoc ((RFD.of sm (by rw [hD]; exact fun z => nomatch z) hF).up SameX.put) (hR.mono fun _ _ z => z.up ((sx s2).trans SameX.put))
    rw [List.take_of_length_le (by omega)] at hR
    refine ⟨.ref g, rfl, g, rs, rfl, hgr.lk (K46.lk s1), hl, fun G0 I s2 nI hI => ?_⟩
    have s02 := s1.trans s2
    refine ⟨.ref b, rfl, I, b, _, _, rfl, .of hI, .of (s02 _ _ hbl), ?_⟩
    have ID : I ≠ D := fun z => by rw [z, hD] at nI; cases nI
    have bD : b ≠ D := fun z => by rw [z, nD] at hbl; cases hbl
    refine for_it (walk_zip (xs := (idxE rs).map fun i => V.int (i : Nat)) (ys := bs.map V.ref) rfl) (fun i σ G => SameX D G0 G ∧ ∃ (zs : List V) (v3 v4 v5 : Option V), σ = [some (.ref g), some (.ref b), some (.ref D), v3, v4, v5] ∧ G D = some (.lst zs) ∧ A2 (RFD D H G) zs ((((idxE rs).zip lines).take i).foldl seE rs)) ⟨fun c o _ h => h, ys, none, none, _, rfl, s2 _ _ hD, hR.mono fun _ _ z => z.up (sx s2)⟩ (fun i σ G _ hP => ⟨.of (hP.1 _ _ ID hI), .of (hP.1 _ _ bD (s02 _ _ hbl))⟩) (fun i x σ G Gx hi hP y => ?_) (fun σ G hP => ?_)
    · obtain ⟨sm, zs, v3, v4, v5, rfl, hDz, hZ⟩ := hP
      obtain ⟨T', i', x', rfl, nT, rfl, e1, e2⟩ := y
      have sH := same_x s02 sm nD
      have e1 : ((idxE rs).map fun i => V.int (i : Nat))[i]? = some i' := e1
      rw [List.getElem?_map] at e1
      obtain ⟨j, hj, rfl⟩ : ∃ j, (idxE rs)[i]? = some j ∧ i' = V.int (j : Nat) := by
        cases e : (idxE rs)[i]? with
        | none => rw [e] at e1; cases e1
        | some j => rw [e] at e1; exact ⟨j, rfl, (Option.some.inj e1).symm⟩
      obtain ⟨c, hc, rfl⟩ := row_ref e2
      obtain ⟨line, hline, hL⟩ := hB.get hc
      have jl : j < rs.length := List.mem_range.mp (List.mem_filter.mp (mem_at hj)).1
      have s3 := same_upd nT (o := .tup [V.int (j : Nat), V.ref c])
      have zp : ((idxE rs).zip lines)[i]? = some (j, line) := by
        rw [List.getElem?_zip_eq_some]
        exact ⟨hj, hline⟩
      refine ⟨T', _, rfl, .of upd_same, rfl, _, _, rfl, _, _, rfl, rfl, ?_⟩
      refine ⟨_, rfl, by show 2 ≤ sizeLine; decide, fun t nt => ?_⟩
      have s4 := s3.trans (same_upd nt (o := .tup [.str "exact", V.ref c]))
      refine ⟨.ref t, (true, line), rfl, ⟨t, c, rfl, .inl (.inl upd_same), hL.same (sH.trans s4)⟩, hll _ (mem_at hline), fun G2 u s5 hF => ?_⟩
      have s6 := s4.trans s5
      have hD6 := s6 _ _ hDz
      have lz := hZ.len
      rw [seE_len] at lz
      refine ⟨.ref D, rfl, _, rfl, D, _, _, j, rfl, rfl, hD6, ix_ok rfl (by omega), ?_⟩
      refine ⟨(sm.trans (sx s6)).trans SameX.put, _, _, _, _, rfl, upd_same, ?_⟩
      rw [fold_take _ _ zp]
      refine A2.set ((RFD.of (sH.trans s4) (by rw [s4 _ _ hDz]; exact fun z => nomatch z) hF).up SameX.put) (hZ.mono fun _ _ z => z.up ((sx s6).trans SameX.put)) j
    · obtain ⟨sm, zs, v3, v4, v5, rfl, hDz, hZ⟩ := hP
      refine ⟨.ref D, rfl, q G D zs (same_x s02 sm nD) nD hDz ?_⟩
      rw [List.take_of_length_le (by rw [List.length_zip, List.length_map, List.length_map, lb]; exact Nat.le_refl _)] at hZ
      exact hZ
/-- the rows of a new table -/
def TRow (D : Addr) (H0 H : Hp) (v : V) (row : List (List Int)) : Prop := ∃ (a : Addr) (as : List Addr), v = .ref a ∧ (a ≠ D ∧ H0 a = none) ∧ H a = some (.lst (as.map V.ref)) ∧ RN D H0 H as row
theorem TRow.up {D : Addr} {H0 H H' : Hp} {v : V} {row : List (List Int)} (s : SameX D H H') (h : TRow D H0 H v row) : TRow D H0 H' v row := let ⟨a, as, e, n, ha, r⟩ := h; ⟨a, as, e, n, s _ _ n.1 ha, r.up s⟩
theorem TRow.rowL {D : Addr} {H0 H : Hp} {v : V} {row : List (List Int)} (z : TRow D H0 H v row) : ∃ a, v = V.ref a ∧ RowL H a row := let ⟨a, as, e, _, ha, r⟩ := z; ⟨a, e, as, ha, r.mono fun _ _ y => y.2⟩
theorem TbR.of {D : Addr} {H0 H : Hp} {ys : List V} {tab : Tb} (hD : H D = some (.lst ys)) (h : A2 (TRow D H0 H) ys tab) : TbR H D tab := by
  obtain ⟨as, rfl, r⟩ := a2_ref (h.mono fun v row (z : TRow D H0 H v row) => z.rowL)
  exact ⟨as, hD, r⟩
def sp_exact_rows (K : PySem.W.Frag) : Sp := fun vs H Q _ => ∃ (g : Addr) (rs : List Rw), vs = [.ref g] ∧ GR K H g rs ∧ rs.length ≤ 16 ∧ (∀ r ∈ rs, r.2.length ≤ 16) ∧ ∀ H' p ys, Same H H' → H p = none → H' p = some (.lst ys) → A2 (TRow p H H') ys (exs rs) → Q (.ref p) H'
theorem ok_exact_rows (T : Txt K mg) : FnOk P w K mg base CX0 1 T.exact_rows.a T.exact_rows.fd ["grid"] (sp_exact_rows K) := by
  refine T.exact_rows.F.ok sc_exact_rows (fun vs H Q E h => ?_) (fun cdv A outer s H vs Q E hr h => ?_)
  · obtain ⟨g, rs, rfl, _⟩ := h
    rfl
  · obtain ⟨g, rs, rfl, hg, hl, hr16, q⟩ := h
    obtain ⟨xs, hx, hA⟩ := hg
    have lx := hA.len
    refine ⟨_, (pss_one (ps_ret (pe_lc (own := [("kind", 1), ("row", 2)]) (g := gTup K 2 (gCons (gName 1) (gCons (gName 2) gNil))) rfl sc_exact_rows.nd (pi_list (pv 0)) (blkOk_by (N := ["grid", "kind", "row", "one"]) (sc := defScope s_exact_rows) (by decide +kernel)) (fun _ _ _ _ _ => (pg_tup rfl (pgs_cons (pg_name (i := 1) sc_exact_rows.nd rfl (.inl rfl)) (pgs_cons (pg_name (i := 2) sc_exact_rows.nd rfl (.inl rfl)) pgs_nil)))) (fun _ _ _ _ _ => (pts_one (pt_cmpR op_eq (pv 1) pe_str (nomark _)))) (fun _ _ _ _ _ => (pe_lc (wi := iList K _) (own := [("one", 3)]) rfl sc_exact_rows.nd (pi_list (pv 2)) (blkOk_by (N := ["grid", "kind", "row", "one"]) (sc := { kind := .function, names := [(".0", .local), ("kind", .local), ("row", .local)], isGenerator := false, isCoroutine := false, more := [] }) (by decide +kernel)) (fun _ _ _ _ _ => (pg_name (i := 3) sc_exact_rows.nd rfl (.inl rfl))) (fun _ _ _ _ _ => pts_nil) (fun _ _ _ _ _ => (pe_callTy (T := "list") (r := rListC K) call_listC (by rfl) T.m_list (by decide +kernel) (pa_cons (pv 3) pa_nil)))))))), ?_⟩
    refine ⟨.ref g, rfl, g, rfl, ⟨_, .of hx⟩, fun D nD => ?_⟩
    refine lc_fm (walk_list (xs := xs)) rs (fun r => if r.1 = true then some r.2 else none) (TRow D H) (fun _ _ _ _ s h => h.up s) lx.symm nD (fun H' s => s.seq (.of hx)) (small' (by omega)) (fun i x H' Hx ys r hr2 sm hD y Qt Qf qt qf => ?_) (fun G ys sm hD hR => ?_)
    · obtain ⟨rfl, hxi⟩ := y
      obtain ⟨r', hr', hV⟩ := hA.get hxi
      obtain rfl := Option.some.inj (hr2.symm.trans hr')
      obtain ⟨t, b, rfl, ht, as, hb, hE⟩ := hV.lk (K46.lk sm)
      have la := hE.len
      have l16 := hr16 r (mem_at hr2)
      refine ⟨t, _, rfl, ht, rfl, _, _, rfl, _, _, rfl, rfl, rfl, _, rfl, rfl, _, rfl, ?_⟩
      rw [str_ex]
      cases e : r.1 with
      | false => exact iteF (qf (by rw [e]; rfl) _ (Same.refl _))
      | true =>
        refine iteT ⟨.ref b, rfl, b, rfl, ⟨_, .of hb⟩, fun D2 nD2 => ?_⟩
        refine lc_inv (walk_list (xs := as.map V.ref)) (fun i G ys => ∃ cs : List Addr, ys = cs.map V.ref ∧ RN D2 Hx G cs (r.2.take i)) nD2 (fun H' s => s.seq (.of hb)) (small' (by rw [List.length_map]; omega)) ⟨[], rfl, .nil⟩ (fun i2 x2 G2 Hx2 ys2 hi2 sm2 hD2 hR2 y2 Qt2 Qf2 qt2 qf2 => ?_) (fun G2 ys2 sm2 hD2 hR2 => ?_)
        · obtain ⟨rfl, hx2⟩ := y2
          obtain ⟨c, hc, rfl⟩ := row_ref hx2
          obtain ⟨el, he, hI⟩ := hE.get hc
          obtain ⟨cs, rfl, hrn⟩ := hR2
          refine ⟨rfl, .ref c, rfl, c, _, rfl, .inl (hI.same sm2).sq, fun n nn => ?_⟩
          have s1 := same_upd nn (o := .lst (el.map V.int))
          have nD3 : n ≠ D2 := fun z => by rw [z, hD2] at nn; cases nn
          refine qt2 _ _ s1 ⟨cs ++ [n], by rw [List.map_append]; rfl, ?_⟩
          rw [take_snoc he]
          exact hrn.snoc s1 nD3 (sm2.free nn) upd_same
        · obtain ⟨cs, rfl, hrn⟩ := hR2
          rw [List.take_of_length_le (by rw [List.length_map]; omega)] at hrn
          have off : ∀ {c : Addr}, Hx c = none → c ≠ D := fun {c} z y => by rw [y, hD] at z; cases z
          exact qt _ _ r.2 (by rw [e]; rfl) sm2 ⟨D2, cs, rfl, ⟨off nD2, sm.free nD2⟩, hD2, hrn.mono fun _ _ z => ⟨⟨off z.1.2, sm.free z.1.2⟩, z.2⟩⟩
    · exact q G D ys sm nD hD hR
end
-- P
section
variable {P : Program} {w : World} {K : PySem.W.Frag} {mg : Str → Option Value} {base : Heap}
/-! ### the errors -/
theorem len_app (a b : Str) : (a ++ b).length = a.length + b.length := by
  show (a.cps ++ b.cps).size = a.cps.size + b.cps.size
  exact Array.size_append
theorem small2 {x : Nat} (h : x ≤ 2000) : x ≤ sizeLine := Nat.le_trans h (by decide)
def sp_wording : Sp := fun vs H Q _ => ∃ (nm : Str) (i : Int), vs = [.str nm, .int i] ∧ nm.length ≤ 1000 ∧ i.natAbs < 10 ^ 12 ∧ ∀ t : Str, Q (.str t) H
theorem ok_wording (T : Txt K mg) : FnOk P w K mg base CX0 1 T.wording.a T.wording.fd ["name", "at"] sp_wording := by
  refine T.wording.F.ok sc_wording (fun vs H Q E h => ?_) (fun cdv A outer s H vs Q E hr h => ?_)
  · obtain ⟨nm, i, rfl, _⟩ := h
    rfl
  · obtain ⟨nm, i, rfl, hn, h1, q⟩ := h
    refine ⟨_, (pss_cons (ps_if (pt_cmpR op_gt (pe_bits (pv 1)) pe_int (nomark _))
        (pss_one (ps_ret (pe_joined (.cons (pe_fmt (pv 0)) (.cons pe_str (.cons (pe_fmt (pe_bits (pv 1))) (.cons pe_str .nil)))))))
        pss_nil)
      (pss_one (ps_ret (pe_joined (.cons (pe_fmt (pv 0)) (.cons pe_str (.cons (pe_fmt (pv 1)) .nil))))))), ?_⟩
    have e : i.natAbs < 2 ^ 40 := Nat.lt_of_lt_of_le h1 (by decide)
    have hb := LX.bits_le e
    refine ⟨_, rfl, i, rfl, _, _, rfl, rfl, _, rfl, ?_⟩
    rw [decide_eq_false (by omega)]
    have lt : (Str.ofString (toString i)).length ≤ 13 := LX.text_len (by decide) h1
    refine iteF ⟨_, rfl, .inl ⟨nm, rfl, small2 (by omega), nm, rfl, ?_, _, rfl, ?_, _, rfl, .inr ⟨i, rfl, ?_, _, rfl, ?_, q _⟩⟩⟩
    · rw [len_app]; exact small2 (by show 0 + _ ≤ _; omega)
    · rw [len_app, len_app]; exact small2 (by show 0 + _ + 4 ≤ _; omega)
    · exact Nat.lt_of_lt_of_le (PySem.Flt.log2_lt_of (by decide) e) (by decide)
    · rw [len_app, len_app, len_app]; exact small2 (by show 0 + _ + 4 + _ ≤ _; omega)
theorem ok_init (T : Txt K mg) (X : Errs K mg) : FnOk P w K mg base CX0 2 X.e0.f X.e0.fd ["self", "at"] (LX.sp_init K) := by
  refine X.e0.F.ok sc_init (fun vs H Q E h => ?_) (fun cdv A outer s H vs Q E hr h => ?_)
  · obtain ⟨e, C, nm, i, rfl, _⟩ := h
    rfl
  · obtain ⟨e, C, nm, i, rfl, he, hn, ho, na, h1, q⟩ := h
    refine ⟨_, pss_cons (ps_expr (pe_veinit (by rfl) X.e0.mV X.e0.vV (pa_cons (pv 0) (pa_cons (pe_call (ok_wording T) (hr.mono (by decide)) (by rfl) T.wording.g T.wording.F.kp T.wording.b .nil pass0 (pa_cons (LX.pe_cn (pv 0)) (pa_cons (pv 1) pa_nil))) pa_nil))))
      (pss_one (ps_ost (pv 0) (pv 1))), ?_⟩
    refine ⟨.ref e, rfl, .ref e, rfl, e, C, nm, rfl, he, hn, _, rfl, nm, i, rfl, hn.sz, h1, fun t => ⟨e, C, _, rfl, by show 1 ≤ 1000; decide, ho, he, ?_⟩⟩
    exact ⟨_, rfl, .ref e, rfl, e, C, rfl, ho, na, .inl ⟨he, fun d hd ne => q d hd ne⟩⟩
end
-- S
theorem cut_headV {xs : List V} {m : Nat} (h : m ≤ xs.length) : cutV xs none (some (m : Int)) = xs.take m := by
  unfold cutV
  rw [HT.sIx_none, HT.sIx_nat, List.drop_zero, Nat.min_eq_left h, Nat.sub_zero]
theorem cut_tailV {xs : List V} {m : Nat} (h : m ≤ xs.length) : cutV xs (some (m : Int)) none = xs.drop m := by
  unfold cutV
  rw [HT.sIx_none, HT.sIx_nat, Nat.min_eq_left h, List.take_of_length_le (by rw [List.length_drop]; exact Nat.le_refl _)]
theorem A2.take {α β : Type} {R : α → β → Prop} : ∀ {as : List α} {bs : List β} (i : Nat), A2 R as bs → A2 R (as.take i) (bs.take i)
  | _, _, 0, _ => .nil
  | _, _, _ + 1, .nil => .nil
  | _, _, i + 1, .cons h t => .cons h (A2.take i t)
theorem A2.drop {α β : Type} {R : α → β → Prop} : ∀ {as : List α} {bs : List β} (i : Nat), A2 R as bs → A2 R (as.drop i) (bs.drop i)
  | _, _, 0, h => h
  | _, _, _ + 1, .nil => .nil
  | _, _, i + 1, .cons _ t => A2.drop i t
theorem A2.app {α β : Type} {R : α → β → Prop} : ∀ {as as2 : List α} {bs bs2 : List β}, A2 R as bs → A2 R as2 bs2 → A2 R (as ++ as2) (bs ++ bs2)
  | _, _, _, _, .nil, h => h
  | _, _, _, _, .cons h t, h2 => .cons h (A2.app t h2)
/-- a row, a grid without one -/
def cutL {α : Type} (i : Nat) (xs : List α) : List α := xs.take i ++ xs.drop (i + 1)
def woR (j : Nat) (r : Rw) : Rw := (r.1, cutL j r.2)
def wo (rs : List Rw) (i j : Nat) : List Rw := (cutL i rs).map (woR j)
section
variable {P : Program} {w : World} {K : PySem.W.Frag} {mg : Str → Option Value} {base : Heap}
def sp_without (K : PySem.W.Frag) (C1 C2 : Addr) : Sp := fun vs H Q E => ∃ (g : Addr) (rs : List Rw) (many : Nat) (i j : Int), vs = [.ref g, .int i, .int j] ∧ GR K H g rs ∧ VG many rs ∧ many ≤ 16 ∧ i.natAbs < 10 ^ 12 ∧ j.natAbs < 10 ^ 12 ∧
  (¬ (0 ≤ i ∧ i < many) → ∀ dd, H dd = none → E (.ref C1) (some dd) (upd H dd (.xd [("at", .int i)]))) ∧
  (0 ≤ i ∧ i < many → ¬ (0 ≤ j ∧ j < many) → ∀ dd, H dd = none → E (.ref C2) (some dd) (upd H dd (.xd [("at", .int j)]))) ∧
  (0 ≤ i ∧ i < many → 0 ≤ j ∧ j < many → ∀ H' p xs, Same H H' → H p = none → H' p = some (.lst xs) → A2 (RF H H') xs (wo rs i.toNat j.toNat) → Q (.ref p) H')
theorem ok_without (T : Txt K mg) (X : Errs K mg) : FnOk P w K mg base (L2.CX P w) 4 T.without.a T.without.fd ["grid", "i", "j"] (sp_without K X.NoLaw.C X.NoQuantity.C) := by
  refine T.without.F.okX sc_without (fun vs H Q E h => ?_) (fun cdv A outer s H vs Q E hr h => ?_)
  · obtain ⟨g, rs, many, i, j, rfl, _⟩ := h
    rfl
  · obtain ⟨g, rs, many, i, j, rfl, hg, vg, hm, hi, hj, e1, e2, q⟩ := h
    obtain ⟨xs, hx, hA⟩ := hg
    have lx := hA.len
    have lr := vg.1
    refine ⟨_, (pss_cons (ps_set (i := 3) sc_without.nd rfl (.inl rfl) (pe_callB call_len_seq (by rfl) T.m_len (by decide +kernel) (pa_cons (pv 0) pa_nil)))
      (pss_cons (ps_if (pt_not (pt_chain op_le op_lt pe_int (pv 1) (pv 3)))
        (pss_one (ps_raise rfl (takes_of rfl rfl rfl rfl) (pmk_oex X.NoLaw.oex X.NoLaw.iC X.e0.tI (ok_init T X) (hr.mono (by decide)) X.e0.b .nil pass0 (by rfl) X.NoLaw.g (pa_cons (pv 1) pa_nil))))
        pss_nil)
      (pss_cons (ps_if (pt_not (pt_chain op_le op_lt pe_int (pv 2) (pv 3)))
        (pss_one (ps_raise rfl (takes_of rfl rfl rfl rfl) (pmk_oex X.NoQuantity.oex X.NoQuantity.iC X.e0.tI (ok_init T X) (hr.mono (by decide)) X.e0.b .nil pass0 (by rfl) X.NoQuantity.g (pa_cons (pv 2) pa_nil))))
        pss_nil)
      (pss_cons (ps_set (i := 4) sc_without.nd rfl (.inl rfl) (pe_lst pa_nil))
      (pss_cons (ps_for (passes_of rfl) rfl (pi_list (pe_op op_cat (pe_slice sl_list (pv 0) po_none (po_some (pv 1))) (pe_slice sl_list (pv 0) (po_some (pe_op op_add (pv 1) pe_int)) po_none))) (pg_tup rfl (pgs_cons (pg_name (i := 5) sc_without.nd rfl (.inl rfl)) (pgs_cons (pg_name (i := 6) sc_without.nd rfl (.inl rfl)) pgs_nil)))
        (pss_one (ps_expr (pe_bm PySem.F.plainAttrs_list PySem.F.slot_list_append PySem.F.type_list_append mt_append (pv 4) (pa_cons (pe_call (ok_copied T) (hr.mono (by decide)) (by rfl) T.copied.g T.copied.F.kp T.copied.b .nil pass0 (pa_cons (pe_tup (pa_cons (pv 5) (pa_cons (pe_op op_cat (pe_slice sl_list (pv 6) po_none (po_some (pv 2))) (pe_slice sl_list (pv 6) (po_some (pe_op op_add (pv 2) pe_int)) po_none)) pa_nil))) pa_nil)) pa_nil)))))
      (pss_one (ps_ret (pv 4)))))))), ?_⟩
    refine ⟨.ref g, rfl, g, _, rfl, .inl (.of hx), ?_⟩
    rw [lx, lr]
    refine ⟨_, rfl, _, _, rfl, rfl, _, rfl, ?_⟩
    by_cases i0 : 0 ≤ i
    · rw [decide_eq_true i0]
      refine iteT ⟨_, rfl, _, _, rfl, rfl, _, rfl, ?_⟩
      by_cases i1 : i < (many : Nat)
      · rw [decide_eq_true i1]
        refine iteF ?_
        refine ⟨_, rfl, _, _, rfl, rfl, _, rfl, ?_⟩
        by_cases j0 : 0 ≤ j
        · rw [decide_eq_true j0]
          refine iteT ⟨_, rfl, _, _, rfl, rfl, _, rfl, ?_⟩
          by_cases j1 : j < (many : Nat)
          · rw [decide_eq_true j1]
            refine iteF ?_
            have qq := q ⟨i0, i1⟩ ⟨j0, j1⟩
            obtain ⟨m, em⟩ : ∃ m : Nat, i = (m : Int) := ⟨i.toNat, by omega⟩
            obtain ⟨k, ek⟩ : ∃ k : Nat, j = (k : Int) := ⟨j.toNat, by omega⟩
            subst em ek
            rw [Int.toNat_natCast, Int.toNat_natCast] at qq
            have ii : ((m : Nat) : Int) + 1 = ((m + 1 : Nat) : Int) := by omega
            have jj : ((k : Nat) : Int) + 1 = ((k + 1 : Nat) : Int) := by omega
            refine ⟨by show 0 ≤ sizeLine; decide, fun F nF => ?_⟩
            have s0 := same_upd nF (o := .lst [])
            refine ⟨.ref g, rfl, _, rfl, _, rfl, g, _, rfl, .of (s0 _ _ hx), fun c1 n1 => ?_⟩
            rw [cut_headV (by omega)]
            have t1 := same_upd n1 (o := .lst (xs.take m))
            refine ⟨.ref g, rfl, _, rfl, _, _, rfl, rfl, ((m + 1 : Nat) : Int), congrArg V.int ii, g, _, rfl, .of (t1 _ _ (s0 _ _ hx)), fun c2 n2 => ?_⟩
            rw [cut_tailV (by omega)]
            have t2 := same_upd n2 (o := .lst (xs.drop (m + 1)))
            refine ⟨c1, c2, _, _, rfl, rfl, t2 _ _ upd_same, upd_same, by rw [List.length_take, List.length_drop]; exact small (by omega), fun c3 n3 => ?_⟩
            have t3 := same_upd n3 (o := .lst (xs.take m ++ xs.drop (m + 1)))
            have t03 := t1.trans (t2.trans t3)
            have sH := s0.trans t03
            have hF3 := t03 _ _ (upd_same (H := H) (a := F) (o := .lst []))
            have c3F : c3 ≠ F := fun z => by rw [z, t2 _ _ (t1 _ _ upd_same)] at n3; cases n3
            have hA2 : A2 (RwV K H) (xs.take m ++ xs.drop (m + 1)) (cutL m rs) := A2.app (A2.take m hA) (A2.drop (m + 1) hA)
            have lcut : (xs.take m ++ xs.drop (m + 1)).length ≤ 16 := by rw [List.length_append, List.length_take, List.length_drop]; omega
            refine ⟨c3, rfl, ⟨_, .of upd_same⟩, ?_⟩
            have hc3 := upd_same (H := upd (upd (upd H F (.lst [])) c1 (.lst (xs.take m))) c2 (.lst (xs.drop (m + 1)))) (a := c3) (o := .lst (xs.take m ++ xs.drop (m + 1)))
            generalize upd (upd (upd (upd H F (.lst [])) c1 (.lst (xs.take m))) c2 (.lst (xs.drop (m + 1)))) c3 (.lst (xs.take m ++ xs.drop (m + 1))) = G0 at sH hF3 hc3
            refine for_it (walk_list (xs := xs.take m ++ xs.drop (m + 1))) (fun t σ G => SameX F G0 G ∧ ∃ (v5 v6 : Option V) (ys : List V), σ = [some (.ref g), some (.int (m : Nat)), some (.int (k : Nat)), some (.int (many : Nat)), some (.ref F), v5, v6] ∧ G F = some (.lst ys) ∧ A2 (RFD F H G) ys (((cutL m rs).take t).map (woR k))) ⟨fun _ _ _ h => h, none, none, [], rfl, hF3, .nil⟩ (fun t σ G _ hP => .of (hP.1 _ _ c3F hc3)) (fun t x σ G Gx ht hP y => ?_) (fun σ G hP => ?_)
            · obtain ⟨sx1, v5, v6, ys, rfl, hF, hZ⟩ := hP
              obtain ⟨rfl, hxi⟩ := y
              obtain ⟨r, hr2, hV⟩ := hA2.get hxi
              have sG := same_x sH sx1 nF
              obtain ⟨tt, b, rfl, hts, as, hb, hE⟩ := hV.lk (K46.lk sG)
              have hrm : r ∈ rs := by
                rcases List.mem_append.mp (mem_at hr2) with z | z
                · exact List.mem_of_mem_take z
                · exact List.mem_of_mem_drop z
              have lrow := (vg.2 r hrm).1
              have las := hE.len
              have lz := hZ.len
              rw [List.length_map, List.length_take] at lz
              have lz2 : ys.length ≤ 16 := by have := hA2.len; omega
              refine ⟨tt, _, rfl, hts, rfl, _, _, rfl, _, _, rfl, rfl, ?_⟩
              refine ⟨.ref F, rfl, .inl ⟨rfl, _, .of hF⟩, _, rfl, .ref b, rfl, _, rfl, _, rfl, b, _, rfl, .of hb, fun d1 m1 => ?_⟩
              rw [cut_headV (by rw [List.length_map]; omega)]
              have u1 := same_upd m1 (o := .lst ((as.map V.ref).take k))
              refine ⟨.ref b, rfl, _, rfl, _, _, rfl, rfl, ((k + 1 : Nat) : Int), congrArg V.int jj, b, _, rfl, .of (u1 _ _ hb), fun d2 m2 => ?_⟩
              rw [cut_tailV (by rw [List.length_map]; omega)]
              have u2 := same_upd m2 (o := .lst ((as.map V.ref).drop (k + 1)))
              refine ⟨d1, d2, _, _, rfl, rfl, u2 _ _ upd_same, upd_same, by rw [List.length_take, List.length_drop, List.length_map]; exact small (by omega), fun d3 m3 => ?_⟩
              have u3 := same_upd m3 (o := .lst ((as.map V.ref).take k ++ (as.map V.ref).drop (k + 1)))
              refine ⟨by show 2 ≤ sizeLine; decide, fun tn nt => ?_⟩
              have u4 := same_upd nt (o := .tup [.str (kS r.1), .ref d3])
              have u14 := u1.trans (u2.trans (u3.trans u4))
              refine ⟨.ref tn, (r.1, cutL k r.2), rfl, ⟨tn, d3, rfl, .inl (.inl upd_same), as.take k ++ as.drop (k + 1), ?_, A2.app (A2.take k (hE.mono fun _ _ z => z.same u14)) (A2.drop (k + 1) (hE.mono fun _ _ z => z.same u14))⟩, ?_, fun G2 u s5 hRF => ?_⟩
              · rw [List.map_append, List.map_take, List.map_drop]
                exact u4 _ _ upd_same
              · show (r.2.take k ++ r.2.drop (k + 1)).length ≤ 16
                rw [List.length_append, List.length_take, List.length_drop]; omega
              have s6 := u14.trans s5
              refine ⟨F, _, _, rfl, rfl, s6 _ _ hF, small' (by omega), ?_⟩
              refine ⟨(sx1.trans (sx s6)).trans SameX.put, _, _, ys ++ [u], rfl, upd_same, ?_⟩
              rw [take_snoc hr2, List.map_append]
              exact A2.snoc ((RFD.of (sG.trans u14) (by rw [u14 _ _ hF]; exact fun z => nomatch z) hRF).up SameX.put) (hZ.mono fun _ _ z => (z.up (sx s6)).up SameX.put)
            · obtain ⟨sx1, v5, v6, ys, rfl, hF, hZ⟩ := hP
              rw [List.take_of_length_le (by have := hA2.len; omega)] at hZ
              exact ⟨.ref F, rfl, qq G F ys (same_x sH sx1 nF) nF hF (hZ.mono fun _ _ z => z.rf)⟩
          · rw [decide_eq_false j1]
            exact iteT ⟨_, rfl, by show 1 ≤ 1000; decide, LX.raised X.NoQuantity hj (e2 ⟨i0, i1⟩ fun z => j1 z.2)⟩
        · rw [decide_eq_false j0]
          exact iteF ⟨_, rfl, iteT ⟨_, rfl, by show 1 ≤ 1000; decide, LX.raised X.NoQuantity hj (e2 ⟨i0, i1⟩ fun z => j0 z.1)⟩⟩
      · rw [decide_eq_false i1]
        exact iteT ⟨_, rfl, by show 1 ≤ 1000; decide, LX.raised X.NoLaw hi (e1 fun z => i1 z.2)⟩
    · rw [decide_eq_false i0]
      exact iteF ⟨_, rfl, iteT ⟨_, rfl, by show 1 ≤ 1000; decide, LX.raised X.NoLaw hi (e1 fun z => i0 z.1)⟩⟩
end
-- L
/-! ### a model -/
abbrev Hd := Int ⊕ Str
def vH : Hd → V
  | .inl n => .int n
  | .inr s => .str s
def dH : Hd → PyData
  | .inl n => .int n
  | .inr s => .str s
structure Trm where
  h : Hd
  k : Nat
  j : Nat
structure Lw where
  ex : Bool
  k : Nat
  j : Nat
  ts : List Trm
  src : Str
structure Mdl where
  qs : List Str
  ls : List Lw
section
variable (K : PySem.W.Frag)
def TmV (H : Hp) (v : V) (t : Trm) : Prop := ∃ a, v = .ref a ∧ SqT K H a [vH t.h, .int (t.k : Nat), .int (t.j : Nat)]
def TsL (H : Hp) (p : Addr) (ts : List Trm) : Prop := ∃ xs, SqL K H p xs ∧ A2 (TmV K H) xs ts
def LW (H : Hp) (v : V) (l : Lw) : Prop := ∃ a p, v = .ref a ∧ TsL K H p l.ts ∧
  (l.ex = true ∧ SqT K H a [.str "exact", .ref p, .str l.src] ∨ l.ex = false ∧ SqT K H a [.str "sized", .int (l.k : Nat), .int (l.j : Nat), .ref p, .str l.src])
/-- p is the list of the law's terms -/
def LWp (H : Hp) (v : V) (l : Lw) (p : Addr) : Prop := ∃ a, v = .ref a ∧
  (l.ex = true ∧ SqT K H a [.str "exact", .ref p, .str l.src] ∨ l.ex = false ∧ SqT K H a [.str "sized", .int (l.k : Nat), .int (l.j : Nat), .ref p, .str l.src])
def MD (H : Hp) (v : V) (m : Mdl) : Prop := ∃ a q r xs, v = .ref a ∧ SqT K H a [.ref q, .ref r] ∧ SqL K H q (m.qs.map V.str) ∧ SqL K H r xs ∧ A2 (LW K H) xs m.ls
end
/-- a list of places -/
def PT2 (_K : PySem.W.Frag) (H : Hp) (v : V) (p : Nat × Nat) : Prop := ∃ a, v = .ref a ∧ H a = some (.tup [.int (p.1 : Nat), .int (p.2 : Nat)])
def PL (K : PySem.W.Frag) (H : Hp) (a : Addr) (ps : List (Nat × Nat)) : Prop := ∃ xs, H a = some (.lst xs) ∧ A2 (PT2 K H) xs ps
section
variable {K : PySem.W.Frag} {H H' : Hp}
theorem TmV.same (s : Same H H') {v : V} {t : Trm} (h : TmV K H v t) : TmV K H' v t := let ⟨a, e, q⟩ := h; ⟨a, e, Same.seqT s q⟩
theorem TsL.same (s : Same H H') {p : Addr} {ts : List Trm} (h : TsL K H p ts) : TsL K H' p ts := let ⟨xs, q, r⟩ := h; ⟨xs, s.seq q, r.mono fun _ _ z => z.same s⟩
theorem LW.same (s : Same H H') {v : V} {l : Lw} (h : LW K H v l) : LW K H' v l := by
  obtain ⟨a, p, e, q, r⟩ := h
  exact ⟨a, p, e, q.same s, r.imp (fun z => ⟨z.1, Same.seqT s z.2⟩) fun z => ⟨z.1, Same.seqT s z.2⟩⟩
theorem LWp.same (s : Same H H') {v : V} {l : Lw} {p : Addr} (h : LWp K H v l p) : LWp K H' v l p := let ⟨a, e, r⟩ := h; ⟨a, e, r.imp (fun z => ⟨z.1, Same.seqT s z.2⟩) fun z => ⟨z.1, Same.seqT s z.2⟩⟩
theorem LW.p {v : V} {l : Lw} (h : LW K H v l) : ∃ p, LWp K H v l p ∧ TsL K H p l.ts := let ⟨a, p, e, q, r⟩ := h; ⟨p, ⟨a, e, r⟩, q⟩
theorem MD.same (s : Same H H') {v : V} {m : Mdl} (h : MD K H v m) : MD K H' v m := by
  obtain ⟨a, q, r, xs, e, h1, h2, h3, h4⟩ := h
  exact ⟨a, q, r, xs, e, Same.seqT s h1, s.seq h2, s.seq h3, h4.mono fun _ _ z => z.same s⟩
theorem PT2.same (s : Same H H') {v : V} {p : Nat × Nat} (h : PT2 K H v p) : PT2 K H' v p := let ⟨a, e, q⟩ := h; ⟨a, e, s _ _ q⟩
theorem PL.same (s : Same H H') {a : Addr} {ps : List (Nat × Nat)} (h : PL K H a ps) : PL K H' a ps := let ⟨xs, q, r⟩ := h; ⟨xs, s _ _ q, r.mono fun _ _ z => z.same s⟩
end
/-- the places of a law -/
def Lw.places (l : Lw) : List (Nat × Nat) := if l.ex then l.ts.map fun t => (t.k, t.j) else (l.k, l.j) :: l.ts.map fun t => (t.k, t.j)
/-- a law of a model with so many quantities -/
structure VL (many : Nat) (l : Lw) : Prop where
  ts : ∀ t ∈ l.ts, t.k < 13 ∧ t.j < many
  own : l.ex = false → l.k < 13 ∧ l.j < many
  num : l.ex = true → ∀ t ∈ l.ts, ∃ n : Int, t.h = .inl n ∧ n.natAbs ≤ 10 ^ 30
  nam : l.ex = false → ∀ t ∈ l.ts, ∃ s : Str, t.h = .inr s ∧ s.length ≤ 200 ∧ ∀ c ∈ s.cps.toList, c < 200
  src : l.src.length ≤ 600 ∧ ∀ c ∈ l.src.cps.toList, c < 200
  many : l.ts.length ≤ 300
structure VM (many : Nat) (m : Mdl) : Prop where
  qs : m.qs.length = many ∧ ∀ q ∈ m.qs, q.length ≤ 600 ∧ ∀ c ∈ q.cps.toList, c < 200
  ls : m.ls.length = many
  ok : ∀ l ∈ m.ls, VL many l
theorem SameX.seqT {K : PySem.W.Frag} {D : Addr} {H H' : Hp} {a : Addr} {xs : List V} (e : SameX D H H') (n : a ≠ D) (h : SqT K H a xs) : SqT K H' a xs := by
  rcases h with (h | ⟨o, h⟩) | h
  · exact .inl (.inl (e _ _ n h))
  · exact .inl (.inr ⟨o, e _ _ n h⟩)
  · exact .inr h
def Inj (es : List Addr) : Prop := ∀ (i j : Nat) (e : Addr), es[i]? = some e → es[j]? = some e → i = j
section
variable {P : Program} {w : World} {K : PySem.W.Frag} {mg : Str → Option Value} {base : Heap}
theorem ex_eq {l : Lw} {H : Hp} {v : V} (h : LW K H v l) : ∃ a xs, v = .ref a ∧ SqT K H a xs ∧ atI xs 0 = some (.str (if l.ex then "exact" else "sized")) := by
  obtain ⟨a, p, e, _, ⟨z, h⟩ | ⟨z, h⟩⟩ := h
  · exact ⟨a, _, e, h, by rw [z]; rfl⟩
  · exact ⟨a, _, e, h, by rw [z]; rfl⟩
theorem str_exI (b : Bool) : decide (V.str (if b then "exact" else "sized") = V.str "exact") = b := by
  cases b <;> decide +kernel
def sp_is_exactL (K : PySem.W.Frag) : Sp := fun vs H Q _ => ∃ (v : V) (l : Lw), vs = [v] ∧ LW K H v l ∧ Q (.bl l.ex) H
theorem ok_is_exactL (T : Txt K mg) : FnOk P w K mg base CX0 1 T.is_exact.a T.is_exact.fd ["told"] (sp_is_exactL K) := by
  refine T.is_exact.F.ok sc_is_exact (fun vs H Q E h => ?_) (fun cdv A outer s H vs Q E hr h => ?_)
  · obtain ⟨v, l, rfl, _⟩ := h
    rfl
  · obtain ⟨v, l, rfl, hl, q⟩ := h
    refine ⟨_, (pss_one (ps_ret (pe_cmpR op_eq (pe_ix ix_tup (pv 0) pe_int (fun _ _ => rfl)) pe_str (nomark _)))), ?_⟩
    obtain ⟨a, xs, rfl, ht, h0⟩ := ex_eq hl
    refine ⟨_, rfl, a, xs, _, _, rfl, rfl, ht, h0, rfl, ?_⟩
    rw [str_exI]
    exact q
def sp_terms_of (K : PySem.W.Frag) : Sp := fun vs H Q _ => ∃ (v : V) (l : Lw) (p : Addr), vs = [v] ∧ LW K H v l ∧ LWp K H v l p ∧ Q (.ref p) H
theorem ok_terms_of (T : Txt K mg) : FnOk P w K mg base CX0 2 T.terms_of.a T.terms_of.fd ["told"] (sp_terms_of K) := by
  refine T.terms_of.F.ok sc_terms_of (fun vs H Q E h => ?_) (fun cdv A outer s H vs Q E hr h => ?_)
  · obtain ⟨v, l, p, rfl, _⟩ := h
    rfl
  · obtain ⟨v, l, p, rfl, hl, hp, q⟩ := h
    refine ⟨_, (pss_one (ps_ret (pe_ifExp (pt_val (pe_call (ok_is_exactL T) (hr.mono (by decide)) (by rfl) T.is_exact.g T.is_exact.F.kp T.is_exact.b .nil pass0 (pa_cons (pv 0) pa_nil))) (pe_ix ix_tup (pv 0) pe_int (fun _ _ => rfl)) (pe_ix ix_tup (pv 0) pe_int (fun _ _ => rfl))))), ?_⟩
    refine ⟨v, rfl, v, l, rfl, hl, _, rfl, ?_⟩
    obtain ⟨a, rfl, ⟨z, h⟩ | ⟨z, h⟩⟩ := hp
    · rw [z]
      exact iteT ⟨_, rfl, a, _, _, _, rfl, rfl, h, rfl, q⟩
    · rw [z]
      exact iteF ⟨_, rfl, a, _, _, _, rfl, rfl, h, rfl, q⟩
def sp_places_of (K : PySem.W.Frag) : Sp := fun vs H Q _ => ∃ (v : V) (l : Lw), vs = [v] ∧ LW K H v l ∧ l.ts.length ≤ 1000 ∧ ∀ H' p, Same H H' → H p = none → PL K H' p l.places → Q (.ref p) H'
/-- a place, not the list D itself -/
def PTX (K : PySem.W.Frag) (D : Addr) (H : Hp) (v : V) (p : Nat × Nat) : Prop := ∃ a, v = .ref a ∧ a ≠ D ∧ H a = some (.tup [.int (p.1 : Nat), .int (p.2 : Nat)])
theorem PTX.mono {D : Addr} (H H' : Hp) (v : V) (b : Nat × Nat) (s : SameX D H H') (h : PTX K D H v b) : PTX K D H' v b := let ⟨a, e, n, q⟩ := h; ⟨a, e, n, s _ _ n q⟩
theorem PTX.pt {D : Addr} {H : Hp} {v : V} {b : Nat × Nat} (h : PTX K D H v b) : PT2 K H v b := let ⟨a, e, _, q⟩ := h; ⟨a, e, q⟩
theorem ok_places_of (T : Txt K mg) : FnOk P w K mg base CX0 3 T.places_of.a T.places_of.fd ["told"] (sp_places_of K) := by
  refine T.places_of.F.ok sc_places_of (fun vs H Q E h => ?_) (fun cdv A outer s H vs Q E hr h => ?_)
  · obtain ⟨v, l, rfl, _⟩ := h
    rfl
  · obtain ⟨v, l, rfl, hl, hn, q⟩ := h
    refine ⟨_, (pss_cons (ps_setLc (i := 1) (own := [("_", 2), ("k", 3), ("j", 4)]) (g := gTup K 3 (gCons (gName 2) (gCons (gName 3) (gCons (gName 4) gNil)))) rfl sc_places_of.nd rfl rfl (sw_true rfl rfl rfl (by decide +kernel)) (pi_list (pe_call (ok_terms_of T) (hr.mono (by decide)) (by rfl) T.terms_of.g T.terms_of.F.kp T.terms_of.b .nil pass0 (pa_cons (pv 0) pa_nil))) (blkOk_by (N := ["told", "places", "_", "k", "j"]) (sc := defScope s_places_of) (by decide +kernel)) (fun _ _ _ _ _ => (pg_tup rfl (pgs_cons (pg_name (i := 2) sc_places_of.nd rfl (.inl rfl)) (pgs_cons (pg_name (i := 3) sc_places_of.nd rfl (.inl rfl)) (pgs_cons (pg_name (i := 4) sc_places_of.nd rfl (.inl rfl)) pgs_nil))))) (fun _ _ _ _ _ => pts_nil) (fun _ _ _ _ _ => (pe_tup (pa_cons (pv 3) (pa_cons (pv 4) pa_nil)))))
      (pss_one (ps_ret (pe_ifExp (pt_val (pe_call (ok_is_exactL T) (hr.mono (by decide)) (by rfl) T.is_exact.g T.is_exact.F.kp T.is_exact.b .nil pass0 (pa_cons (pv 0) pa_nil))) (pv 1) (pe_op op_cat (pe_lst (pa_cons (pe_tup (pa_cons (pe_ix ix_tup (pv 0) pe_int (fun _ _ => rfl)) (pa_cons (pe_ix ix_tup (pv 0) pe_int (fun _ _ => rfl)) pa_nil))) pa_nil)) (pv 1)))))), ?_⟩
    obtain ⟨p, hlp, xs, hx, hr2⟩ := hl.p
    refine ⟨v, rfl, v, l, p, rfl, hl, hlp, ?_⟩
    refine ⟨p, rfl, ⟨xs, hx⟩, fun D nD => ?_⟩
    refine lc_fm (walk_list (xs := xs)) l.ts (fun t => some (t.k, t.j)) (PTX K D) PTX.mono hr2.len.symm nD (fun H' s => s.seq hx) (small' (by have := hr2.len; omega)) (fun i x H' Hx ys t ht sm hD y Qt Qf qt qf => ?_) (fun H' ys sm hD hR => ?_)
    · obtain ⟨rfl, hx⟩ := y
      obtain ⟨t', ht', r⟩ := hr2.get hx
      obtain rfl := Option.some.inj (ht.symm.trans ht')
      obtain ⟨b, rfl, rb⟩ := r.same sm
      refine ⟨b, _, rfl, rb, rfl, _, _, rfl, _, _, rfl, _, _, rfl, rfl, rfl, _, rfl, _, rfl, by show 2 ≤ sizeLine; decide, fun c hc => ?_⟩
      exact qt _ _ _ rfl (same_upd hc) ⟨c, rfl, (fun z => by rw [z, hD] at hc; cases hc), upd_same⟩
    · rw [fm_some] at hR
      refine ⟨v, rfl, v, l, rfl, hl.same sm, _, rfl, ?_⟩
      obtain ⟨a, p2, rfl, hp, ⟨z, h⟩ | ⟨z, h⟩⟩ := hl
      · rw [z]
        refine iteT ⟨_, rfl, q H' D sm nD ⟨ys, hD, ?_⟩⟩
        unfold Lw.places
        rw [z]
        exact hR.mono fun _ _ => PTX.pt
      · rw [z]
        refine iteF ?_
        have h := Same.seqT sm h
        refine ⟨_, rfl, a, _, _, _, rfl, rfl, h, rfl, _, rfl, a, _, _, _, rfl, rfl, h, rfl, by show 2 ≤ sizeLine; decide, fun t nt => ?_⟩
        refine ⟨by show 1 ≤ sizeLine; decide, fun u nu => ?_⟩
        have hDu : D ≠ u := fun z => by rw [← z, upd_ne (fun y => by rw [← y, hD] at nt; cases nt), hD] at nu; cases nu
        have hD2 : upd (upd H' t (.tup [.int (l.k : Nat), .int (l.j : Nat)])) u (.lst [V.ref t]) D = some (.lst ys) := by
          rw [upd_ne hDu, upd_ne (fun y => by rw [← y, hD] at nt; cases nt)]; exact hD
        refine ⟨_, rfl, u, D, _, _, rfl, rfl, upd_same, hD2, ?_, fun r nr => ?_⟩
        · have := hR.len
          simp at this
          exact small (by simp; omega)
        · have s1 : Same H' (upd (upd H' t (.tup [.int (l.k : Nat), .int (l.j : Nat)])) u (.lst [V.ref t])) := (same_upd nt).trans (same_upd nu)
          refine q _ r (sm.trans (s1.trans (same_upd nr))) ((sm.trans s1).free nr) ⟨_, upd_same, ?_⟩
          unfold Lw.places
          rw [z]
          refine .cons ⟨t, rfl, ?_⟩ (hR.mono fun _ _ z => (PTX.pt z).same (s1.trans (same_upd nr)))
          exact same_upd nr _ _ (same_upd nu _ _ upd_same)
/-! ### the rows of the exact table -/
/-- zeros behind ns until it has a k-th number, and n there -/
def putAt (ns : List Int) (k : Nat) (n : Int) : List Int := (ns ++ List.replicate (k + 1 - ns.length) 0).set k n
def tnum (t : Trm) : Int := match t.h with
  | .inl n => n
  | .inr _ => 0
def estep (rows : List (List Int)) (t : Trm) : List (List Int) := rows.set t.j (putAt (rows.getD t.j []) t.k (tnum t))
def erow (many : Nat) (ts : List Trm) : List (List Int) := ts.foldl estep (List.replicate many [])
theorem efold_len : ∀ (ts : List Trm) (rows : List (List Int)), (ts.foldl estep rows).length = rows.length
  | [], _ => rfl
  | p :: r, rows => by rw [List.foldl_cons, efold_len r]; unfold estep; rw [List.length_set]
theorem putAt_le {ns : List Int} {k : Nat} {n : Int} (h : ns.length ≤ 13) (hk : k < 13) : (putAt ns k n).length ≤ 13 := by
  unfold putAt; rw [List.length_set, List.length_append, List.length_replicate]; omega
theorem estep_le {rows : List (List Int)} {t : Trm} (h : ∀ j, (rows.getD j []).length ≤ 13) (hk : t.k < 13) : ∀ j, ((estep rows t).getD j []).length ≤ 13 := fun j => by
  unfold estep
  rw [List.getD_eq_getElem?_getD, List.getElem?_set]
  split
  · split
    · exact putAt_le (h _) hk
    · decide
  · rw [← List.getD_eq_getElem?_getD]; exact h j
theorem efold_le : ∀ {ts : List Trm} {rows : List (List Int)}, (∀ j, (rows.getD j []).length ≤ 13) → (∀ t ∈ ts, t.k < 13) → ∀ j, ((ts.foldl estep rows).getD j []).length ≤ 13
  | [], _, h, _, j => h j
  | t :: r, rows, h, hk, j => efold_le (ts := r) (estep_le h (hk t List.mem_cons_self)) (fun u hu => hk u (List.mem_cons_of_mem _ hu)) j
theorem erow_le {many : Nat} {ts : List Trm} (hk : ∀ t ∈ ts, t.k < 13) (j : Nat) : ((erow many ts).getD j []).length ≤ 13 := by
  refine efold_le (fun j => ?_) hk j
  rw [List.getD_eq_getElem?_getD, List.getElem?_replicate]
  split <;> decide
theorem Inj.snoc {es : List Addr} {e : Addr} (h : Inj es) (n : e ∉ es) : Inj (es ++ [e]) := fun i j x hi hj => by
  have key : ∀ {k : Nat} {y : Addr}, (es ++ [e])[k]? = some y → (k < es.length ∧ es[k]? = some y) ∨ (k = es.length ∧ y = e) := fun {k y} hk => by
    rcases Nat.lt_or_ge k es.length with lt | ge
    · rw [List.getElem?_append_left lt] at hk; exact .inl ⟨lt, hk⟩
    · rw [List.getElem?_append_right ge] at hk
      have := (List.getElem?_eq_some_iff.mp hk).1
      simp at this
      have e0 : k = es.length := by omega
      subst e0
      simp at hk
      exact .inr ⟨rfl, hk.symm⟩
  rcases key hi with ⟨li, ai⟩ | ⟨li, ai⟩ <;> rcases key hj with ⟨lj, aj⟩ | ⟨lj, aj⟩
  · exact h i j x ai aj
  · subst aj; exact absurd (mem_at ai) n
  · subst ai; exact absurd (mem_at aj) n
  · omega
theorem a2_at {α β : Type} {R : α → β → Prop} {d : β} : ∀ {as : List α} {bs : List β}, as.length = bs.length → (∀ i a, as[i]? = some a → R a (bs.getD i d)) → A2 R as bs
  | [], [], _, _ => .nil
  | a :: as, b :: bs, hn, h => .cons (h 0 a rfl) (a2_at (d := d) (by simpa using hn) fun i x hx => h (i + 1) x (by simpa using hx))
def sp_exact_row (K : PySem.W.Frag) : Sp := fun vs H Q _ => ∃ (v : V) (l : Lw) (many : Nat), vs = [v, .int (many : Nat)] ∧ LW K H v l ∧ VL many l ∧ l.ex = true ∧ many ≤ 30 ∧
  ∀ H' p, Same H H' → H p = none → RowF H H' p (erow many l.ts) → Q (.ref p) H'
theorem ok_exact_row (T : Txt K mg) : FnOk P w K mg base CX0 3 T.exact_row.a T.exact_row.fd ["told", "many"] (sp_exact_row K) := by
  refine T.exact_row.F.ok sc_exact_row (fun vs H Q E h => ?_) (fun cdv A outer s H vs Q E hr h => ?_)
  · obtain ⟨v, l, many, rfl, _⟩ := h
    rfl
  · obtain ⟨v, l, many, rfl, hl, vl, ex, hm, q⟩ := h
    refine ⟨_, (pss_cons (ps_setLc (i := 2) (own := [("_", 7)]) rfl sc_exact_row.nd rfl rfl (sw_true rfl rfl rfl (by decide +kernel)) (pi_range1 (by rfl) T.m_range (pa_cons (pv 1) pa_nil)) (blkOk_by (N := ["told", "many", "row", "number", "k", "j", "one", "_"]) (sc := defScope s_exact_row) (by decide +kernel)) (fun _ _ _ _ _ => (pg_name (i := 7) sc_exact_row.nd rfl (.inl rfl))) (fun _ _ _ _ _ => pts_nil) (fun _ _ _ _ _ => (pe_lst pa_nil)))
      (pss_cons (ps_for PassesOwn.never rfl (pi_list (pe_call (ok_terms_of T) (hr.mono (by decide)) (by rfl) T.terms_of.g T.terms_of.F.kp T.terms_of.b .nil pass0 (pa_cons (pv 0) pa_nil))) (pg_tup rfl (pgs_cons (pg_name (i := 3) sc_exact_row.nd rfl (.inl rfl)) (pgs_cons (pg_name (i := 4) sc_exact_row.nd rfl (.inl rfl)) (pgs_cons (pg_name (i := 5) sc_exact_row.nd rfl (.inl rfl)) pgs_nil))))
        (pss_cons (ps_set (i := 6) sc_exact_row.nd rfl (.inl rfl) (pe_ix ix_list (pv 2) (pv 5) (fun _ _ => rfl)))
        (pss_cons (ps_while PassesOwn.never (pt_cmpR op_le (pe_callB call_len_seq (by rfl) T.m_len (by decide +kernel) (pa_cons (pv 6) pa_nil)) (pv 4) (nomark _))
          (pss_one (ps_expr (pe_bm PySem.F.plainAttrs_list PySem.F.slot_list_append PySem.F.type_list_append mt_append (pv 6) (pa_cons pe_int pa_nil)))))
        (pss_one (ps_asg (pv 3) (pg_sub (pv 6) (pv 4) set_list))))))
      (pss_one (ps_ret (pv 2))))), ?_⟩
    refine ⟨_, rfl, (many : Nat), rfl, by omega, by omega, fun D nD => ?_⟩
    rw [Int.toNat_natCast]
    refine lc_inv (walk_range (lo := 0) (n := many)) (fun i G ys => ∃ es : List Addr, ys = es.map V.ref ∧ es.length = i ∧ Inj es ∧ ∀ e ∈ es, IL G e [] ∧ e ≠ D ∧ H e = none) nD (fun _ _ => trivial) (small' (by omega)) ⟨[], rfl, rfl, fun _ _ _ h => by simp at h, fun _ h => by cases h⟩ (fun i x G Hx ys hi sm hD hR y Qt Qf qt qf => ?_) (fun H' ys sm hD hR => ?_)
    · obtain ⟨rfl, rfl⟩ := y
      obtain ⟨es, rfl, hn, inj, hes⟩ := hR
      refine ⟨rfl, by show 0 ≤ sizeLine; decide, fun e ne => ?_⟩
      have eD : e ≠ D := fun z => by rw [z, hD] at ne; cases ne
      refine qt _ _ (same_upd ne) ⟨es ++ [e], by rw [List.map_append]; rfl, by simp [hn], inj.snoc (fun z => by have := (hes e z).1; rw [IL, ne] at this; cases this), fun x hx => ?_⟩
      rcases List.mem_append.mp hx with hx | hx
      · obtain ⟨h1, h2, h3⟩ := hes x hx
        refine ⟨?_, h2, h3⟩
        show upd _ D _ x = _
        rw [upd_ne h2]
        exact same_upd ne _ _ h1
      · simp at hx
        subst hx
        refine ⟨?_, eD, sm.free ne⟩
        show upd _ D _ x = _
        rw [upd_ne eD, upd_same]; rfl
    · obtain ⟨es, rfl, hn, inj, hes⟩ := hR
      obtain ⟨c, hlp, xs, hc, hT⟩ := hl.p
      refine ⟨v, rfl, v, l, c, rfl, hl.same sm, hlp.same sm, ?_⟩
      refine ⟨c, rfl, ⟨xs, sm.seq hc⟩, ?_⟩
      refine for_it (walk_list (xs := xs)) (fun i σ G => ∃ x3 x4 x5 x6, σ = [some v, some (.int (many : Nat)), some (.ref D), x3, x4, x5, x6, none] ∧ Same H G ∧ G D = some (.lst (es.map V.ref)) ∧ ∀ j e, es[j]? = some e → IL G e ((erow many (l.ts.take i)).getD j []))
        ⟨none, none, none, none, rfl, sm, hD, fun j e he => ?_⟩ (fun i σ G _ p => ?_) (fun i x σ G G' hi p y => ?_) (fun σ G p => ?_)
      · rw [show (erow many (l.ts.take 0)).getD j [] = [] by
          unfold erow
          rw [List.take_zero, List.foldl_nil, List.getD_eq_getElem?_getD, List.getElem?_replicate]
          split <;> rfl]
        exact (hes e (mem_at he)).1
      · obtain ⟨_, _, _, _, _, s, _⟩ := p
        exact s.seq hc
      · obtain ⟨x3, x4, x5, x6, rfl, s, hD, he⟩ := p
        obtain ⟨rfl, hx⟩ := y
        obtain ⟨t, ht, b, rfl, hb⟩ := hT.get hx
        obtain ⟨hk, hj⟩ := vl.ts t (mem_at ht)
        obtain ⟨n, hn2, _⟩ := vl.num ex t (mem_at ht)
        rw [hn2] at hb
        obtain ⟨e, hej⟩ : ∃ e, es[t.j]? = some e := ⟨es[t.j]'(by omega), by simp [show t.j < es.length by omega]⟩
        have hIL := he _ _ hej
        obtain ⟨_, eD, eH⟩ := hes e (mem_at hej)
        have len : ((erow many (l.ts.take i)).getD t.j []).length ≤ 13 := erow_le (fun u hu => (vl.ts u (List.mem_of_mem_take hu)).1) t.j
        have ta : erow many (l.ts.take (i + 1)) = estep (erow many (l.ts.take i)) t := fold_take _ _ ht
        have tn : tnum t = n := by unfold tnum; rw [hn2]
        refine ⟨b, _, rfl, Same.seqT s hb, rfl, _, _, rfl, _, _, rfl, _, _, rfl, rfl, ?_⟩
        refine ⟨.ref D, rfl, _, rfl, D, _, _, _, rfl, rfl, .of hD, (atI_nat (by rw [List.getElem?_map, hej]; rfl)), ?_⟩
        generalize hns : (erow many (l.ts.take i)).getD t.j [] = ns at hIL len
        refine while_by (fun σ G2 => σ = [some v, some (.int (many : Nat)), some (.ref D), some (.int n), some (.int (t.k : Nat)), some (.int (t.j : Nat)), some (.ref e), none] ∧ SameX e G' G2 ∧ ∃ z, z ≤ t.k + 1 - ns.length ∧ IL G2 e (ns ++ List.replicate z 0))
          (fun _ G2 => match G2 e with | some (.lst xs) => t.k + 1 - xs.length | _ => 0) ⟨rfl, fun _ _ _ z => z, 0, Nat.zero_le _, by rw [List.replicate_zero, List.append_nil]; exact hIL⟩ (fun σ G2 p => ?_) (fun σ G2 Q1 Q2 hQ h => ?_)
        · obtain ⟨rfl, sx, z, hz, h2⟩ := p
          have h2' : G2 e = some (.lst ((ns ++ List.replicate z 0).map V.int)) := h2
          refine ⟨.ref e, rfl, e, _, rfl, .inl h2.sq, _, rfl, _, _, rfl, rfl, _, rfl, ?_⟩
          rw [List.length_map, List.length_append, List.length_replicate]
          refine ite2 (fun h => ?_) (fun h => ?_)
          · have h := of_decide_eq_true h
            refine ⟨.ref e, rfl, .inl ⟨rfl, _, .of h2'⟩, e, _, _, rfl, rfl, h2', small' (by rw [List.length_map, List.length_append, List.length_replicate]; omega), ⟨rfl, sx.trans SameX.put, z + 1, by omega, ?_⟩, ?_⟩
            · show upd G2 e _ e = _
              rw [upd_same, app_ints, List.append_assoc, List.replicate_succ']
            · rw [upd_same, h2']
              simp only [List.length_append, List.length_map, List.length_replicate, List.length_cons, List.length_nil]
              omega
          · have h : ¬ ((ns.length + z : Nat) : Int) ≤ (t.k : Nat) := fun y => h (decide_eq_true y)
            have ez : z = t.k + 1 - ns.length := by omega
            refine ⟨_, rfl, .ref e, rfl, _, rfl, e, _, _, t.k, rfl, rfl, h2', ix_ok rfl (by rw [List.length_map, List.length_append, List.length_replicate]; omega), ?_⟩
            refine ⟨_, _, _, _, rfl, fun a o ha => ?_, ?_, fun j e' he' => ?_⟩
            · have ae : a ≠ e := fun y => by rw [y, eH] at ha; cases ha
              rw [upd_ne ae]
              exact sx a o ae (s a o ha)
            · rw [upd_ne (Ne.symm eD)]
              exact sx D _ (Ne.symm eD) hD
            · rw [ta]
              unfold estep
              rw [List.getD_eq_getElem?_getD, List.getElem?_set]
              by_cases ej : t.j = j
              · subst ej
                obtain rfl := Option.some.inj (he'.symm.trans hej)
                rw [if_pos rfl, if_pos (by unfold erow; rw [efold_len, List.length_replicate]; exact hj)]
                show upd G2 e' _ e' = _
                rw [upd_same, hns, tn, ez]
                show some (HO.lst (((ns ++ List.replicate (t.k + 1 - ns.length) 0).map V.int).set t.k (V.int n))) = _
                rw [← List.map_set]; rfl
              · rw [if_neg ej, ← List.getD_eq_getElem?_getD]
                have ne : e' ≠ e := fun y => ej (inj _ _ e hej (by rw [← y]; exact he'))
                show upd G2 e _ e' = _
                rw [upd_ne ne]
                exact sx e' _ ne (he j e' he')
        · obtain ⟨v1, e1, p1, ys, e2, hs, v2, e3, i1, j1, e4, e5, k1, e6, h⟩ := h
          refine ⟨v1, e1, p1, ys, e2, hs, v2, e3, i1, j1, e4, e5, k1, e6, hQ _ _ h⟩
      · obtain ⟨x3, x4, x5, x6, rfl, s, hD, he⟩ := p
        refine ⟨_, rfl, q G D s nD ⟨es, hD, ?_⟩⟩
        rw [List.take_of_length_le (by rw [hT.len]; exact Nat.le_refl _)] at he
        refine a2_at (d := []) (by unfold erow; rw [efold_len, List.length_replicate]; exact hn) fun j e hj => ?_
        exact ⟨(hes e (mem_at hj)).2.2, he j e hj⟩
def fTab (many : Nat) (m : Mdl) : Tb := m.ls.filterMap fun l => if l.ex then some (erow many l.ts) else none
def sp_exact_table (K : PySem.W.Frag) : Sp := fun vs H Q _ => ∃ (v : V) (m : Mdl) (many : Nat), vs = [v] ∧ MD K H v m ∧ VM many m ∧ many ≤ 30 ∧ ∀ H' p, Same H H' → TbR H' p (fTab many m) → Q (.ref p) H'
theorem ok_exact_table (T : Txt K mg) : FnOk P w K mg base CX0 4 T.exact_table.a T.exact_table.fd ["model"] (sp_exact_table K) := by
  refine T.exact_table.F.ok sc_exact_table (fun vs H Q E h => ?_) (fun cdv A outer s H vs Q E hr h => ?_)
  · obtain ⟨v, m, many, rfl, _⟩ := h
    rfl
  · obtain ⟨v, m, many, rfl, ⟨a, qa, r, xs, rfl, h1, h2, h3, h4⟩, vm, hm, q⟩ := h
    refine ⟨_, (pss_cons (ps_asg (pv 0) (pg_tup rfl (pgs_cons (pg_name (i := 1) sc_exact_table.nd rfl (.inr rfl)) (pgs_cons (pg_name (i := 2) sc_exact_table.nd rfl (.inl rfl)) pgs_nil))))
      (pss_one (ps_ret (pe_lc (own := [("told", 3)]) rfl sc_exact_table.nd (pi_list (pv 2)) (blkOk_by (N := ["model", "quantities", "laws", "told"]) (sc := defScope s_exact_table) (by decide +kernel)) (fun _ _ _ _ _ => (pg_name (i := 3) sc_exact_table.nd rfl (.inl rfl))) (fun _ _ _ _ _ => (pts_one (pt_val (pe_call (ok_is_exactL T) (hr.mono (by decide)) (by rfl) T.is_exact.g T.is_exact.F.kp T.is_exact.b .nil pass0 (pa_cons (pv 3) pa_nil))))) (fun _ _ _ _ _ => (pe_call (ok_exact_row T) (hr.mono (by decide)) (by rfl) T.exact_row.g T.exact_row.F.kp T.exact_row.b .nil pass0 (pa_cons (pv 3) (pa_cons (pe_callB (id := "len") (r := rLenS K) call_lenC (by rfl) T.m_len (by decide +kernel) (pa_cons (pv 1) pa_nil)) pa_nil)))))))), ?_⟩
    refine ⟨.ref a, rfl, a, _, rfl, h1, rfl, _, _, rfl, _, _, rfl, rfl, ?_⟩
    refine ⟨.ref r, rfl, r, rfl, ⟨xs, h3⟩, fun D nD => ?_⟩
    refine lc_fm (walk_list (xs := xs)) m.ls (fun l => if l.ex then some (erow many l.ts) else none) (TRow D H) (fun _ _ _ _ s h => h.up s) h4.len.symm nD (fun H' s => s.seq h3) (small' (by have := h4.len; have := vm.ls; omega)) (fun i x G Hx ys l hl sm hD y Qt Qf qt qf => ?_) (fun G ys sm hD hR => ?_)
    · obtain ⟨rfl, hx⟩ := y
      obtain ⟨l', hl', rl⟩ := h4.get hx
      obtain rfl := Option.some.inj (hl.symm.trans hl')
      refine ⟨rfl, x, rfl, x, l, rfl, rl.same sm, _, rfl, ?_⟩
      cases e : l.ex with
      | false => exact iteF (qf (by rw [e]; rfl) _ (Same.refl _))
      | true =>
        refine iteT ⟨x, rfl, .ref qa, rfl, qa, _, rfl, .inl (sm.seq h2), x, l, many, by rw [List.length_map, vm.qs.1]; rfl, rl.same sm, vm.ok l (mem_at hl), e, hm, fun H4 p s4 np ⟨es, hp, ha⟩ => ?_⟩
        have off : ∀ {c : Addr}, Hx c = none → c ≠ D := fun {c} z y => by rw [y, hD] at z; cases z
        exact qt _ _ (erow many l.ts) (by rw [e]; rfl) s4 ⟨p, es, rfl, ⟨off np, sm.free np⟩, hp, ha.mono fun _ _ z => ⟨⟨off z.1, sm.free z.1⟩, z.2⟩⟩
    · exact q G D sm (TbR.of hD hR)
end
-- M
/-! ### terms and rows -/
theorem cf_off {ns : List Int} {m : Nat} (h : ns.length ≤ m) : cf ns m = 0 := by
  unfold cf; rw [List.getD_eq_getElem?_getD, List.getElem?_eq_none h]; rfl
theorem cf_in {ns : List Int} {m : Nat} (h : cf ns m ≠ 0) : m < ns.length := Nat.lt_of_not_le fun z => h (cf_off z)
theorem putAt_len {ns : List Int} {k : Nat} {n : Int} : (putAt ns k n).length = max ns.length (k + 1) := by
  unfold putAt; rw [List.length_set, List.length_append, List.length_replicate]; omega
theorem cf_putAt {ns : List Int} {k i : Nat} {n : Int} : cf (putAt ns k n) i = if i = k then n else cf ns i := by
  unfold putAt cf
  rw [List.getD_eq_getElem?_getD, List.getElem?_set]
  by_cases z : k = i
  · subst z
    rw [if_pos rfl, if_pos (by rw [List.length_append, List.length_replicate]; omega), if_pos rfl]; rfl
  · rw [if_neg z, if_neg (fun y => z y.symm), List.getD_eq_getElem?_getD]
    rcases Nat.lt_or_ge i ns.length with lt | ge
    · rw [List.getElem?_append_left lt]
    · rw [List.getElem?_append_right ge, List.getElem?_eq_none ge, List.getElem?_replicate]
      split <;> rfl
theorem getD_set {rows : List (List Int)} {i j : Nat} {x : List Int} (h : j < rows.length) : (rows.set j x).getD i [] = if i = j then x else rows.getD i [] := by
  rw [List.getD_eq_getElem?_getD, List.getElem?_set]
  by_cases z : j = i
  · subst z
    rw [if_pos rfl, if_pos h, if_pos rfl]; rfl
  · rw [if_neg z, if_neg (fun y => z y.symm), List.getD_eq_getElem?_getD]
theorem getD_rep (many j : Nat) : (List.replicate many ([] : List Int)).getD j [] = [] := by
  rw [List.getD_eq_getElem?_getD, List.getElem?_replicate]
  split <;> rfl
theorem rows_ext {a b : List (List Int)} (h : a.length = b.length) (f : ∀ j, j < a.length → a.getD j [] = b.getD j []) : a = b := by
  refine List.ext_getElem h fun j h1 h2 => ?_
  have := f j h1
  rw [List.getD_eq_getElem?_getD, List.getD_eq_getElem?_getD, List.getElem?_eq_getElem h1, List.getElem?_eq_getElem h2] at this
  exact this
theorem ints_ext {a b : List Int} (h : a.length = b.length) (f : ∀ k, cf a k = cf b k) : a = b := by
  refine List.ext_getElem h fun j h1 h2 => ?_
  have := f j
  unfold cf at this
  rw [List.getD_eq_getElem?_getD, List.getD_eq_getElem?_getD, List.getElem?_eq_getElem h1, List.getElem?_eq_getElem h2] at this
  exact this
abbrev Apart (u t : Trm) : Prop := ¬ (u.j = t.j ∧ u.k = t.k)
structure Got (many : Nat) (ts : List Trm) (rows : List (List Int)) : Prop where
  len : rows.length = many
  at' : ∀ t ∈ ts, cf (rows.getD t.j []) t.k = tnum t
  off : ∀ j k, (∀ t ∈ ts, ¬ (t.j = j ∧ t.k = k)) → cf (rows.getD j []) k = 0
  sz : ∀ j k, k < (rows.getD j []).length ↔ ∃ t ∈ ts, t.j = j ∧ k ≤ t.k
theorem Got.step {many : Nat} {ts : List Trm} {rows : List (List Int)} {t : Trm} (g : Got many ts rows) (hj : t.j < many) (hp : ∀ u ∈ ts, Apart u t) : Got many (ts ++ [t]) (estep rows t) := by
  have hl : t.j < rows.length := by rw [g.len]; exact hj
  refine ⟨by unfold estep; rw [List.length_set]; exact g.len, fun u hu => ?_, fun j k h => ?_, fun j k => ?_⟩
  · unfold estep
    rw [getD_set hl]
    rcases List.mem_append.mp hu with z | z
    · by_cases e : u.j = t.j
      · rw [if_pos e, cf_putAt, if_neg (fun y => hp u z ⟨e, y⟩), ← e]
        exact g.at' u z
      · rw [if_neg e]; exact g.at' u z
    · rw [List.mem_singleton.mp z, if_pos rfl, cf_putAt, if_pos rfl]
  · unfold estep
    rw [getD_set hl]
    have h0 := g.off j k fun u hu => h u (List.mem_append_left _ hu)
    by_cases e : j = t.j
    · have : ¬ k = t.k := fun y => h t (List.mem_append_right _ (List.mem_singleton.mpr rfl)) ⟨e.symm, y.symm⟩
      rw [if_pos e, cf_putAt, if_neg this, ← e]; exact h0
    · rw [if_neg e]; exact h0
  · unfold estep
    rw [getD_set hl]
    by_cases e : j = t.j
    · rw [if_pos e, putAt_len]
      have h0 := g.sz j k
      rw [e] at h0 ⊢
      constructor
      · intro h
        rcases Nat.lt_or_ge k (rows.getD t.j []).length with z | z
        · obtain ⟨u, hu, x⟩ := h0.mp z
          exact ⟨u, List.mem_append_left _ hu, x⟩
        · exact ⟨t, List.mem_append_right _ (List.mem_singleton.mpr rfl), rfl, by omega⟩
      · rintro ⟨u, hu, x, y⟩
        rcases List.mem_append.mp hu with z | z
        · have := h0.mpr ⟨u, z, x, y⟩
          omega
        · rw [List.mem_singleton.mp z] at y
          omega
    · rw [if_neg e]
      constructor
      · intro h
        obtain ⟨u, hu, x⟩ := (g.sz j k).mp h
        exact ⟨u, List.mem_append_left _ hu, x⟩
      · rintro ⟨u, hu, x, y⟩
        rcases List.mem_append.mp hu with z | z
        · exact (g.sz j k).mpr ⟨u, z, x, y⟩
        · rw [List.mem_singleton.mp z] at x
          exact absurd x.symm e
theorem got_fold {many : Nat} : ∀ (ts2 ts1 : List Trm) (rows : List (List Int)), Got many ts1 rows → (∀ t ∈ ts2, t.j < many) → (ts1 ++ ts2).Pairwise Apart → Got many (ts1 ++ ts2) (ts2.foldl estep rows)
  | [], ts1, rows, g, _, _ => by rw [List.append_nil]; exact g
  | t :: r, ts1, rows, g, hj, hp => by
    have e : ts1 ++ t :: r = (ts1 ++ [t]) ++ r := by rw [List.append_assoc]; rfl
    rw [e] at hp ⊢
    refine got_fold r (ts1 ++ [t]) (estep rows t) (g.step (hj t List.mem_cons_self) fun u hu => ?_) (fun u hu => hj u (List.mem_cons_of_mem _ hu)) hp
    exact (List.pairwise_append.mp (List.pairwise_append.mp hp).1).2.2 u hu t (List.mem_singleton.mpr rfl)
theorem got_erow {many : Nat} {ts : List Trm} (hj : ∀ t ∈ ts, t.j < many) (hp : ts.Pairwise Apart) : Got many ts (erow many ts) := by
  have g0 : Got many [] (List.replicate many []) := ⟨List.length_replicate, (fun _ z => by cases z), (fun j k _ => by rw [getD_rep]; rfl), fun j k => by
    rw [getD_rep]
    exact ⟨(fun h => by cases h), fun ⟨_, z, _⟩ => by cases z⟩⟩
  exact got_fold ts [] _ g0 hj hp
/-- the terms are those of the row -/
structure Tells (many : Nat) (ts : List Trm) (row : List (List Int)) : Prop where
  len : row.length = many
  nz : ∀ e ∈ row, NZ e
  hj : ∀ t ∈ ts, t.j < many
  ap : ts.Pairwise Apart
  at' : ∀ t ∈ ts, cf (row.getD t.j []) t.k = tnum t ∧ tnum t ≠ 0
  all : ∀ j k, cf (row.getD j []) k ≠ 0 → ∃ t ∈ ts, t.j = j ∧ t.k = k
theorem erow_tells {many : Nat} {ts : List Trm} {row : List (List Int)} (h : Tells many ts row) : erow many ts = row := by
  have g := got_erow h.hj h.ap
  refine rows_ext (by rw [g.len, h.len]) fun j hjl => ?_
  have hcf : ∀ k, cf ((erow many ts).getD j []) k = cf (row.getD j []) k := fun k => by
    by_cases ex : ∃ t ∈ ts, t.j = j ∧ t.k = k
    · obtain ⟨t, ht, rfl, rfl⟩ := ex
      rw [g.at' t ht, (h.at' t ht).1]
    · rw [g.off j k fun t ht z => ex ⟨t, ht, z⟩]
      by_cases z : cf (row.getD j []) k = 0
      · exact z.symm
      · exact absurd (h.all j k z) ex
  have hz : NZ (row.getD j []) := by
    rw [g.len] at hjl
    rw [List.getD_eq_getElem?_getD, List.getElem?_eq_getElem (by rw [h.len]; exact hjl)]
    exact h.nz _ (List.getElem_mem _)
  have hsz : ∀ k, k < ((erow many ts).getD j []).length ↔ k < (row.getD j []).length := fun k => by
    rw [g.sz j k]
    constructor
    · rintro ⟨t, ht, rfl, hk⟩
      have := cf_in (by rw [(h.at' t ht).1]; exact (h.at' t ht).2 : cf (row.getD t.j []) t.k ≠ 0)
      omega
    · intro hk
      have := hz _ (at_map (show (row.getD j []).length - 1 < (row.getD j []).length by omega))
      obtain ⟨t, ht, e1, e2⟩ := h.all j _ this
      exact ⟨t, ht, e1, by omega⟩
  refine ints_ext ?_ hcf
  have a := hsz ((erow many ts).getD j []).length
  have b := hsz (row.getD j []).length
  omega
def tmJ (e : List Int) (j : Nat) : List Trm := (List.range e.length).filterMap fun o => if cf e o = 0 then none else some ⟨.inl (cf e o), o, j⟩
def tmN (row : List (List Int)) (n : Nat) : List Trm := (List.range n).flatMap fun j => tmJ (row.getD j []) j
theorem mem_tmJ {e : List Int} {j : Nat} {t : Trm} : t ∈ tmJ e j ↔ cf e t.k ≠ 0 ∧ t.h = .inl (cf e t.k) ∧ t.j = j := by
  unfold tmJ
  rw [List.mem_filterMap]
  constructor
  · rintro ⟨o, ho, z⟩
    by_cases y : cf e o = 0
    · rw [if_pos y] at z; cases z
    · rw [if_neg y] at z
      cases z
      exact ⟨y, rfl, rfl⟩
  · rintro ⟨h1, h2, h3⟩
    refine ⟨t.k, List.mem_range.mpr (cf_in h1), ?_⟩
    rw [if_neg h1, ← h2, ← h3]
theorem tmJ_apart (e : List Int) (j : Nat) : (tmJ e j).Pairwise Apart := by
  unfold tmJ
  rw [List.pairwise_filterMap]
  refine List.Pairwise.imp (R := (· < ·)) (fun {a b} h x hx y hy => ?_) List.pairwise_lt_range
  by_cases z : cf e a = 0
  · rw [if_pos z] at hx; cases hx
  · rw [if_neg z] at hx
    by_cases z2 : cf e b = 0
    · rw [if_pos z2] at hy; cases hy
    · rw [if_neg z2] at hy
      cases hx
      cases hy
      exact fun w => by have : a = b := w.2; omega
theorem mem_tmN {row : List (List Int)} {n : Nat} {t : Trm} : t ∈ tmN row n ↔ t.j < n ∧ cf (row.getD t.j []) t.k ≠ 0 ∧ t.h = .inl (cf (row.getD t.j []) t.k) := by
  unfold tmN
  rw [List.mem_flatMap]
  constructor
  · rintro ⟨j, hj, h⟩
    obtain ⟨h1, h2, rfl⟩ := mem_tmJ.mp h
    exact ⟨List.mem_range.mp hj, h1, h2⟩
  · rintro ⟨h1, h2, h3⟩
    exact ⟨t.j, List.mem_range.mpr h1, mem_tmJ.mpr ⟨h2, h3, rfl⟩⟩
theorem tmN_apart (row : List (List Int)) (n : Nat) : (tmN row n).Pairwise Apart := by
  unfold tmN
  rw [List.pairwise_flatMap]
  refine ⟨fun j _ => tmJ_apart _ _, ?_⟩
  refine List.Pairwise.imp (R := (· < ·)) (fun {a b} h x hx y hy w => ?_) List.pairwise_lt_range
  have e1 := (mem_tmJ.mp hx).2.2
  have e2 := (mem_tmJ.mp hy).2.2
  omega
theorem tells_tm {many : Nat} {row : List (List Int)} {ts : List Trm} (hl : row.length = many) (hz : ∀ e ∈ row, NZ e) (hm : ∀ t, t ∈ ts ↔ t ∈ tmN row many) (ha : ts.Pairwise Apart) : Tells many ts row := by
  refine ⟨hl, hz, fun t ht => (mem_tmN.mp ((hm t).mp ht)).1, ha, fun t ht => ?_, fun j k h => ?_⟩
  · obtain ⟨_, h2, h3⟩ := mem_tmN.mp ((hm t).mp ht)
    have e : tnum t = cf (row.getD t.j []) t.k := by unfold tnum; rw [h3]
    rw [e]
    exact ⟨rfl, h2⟩
  · have hj : j < many := by
      rw [← hl]
      refine Nat.lt_of_not_le fun z => h ?_
      rw [List.getD_eq_getElem?_getD, List.getElem?_eq_none z]; rfl
    exact ⟨⟨.inl (cf (row.getD j []) k), k, j⟩, (hm _).mpr (mem_tmN.mpr ⟨hj, h, rfl⟩), rfl, rfl⟩
theorem erow_tm {many : Nat} {row : List (List Int)} (hl : row.length = many) (hz : ∀ e ∈ row, NZ e) : erow many (tmN row many) = row := erow_tells (tells_tm hl hz (fun _ => Iff.rfl) (tmN_apart _ _))
theorem erow_tmR {many : Nat} {row : List (List Int)} (hl : row.length = many) (hz : ∀ e ∈ row, NZ e) : erow many (tmN row many).reverse = row :=
  erow_tells (tells_tm hl hz (fun _ => List.mem_reverse) (List.pairwise_reverse.mpr ((tmN_apart _ _).imp fun {a b} h z => h ⟨z.1.symm, z.2.symm⟩)))
/-! ### places and rows of orders -/
def ostep (rows : List (List Int)) (p : Nat × Nat) : List (List Int) := rows.set p.2 (rows.getD p.2 [] ++ [(p.1 : Int)])
def orow (many : Nat) (ps : List (Nat × Nat)) : List (List Int) := ps.foldl ostep (List.replicate many [])
theorem ofold_len : ∀ (ps : List (Nat × Nat)) (rows : List (List Int)), (ps.foldl ostep rows).length = rows.length
  | [], _ => rfl
  | p :: r, rows => by rw [List.foldl_cons, ofold_len r]; unfold ostep; rw [List.length_set]
theorem ofold_at : ∀ (ps : List (Nat × Nat)) (rows : List (List Int)) (j : Nat), (∀ p ∈ ps, p.2 < rows.length) → (ps.foldl ostep rows).getD j [] = rows.getD j [] ++ (ps.filter fun p => decide (p.2 = j)).map fun p => (p.1 : Int)
  | [], rows, j, _ => by rw [List.foldl_nil]; show _ = _ ++ []; rw [List.append_nil]
  | p :: r, rows, j, h => by
    have hp := h p List.mem_cons_self
    rw [List.foldl_cons, ofold_at r _ j fun q hq => by unfold ostep; rw [List.length_set]; exact h q (List.mem_cons_of_mem _ hq)]
    unfold ostep
    rw [getD_set hp, List.filter_cons]
    by_cases e : j = p.2
    · rw [if_pos e, if_pos (decide_eq_true e.symm), List.map_cons, List.append_assoc, e]; rfl
    · rw [if_neg e, if_neg (by rw [decide_eq_true_eq]; exact fun z => e z.symm)]
theorem orow_at {many : Nat} {ps : List (Nat × Nat)} (h : ∀ p ∈ ps, p.2 < many) (j : Nat) : (orow many ps).getD j [] = (ps.filter fun p => decide (p.2 = j)).map fun p => (p.1 : Int) := by
  unfold orow
  rw [ofold_at _ _ _ fun p hp => by rw [List.length_replicate]; exact h p hp, getD_rep, List.nil_append]
theorem asc_unique : ∀ {xs ys : List Int}, xs.Pairwise (· < ·) → ys.Pairwise (· < ·) → (∀ k : Int, k ∈ xs ↔ k ∈ ys) → xs = ys
  | [], [], _, _, _ => rfl
  | [], y :: ys, _, _, h => by have := (h y).mpr List.mem_cons_self; cases this
  | x :: xs, [], _, _, h => by have := (h x).mp List.mem_cons_self; cases this
  | x :: xs, y :: ys, hx, hy, h => by
    obtain ⟨hx1, hx2⟩ := List.pairwise_cons.mp hx
    obtain ⟨hy1, hy2⟩ := List.pairwise_cons.mp hy
    have e : x = y := by
      rcases List.mem_cons.mp ((h x).mp List.mem_cons_self) with z | z
      · exact z
      · rcases List.mem_cons.mp ((h y).mpr List.mem_cons_self) with u | u
        · exact u.symm
        · have a := hy1 x z
          have b := hx1 y u
          omega
    subst e
    rw [asc_unique hx2 hy2 fun k => ?_]
    constructor
    · intro m
      rcases List.mem_cons.mp ((h k).mp (List.mem_cons_of_mem _ m)) with z | z
      · subst z; have := hx1 k m; omega
      · exact z
    · intro m
      rcases List.mem_cons.mp ((h k).mpr (List.mem_cons_of_mem _ m)) with z | z
      · subst z; have := hy1 k m; omega
      · exact z
/-- the places are those of the row -/
structure Lays (many : Nat) (ps : List (Nat × Nat)) (row : List (List Int)) : Prop where
  len : row.length = many
  asc : ∀ e ∈ row, e.Pairwise (· < ·)
  nd : ps.Nodup
  hj : ∀ p ∈ ps, p.2 < many
  mem : ∀ j, j < many → ∀ k : Int, k ∈ row.getD j [] ↔ ∃ p ∈ ps, p.2 = j ∧ k = (p.1 : Nat)
theorem Lays.perm {many : Nat} {ps qs : List (Nat × Nat)} {row : List (List Int)} (h : Lays many ps row) (p : qs.Perm ps) : Lays many qs row :=
  ⟨h.len, h.asc, p.nodup_iff.mpr h.nd, fun x hx => h.hj x (p.mem_iff.mp hx), fun j hj k => (h.mem j hj k).trans ⟨fun ⟨x, hx, e⟩ => ⟨x, p.mem_iff.mpr hx, e⟩, fun ⟨x, hx, e⟩ => ⟨x, p.mem_iff.mp hx, e⟩⟩⟩
theorem orow_lays {many : Nat} {ps : List (Nat × Nat)} {row : List (List Int)} (h : Lays many ps row) (hs : ps.Pairwise fun p q => p.1 ≤ q.1) : orow many ps = row := by
  have ln : (orow many ps).length = many := by unfold orow; rw [ofold_len, List.length_replicate]
  refine rows_ext (by rw [ln, h.len]) fun j hj => ?_
  rw [ln] at hj
  rw [orow_at h.hj]
  refine asc_unique ?_ ?_ fun k => ?_
  · rw [List.pairwise_map]
    have both : ps.Pairwise fun p q => p.1 ≤ q.1 ∧ p ≠ q := hs.imp₂ (fun a b c d => ⟨c, d⟩) h.nd
    refine List.Pairwise.imp_of_mem (fun {a b} ha hb z => ?_) (both.filter _)
    have e1 := of_decide_eq_true (List.mem_filter.mp ha).2
    have e2 := of_decide_eq_true (List.mem_filter.mp hb).2
    have : a.1 ≠ b.1 := fun y => z.2 (Prod.ext y (e1.trans e2.symm))
    omega
  · refine h.asc _ ?_
    rw [List.getD_eq_getElem?_getD, List.getElem?_eq_getElem (by rw [h.len]; exact hj)]
    exact List.getElem_mem _
  · rw [h.mem j hj k, List.mem_map]
    constructor
    · rintro ⟨p, hp, e⟩
      obtain ⟨hp, e1⟩ := List.mem_filter.mp hp
      exact ⟨p, hp, of_decide_eq_true e1, e.symm⟩
    · rintro ⟨p, hp, e1, e2⟩
      exact ⟨p, List.mem_filter.mpr ⟨hp, decide_eq_true e1⟩, e2.symm⟩
def plJ (e : List Int) (j : Nat) : List (Nat × Nat) := e.map fun k => (k.toNat, j)
def plN (row : List (List Int)) (n : Nat) : List (Nat × Nat) := (List.range n).flatMap fun j => plJ (row.getD j []) j
theorem lays_pl {many : Nat} {row : List (List Int)} (hl : row.length = many) (ho : ∀ e ∈ row, OA e) : Lays many (plN row many) row := by
  have hE : ∀ j, j < many → OA (row.getD j []) := fun j hj => by
    rw [List.getD_eq_getElem?_getD, List.getElem?_eq_getElem (by omega)]
    exact ho _ (List.getElem_mem _)
  refine ⟨hl, fun e he => (ho e he).1, ?_, fun p hp => ?_, fun j hj k => ?_⟩
  · unfold plN List.Nodup
    rw [List.pairwise_flatMap]
    refine ⟨fun j hj => ?_, ?_⟩
    · unfold plJ
      rw [List.pairwise_map]
      obtain ⟨h1, h2⟩ := hE j (List.mem_range.mp hj)
      refine List.Pairwise.imp_of_mem (fun {a b} ha hb z y => ?_) h1
      have e := (Prod.mk.inj y).1
      have := h2 a ha
      have := h2 b hb
      omega
    · refine List.Pairwise.imp (R := (· < ·)) (fun {a b} h x hx y hy w => ?_) List.pairwise_lt_range
      obtain ⟨_, _, rfl⟩ := List.mem_map.mp hx
      obtain ⟨_, _, rfl⟩ := List.mem_map.mp hy
      have := (Prod.mk.inj w).2
      omega
  · obtain ⟨j, hj, h⟩ := List.mem_flatMap.mp hp
    obtain ⟨_, _, rfl⟩ := List.mem_map.mp h
    exact List.mem_range.mp hj
  · constructor
    · intro hk
      have := (hE j hj).2 k hk
      exact ⟨(k.toNat, j), List.mem_flatMap.mpr ⟨j, List.mem_range.mpr hj, List.mem_map.mpr ⟨k, hk, rfl⟩⟩, rfl, by show k = ((k.toNat : Nat) : Int); omega⟩
    · rintro ⟨p, hp, rfl, rfl⟩
      obtain ⟨j, hj9, h⟩ := List.mem_flatMap.mp hp
      obtain ⟨k, hk, rfl⟩ := List.mem_map.mp h
      have := (hE _ (List.mem_range.mp hj9)).2 k hk
      show ((k.toNat : Nat) : Int) ∈ row.getD j []
      rw [show ((k.toNat : Nat) : Int) = k by omega]
      exact hk
/-! ### exact rows put in -/
def hole (r : Rw) : Rw := if r.1 = true then (true, []) else r
def ixs : Nat → List Rw → List Nat
  | _, [] => []
  | o, r :: rs => if r.1 = true then o :: ixs (o + 1) rs else ixs (o + 1) rs
theorem ixs_eq : ∀ (rs : List Rw) (o : Nat), ((List.range rs.length).filter fun i => (rs.getD i (false, [])).1).map (fun i => o + i) = ixs o rs
  | [], _ => rfl
  | r :: rs, o => by
    rw [List.length_cons, List.range_succ_eq_map, List.filter_cons, List.filter_map]
    show (if r.1 = true then 0 :: _ else _).map _ = if r.1 = true then o :: ixs (o + 1) rs else ixs (o + 1) rs
    have ih := ixs_eq rs (o + 1)
    have e : (((List.range rs.length).filter ((fun i => ((r :: rs).getD i (false, [])).1) ∘ Nat.succ)).map Nat.succ).map (fun i => o + i) = ixs (o + 1) rs := by
      rw [List.map_map, ← ih]
      refine List.map_congr_left fun i _ => ?_
      show o + (i + 1) = o + 1 + i
      omega
    cases r.1 with
    | true =>
      rw [if_pos rfl, if_pos rfl, List.map_cons, e]; rfl
    | false => exact e
theorem idxE_eq (rs : List Rw) : idxE rs = ixs 0 rs := by
  rw [← ixs_eq rs 0]
  unfold idxE
  conv => rhs; arg 1; ext i; rw [Nat.zero_add]
  rw [List.map_id']
theorem put_back : ∀ (rs pre : List Rw), ((ixs pre.length rs).zip (exs rs)).foldl seE (pre ++ rs.map hole) = pre ++ rs
  | [], pre => rfl
  | r :: rs, pre => by
    have e1 : pre ++ (r :: rs).map hole = (pre ++ [hole r]) ++ rs.map hole := by rw [List.append_assoc]; rfl
    have e2 : pre ++ r :: rs = (pre ++ [r]) ++ rs := by rw [List.append_assoc]; rfl
    have e3 : (pre ++ [r]).length = pre.length + 1 := by rw [List.length_append]; rfl
    have ih := put_back rs (pre ++ [r])
    rw [e3] at ih
    rw [e2, ← ih, e1]
    obtain ⟨b, els⟩ := r
    cases b with
    | true =>
      show List.foldl seE _ (((pre.length) :: ixs (pre.length + 1) rs).zip (els :: exs rs)) = _
      rw [List.zip_cons_cons, List.foldl_cons]
      congr 1
      show ((pre ++ [hole (true, els)]) ++ rs.map hole).set pre.length (true, els) = _
      rw [List.append_assoc, List.set_append_right _ _ (Nat.le_refl _), Nat.sub_self, List.append_assoc]; rfl
    | false => rfl
theorem ixs_hole : ∀ (rs : List Rw) (o : Nat), ixs o (rs.map hole) = ixs o rs
  | [], _ => rfl
  | (true, els) :: rs, o => by
    show o :: ixs (o + 1) (rs.map hole) = o :: ixs (o + 1) rs
    rw [ixs_hole rs]
  | (false, els) :: rs, o => by
    show ixs (o + 1) (rs.map hole) = ixs (o + 1) rs
    rw [ixs_hole rs]
theorem chg_back (rs : List Rw) : chgS (rs.map hole) (exs rs) = rs := by
  unfold chgS
  rw [idxE_eq, ixs_hole]
  exact put_back rs []
-- U
/-! ### the rows of orders -/
def kOf (H : Hp) (v : V) : Int × Int := match v with
  | .ref t => match H t with
    | some (.tup [.int a, .int b]) => (a, b)
    | _ => (0, 0)
  | _ => (0, 0)
theorem kOf_pt {K : PySem.W.Frag} {H : Hp} {v : V} {p : Nat × Nat} (h : PT2 K H v p) : kOf H v = ((p.1 : Int), (p.2 : Int)) := by
  obtain ⟨a, rfl, e⟩ := h
  simp only [kOf, e]
theorem sorted_pl {K : PySem.W.Frag} {H : Hp} {xs ys : List V} {ps : List (Nat × Nat)} (hA : A2 (PT2 K H) xs ps) (hS : SrtO.Srtd (ltP (kOf H)) ys) (hB : ys.Perm xs) :
    ∃ qs, A2 (PT2 K H) ys qs ∧ qs.Perm ps ∧ qs.Pairwise fun p q => p.1 ≤ q.1 := by
  let f : V → Nat × Nat := fun y => ((kOf H y).1.toNat, (kOf H y).2.toNat)
  have fx : ∀ {xs : List V} {ps : List (Nat × Nat)}, A2 (PT2 K H) xs ps → xs.map f = ps := by
    intro xs ps h
    induction h with
    | nil => rfl
    | @cons a b as bs h t ih =>
      rw [List.map_cons, ih]
      show (_ :: _) = _
      have : f a = b := by
        show ((kOf H a).1.toNat, (kOf H a).2.toNat) = b
        rw [kOf_pt h]; rfl
      rw [this]
  have at1 : ∀ y ∈ ys, PT2 K H y (f y) := fun y hy => by
    obtain ⟨i, hi, e⟩ := List.getElem_of_mem (hB.mem_iff.mp hy)
    obtain ⟨p, hp, h⟩ := hA.get (List.getElem?_eq_getElem hi)
    rw [e] at h
    have : f y = p := by
      show ((kOf H y).1.toNat, (kOf H y).2.toNat) = p
      rw [kOf_pt h]; rfl
    rw [this]; exact h
  refine ⟨ys.map f, ?_, ?_, ?_⟩
  · have go : ∀ zs : List V, (∀ y ∈ zs, PT2 K H y (f y)) → A2 (PT2 K H) zs (zs.map f) := by
      intro zs
      induction zs with
      | nil => exact fun _ => .nil
      | cons z r ih => exact fun h => .cons (h z List.mem_cons_self) (ih fun y hy => h y (List.mem_cons_of_mem _ hy))
    exact go ys at1
  · rw [← fx hA]
    exact hB.map f
  · rw [List.pairwise_map]
    refine List.Pairwise.imp (fun {a b} h => ?_) hS
    have := SrtO.lexB_no.mp h
    show (kOf H a).1.toNat ≤ (kOf H b).1.toNat
    omega
section
variable {P : Program} {w : World} {K : PySem.W.Frag} {mg : Str → Option Value} {base : Heap}
theorem ostep_take {many : Nat} {qs : List (Nat × Nat)} {i : Nat} {p : Nat × Nat} (h : qs[i]? = some p) : orow many (qs.take (i + 1)) = ostep (orow many (qs.take i)) p := fold_take _ _ h
theorem orow_len {many : Nat} (qs : List (Nat × Nat)) : (orow many qs).length = many := by unfold orow; rw [ofold_len, List.length_replicate]
def sp_orders_of (K : PySem.W.Frag) : Sp := fun vs H Q _ => ∃ (v : V) (l : Lw) (many : Nat) (row : List (List Int)), vs = [v, .int (many : Nat)] ∧ LW K H v l ∧ VL many l ∧ many ≤ 30 ∧ Lays many l.places row ∧ ∀ H' p, Same H H' → H p = none → RowF H H' p row → Q (.ref p) H'
theorem ok_orders_of (T : Txt K mg) : FnOk P w K mg base CX0 4 T.orders_of.a T.orders_of.fd ["told", "many"] (sp_orders_of K) := by
  refine T.orders_of.F.ok sc_orders_of (fun vs H Q E h => ?_) (fun cdv A outer s H vs Q E hr h => ?_)
  · obtain ⟨v, l, many, row, rfl, _⟩ := h
    rfl
  · obtain ⟨v, l, many, row, rfl, hl, vl, hm, hlay, q⟩ := h
    refine ⟨_, (pss_cons (ps_setLc (i := 2) (own := [("_", 5)]) rfl sc_orders_of.nd rfl rfl (sw_true rfl rfl rfl (by decide +kernel)) (pi_range1 (by rfl) T.m_range (pa_cons (pv 1) pa_nil)) (blkOk_by (N := ["told", "many", "row", "k", "j", "_"]) (sc := defScope s_orders_of) (by decide +kernel)) (fun _ _ _ _ _ => (pg_name (i := 5) sc_orders_of.nd rfl (.inl rfl))) (fun _ _ _ _ _ => pts_nil) (fun _ _ _ _ _ => (pe_lst pa_nil)))
      (pss_cons (ps_for PassesOwn.never rfl (pi_list (pe_callB cr_sortedPO (by rfl) T.m_sorted (by decide +kernel) (pa_cons (pe_call (ok_places_of T) (hr.mono (by decide)) (by rfl) T.places_of.g T.places_of.F.kp T.places_of.b .nil pass0 (pa_cons (pv 0) pa_nil)) pa_nil))) (pg_tup rfl (pgs_cons (pg_name (i := 3) sc_orders_of.nd rfl (.inl rfl)) (pgs_cons (pg_name (i := 4) sc_orders_of.nd rfl (.inl rfl)) pgs_nil)))
        (pss_one (ps_expr (pe_bm PySem.F.plainAttrs_list PySem.F.slot_list_append PySem.F.type_list_append mt_append (pe_ix ix_list (pv 2) (pv 4) (fun _ _ => rfl)) (pa_cons (pv 3) pa_nil)))))
      (pss_one (ps_ret (pv 2))))), ?_⟩
    refine ⟨_, rfl, (many : Nat), rfl, by omega, by omega, fun D nD => ?_⟩
    rw [Int.toNat_natCast]
    refine lc_inv (walk_range (lo := 0) (n := many)) (fun i G ys => ∃ es : List Addr, ys = es.map V.ref ∧ es.length = i ∧ Inj es ∧ ∀ e ∈ es, IL G e [] ∧ e ≠ D ∧ H e = none) nD (fun _ _ => trivial) (small' (by omega)) ⟨[], rfl, rfl, fun _ _ _ h => by simp at h, fun _ h => by cases h⟩ (fun i x G Hx ys hi sm hD hR y Qt Qf qt qf => ?_) (fun H1 ys sm hD hR => ?_)
    · obtain ⟨rfl, rfl⟩ := y
      obtain ⟨es, rfl, hn, inj, hes⟩ := hR
      refine ⟨rfl, by show 0 ≤ sizeLine; decide, fun e ne => ?_⟩
      have eD : e ≠ D := fun z => by rw [z, hD] at ne; cases ne
      refine qt _ _ (same_upd ne) ⟨es ++ [e], by rw [List.map_append]; rfl, by simp [hn], inj.snoc (fun z => by have := (hes e z).1; rw [IL, ne] at this; cases this), fun x hx => ?_⟩
      rcases List.mem_append.mp hx with hx | hx
      · obtain ⟨h1, h2, h3⟩ := hes x hx
        refine ⟨?_, h2, h3⟩
        show upd _ D _ x = _
        rw [upd_ne h2]
        exact same_upd ne _ _ h1
      · simp at hx
        subst hx
        refine ⟨?_, eD, sm.free ne⟩
        show upd _ D _ x = _
        rw [upd_ne eD, upd_same]; rfl
    · obtain ⟨es, rfl, hn, inj, hes⟩ := hR
      refine ⟨v, rfl, v, l, rfl, hl.same sm, Nat.le_trans vl.many (by decide), fun H2 c s2 nc hPL => ?_⟩
      obtain ⟨xs, hc, hA⟩ := hPL
      refine ⟨c, xs, kOf H2, rfl, .of hc, fun x hx => ?_, fun ys d hS hB nd => ?_⟩
      · obtain ⟨i, hi, e⟩ := List.getElem_of_mem hx
        obtain ⟨p, _, h⟩ := hA.get (List.getElem?_eq_getElem hi)
        rw [e] at h
        have hk := kOf_pt h
        obtain ⟨a, rfl, ha⟩ := h
        exact ⟨a, rfl, by rw [hk]; exact ha⟩
      obtain ⟨qs, hQ, hP, hsort⟩ := sorted_pl hA hS hB.perm
      have lays := hlay.perm hP
      have s3 := same_upd nd (o := .lst ys)
      have s13 := s2.trans s3
      have lq : qs.length ≤ 301 := by
        have e1 := hP.length_eq
        have := vl.many
        rw [e1]
        unfold Lw.places
        cases l.ex <;> simp <;> omega
      refine ⟨d, rfl, ⟨_, .of upd_same⟩, ?_⟩
      have hdl := upd_same (H := H2) (a := d) (o := .lst ys)
      have hQ2 : A2 (PT2 K (upd H2 d (.lst ys))) ys qs := hQ.mono fun _ _ z => z.same s3
      have dD : d ≠ D := fun z => by rw [z] at nd; have := s2 _ _ hD; rw [nd] at this; cases this
      have desn : ∀ e ∈ es, d ≠ e := fun e he z => by
        rw [z] at nd
        have := s2 _ _ (hes e he).1
        rw [nd] at this
        cases this
      have hes2 : ∀ j e, es[j]? = some e → IL (upd H2 d (.lst ys)) e [] := fun j e he => ((hes e (mem_at he)).1.same s2).same s3
      have hD2 := s13 _ _ hD
      have sA := sm.trans s13
      generalize upd H2 d (.lst ys) = G0 at hdl hQ2 hes2 hD2 sA s3 s13
      refine for_it (walk_list (xs := ys)) (fun i σ G => ∃ x3 x4, σ = [some v, some (.int (many : Nat)), some (.ref D), x3, x4, none] ∧ Same H G ∧ (∀ b o, b ∉ es → G0 b = some o → G b = some o) ∧ ∀ j e, es[j]? = some e → IL G e ((orow many (qs.take i)).getD j []))
        ⟨none, none, rfl, sA, (fun _ _ _ h => h), fun j e he => ?_⟩ (fun i σ G _ p => ?_) (fun i x σ G G' hi p y => ?_) (fun σ G p => ?_)
      · rw [show (orow many (qs.take 0)).getD j [] = [] by
          unfold orow
          rw [List.take_zero, List.foldl_nil, getD_rep]]
        exact hes2 j e he
      · obtain ⟨_, _, _, _, st, _⟩ := p
        exact .of (st _ _ (fun z => desn d z rfl) hdl)
      · obtain ⟨x3, x4, rfl, sG, st, he⟩ := p
        obtain ⟨rfl, hx⟩ := y
        obtain ⟨p, hp, b, rfl, hb⟩ := hQ2.get hx
        have hpj := lays.hj p (mem_at hp)
        have hbn : b ∉ es := fun z => by
          obtain ⟨j, hj, e⟩ := List.getElem_of_mem z
          have := hes2 j b (by rw [List.getElem?_eq_getElem hj, e])
          have := hb.symm.trans this
          cases this
        have hDn : D ∉ es := fun z => (hes D z).2.1 rfl
        obtain ⟨e, hej⟩ : ∃ e, es[p.2]? = some e := ⟨es[p.2]'(by omega), by simp [show p.2 < es.length by omega]⟩
        have hIL := he _ _ hej
        refine ⟨b, _, rfl, .inl (.inl (st _ _ hbn hb)), rfl, _, _, rfl, _, _, rfl, rfl, ?_⟩
        have hlen : ((orow many (qs.take i)).getD p.2 []).length ≤ 301 := by
          rw [orow_at fun u hu => lays.hj u (List.mem_of_mem_take hu), List.length_map]
          exact Nat.le_trans (List.length_filter_le _ _) (by rw [List.length_take]; omega)
        have hDG := st _ _ hDn hD2
        refine ⟨.ref D, rfl, _, rfl, D, _, _, _, rfl, rfl, .of hDG, (atI_nat (by rw [List.getElem?_map, hej]; rfl)), ?_⟩
        refine .inl ⟨rfl, _, hIL.sq⟩ |> fun z => ⟨z, _, rfl, e, _, _, rfl, rfl, hIL, small' (by rw [List.length_map]; omega), ?_⟩
        refine ⟨_, _, rfl, fun a o ha => ?_, fun a o ha h0 => ?_, fun j e' he' => ?_⟩
        · have ae : a ≠ e := fun z => by rw [z, (hes e (mem_at hej)).2.2] at ha; cases ha
          rw [upd_ne ae]; exact sG _ _ ha
        · have ae : a ≠ e := fun z => ha (by rw [z]; exact mem_at hej)
          rw [upd_ne ae]; exact st _ _ ha h0
        · rw [ostep_take hp]
          unfold ostep
          rw [getD_set (by rw [orow_len]; exact hpj)]
          by_cases ej : j = p.2
          · subst ej
            obtain rfl := Option.some.inj (he'.symm.trans hej)
            rw [if_pos rfl]
            show upd G' e' _ e' = _
            rw [upd_same, app_ints]
          · rw [if_neg ej]
            have ne : e' ≠ e := fun y => ej (inj _ _ e (by rw [← y]; exact he') hej)
            show upd G' e _ e' = _
            rw [upd_ne ne]
            exact he j e' he'
      · obtain ⟨x3, x4, rfl, sG, st, he⟩ := p
        have hDn : D ∉ es := fun z => (hes D z).2.1 rfl
        have hDG := st _ _ hDn hD2
        refine ⟨_, rfl, q G D sG nD ⟨es, hDG, ?_⟩⟩
        rw [List.take_of_length_le (by rw [hQ2.len]; exact Nat.le_refl _), orow_lays lays hsort] at he
        refine a2_at (d := []) (by rw [hn, hlay.len]) fun j e hj => ⟨(hes e (mem_at hj)).2.2, he j e hj⟩
end
-- V
/-! ### the grid of a model -/
/-- what a law stands for -/
def LR (many : Nat) (l : Lw) (r : Rw) : Prop := l.ex = r.1 ∧ (r.1 = true → erow many l.ts = r.2) ∧ (r.1 = false → Lays many l.places r.2)
theorem ftab_exs {many : Nat} : ∀ {ls : List Lw} {rows : List Rw}, A2 (LR many) ls rows → (ls.filterMap fun l => if l.ex then some (erow many l.ts) else none) = exs rows
  | _, _, .nil => rfl
  | l :: ls, r :: rows, .cons h t => by
    have ih := ftab_exs t
    unfold exs at ih ⊢
    rw [List.filterMap_cons, List.filterMap_cons, ih, h.1]
    cases e : r.1 with
    | true =>
      show erow many l.ts :: _ = r.2 :: _
      rw [h.2.1 e]
    | false => rfl
theorem exs_len (rows : List Rw) : (exs rows).length ≤ rows.length := List.length_filterMap_le _ _
theorem exs_mem {rows : List Rw} {e : List (List Int)} (h : e ∈ exs rows) : ∃ r ∈ rows, r.2 = e := by
  unfold exs at h
  obtain ⟨r, hr, z⟩ := List.mem_filterMap.mp h
  by_cases y : r.1 = true
  · rw [if_pos y] at z; exact ⟨r, hr, Option.some.inj z⟩
  · rw [if_neg y] at z; cases z
theorem RFD.base {D : Addr} {H0 H1 H : Hp} {v : V} {r : Rw} (s : Same H0 H1) (h : RFD D H1 H v r) : RFD D H0 H v r := let ⟨t, b, as, e, nt, nb, ht, hb, hr⟩ := h; ⟨t, b, as, e, ⟨nt.1, s.free nt.2⟩, ⟨nb.1, s.free nb.2⟩, ht, hb, hr.mono fun _ _ z => ⟨⟨z.1.1, s.free z.1.2⟩, z.2⟩⟩
theorem RFD.row {K : PySem.W.Frag} {D : Addr} {H0 H : Hp} {v : V} {r : Rw} (h : RFD D H0 H v r) : RwV K H v r := let ⟨t, b, as, e, nt, nb, ht, hb, hr⟩ := h; ⟨t, b, e, .inl (.inl ht), as, hb, hr.mono fun _ _ z => z.2⟩
theorem hole_len {r : Rw} {n : Nat} (h : r.2.length ≤ n) : (hole r).2.length ≤ n := by
  unfold hole
  split
  · exact Nat.zero_le _
  · exact h
section
variable {P : Program} {w : World} {K : PySem.W.Frag} {mg : Str → Option Value} {base : Heap}
def sp_grid_of (K : PySem.W.Frag) (C1 C2 : Addr) : Sp := fun vs H Q E => ∃ (u q r : Addr) (qs xs : List V), vs = [.ref u] ∧ SqT K H u [.ref q, .ref r] ∧ SqL K H q qs ∧ SqL K H r xs ∧ xs.length ≤ 1000 ∧ qs.length ≤ 1000 ∧
  (xs.length ≠ qs.length → ∀ dd, H dd = none → E (.ref C1) (some dd) (upd H dd (.xd [("at", .int (xs.length : Nat))]))) ∧
  (xs.length = qs.length → 16 < xs.length → ∀ dd, H dd = none → E (.ref C2) (some dd) (upd H dd (.xd [("at", .int (xs.length : Nat))]))) ∧
  (xs.length = qs.length → xs.length ≤ 16 → ∃ (m : Mdl) (rows : List Rw), qs = m.qs.map V.str ∧ A2 (LW K H) xs m.ls ∧ VM xs.length m ∧ VG xs.length rows ∧ A2 (LR xs.length) m.ls rows ∧
    ∀ H' p ys, Same H H' → H p = none → H' p = some (.lst ys) → A2 (RFD p H H') ys rows → Q (.ref p) H')
theorem ok_grid_of (T : Txt K mg) (X : Errs K mg) : FnOk P w K mg base (L2.CX P w) 6 T.grid_of.a T.grid_of.fd ["model"] (sp_grid_of K X.NotSquare.C X.TooLarge.C) := by
  refine T.grid_of.F.okX sc_grid_of (fun vs H Q E h => ?_) (fun cdv A outer s H vs Q E hr h => ?_)
  · obtain ⟨u, q0, r, qs, xs, rfl, _⟩ := h
    rfl
  · obtain ⟨u, qa, r, qs, xs, rfl, hu, hq, hx, lx, lq, e1, e2, q⟩ := h
    refine ⟨_, (pss_cons (ps_asg (pv 0) (pg_tup rfl (pgs_cons (pg_name (i := 1) sc_grid_of.nd rfl (.inl rfl)) (pgs_cons (pg_name (i := 2) sc_grid_of.nd rfl (.inl rfl)) pgs_nil))))
      (pss_cons (ps_set (i := 3) sc_grid_of.nd rfl (.inr rfl) (pe_callB call_len_seq (by rfl) T.m_len (by decide +kernel) (pa_cons (pv 2) pa_nil)))
      (pss_cons (ps_if (pt_cmpR op_ne (pv 3) (pe_callB call_len_seq (by rfl) T.m_len (by decide +kernel) (pa_cons (pv 1) pa_nil)) (nomark _))
        (pss_one (ps_raise rfl (takes_of rfl rfl rfl rfl) (pmk_oex X.NotSquare.oex X.NotSquare.iC X.e0.tI (ok_init T X) (hr.mono (by decide)) X.e0.b .nil pass0 (by rfl) X.NotSquare.g (pa_cons (pv 3) pa_nil))))
        pss_nil)
      (pss_cons (ps_if (pt_cmpR op_gt (pv 3) (pe_glob (v := .int 16) rfl T.c_MOST_ROWS ⟨_, rfl⟩) (nomark _))
        (pss_one (ps_raise rfl (takes_of rfl rfl rfl rfl) (pmk_oex X.TooLarge.oex X.TooLarge.iC X.e0.tI (ok_init T X) (hr.mono (by decide)) X.e0.b .nil pass0 (by rfl) X.TooLarge.g (pa_cons (pv 3) pa_nil))))
        pss_nil)
      (pss_cons (ps_setLc (i := 4) (own := [("told", 5)]) rfl sc_grid_of.nd rfl rfl (sw_true rfl rfl rfl (by decide +kernel)) (pi_list (pv 2)) (blkOk_by (N := ["model", "quantities", "laws", "many", "sized", "told"]) (sc := defScope s_grid_of) (by decide +kernel)) (fun _ _ _ _ _ => (pg_name (i := 5) sc_grid_of.nd rfl (.inl rfl))) (fun _ _ _ _ _ => pts_nil) (fun _ _ _ _ _ => (pe_ifExp (pt_val (pe_call (ok_is_exactL T) (hr.mono (by decide)) (by rfl) T.is_exact.g T.is_exact.F.kp T.is_exact.b .nil pass0 (pa_cons (pv 5) pa_nil))) (pe_tup (pa_cons pe_str (pa_cons (pe_lst pa_nil) pa_nil))) (pe_tup (pa_cons pe_str (pa_cons (pe_call (ok_orders_of T) (hr.mono (by decide)) (by rfl) T.orders_of.g T.orders_of.F.kp T.orders_of.b .nil pass0 (pa_cons (pv 5) (pa_cons (pv 3) pa_nil))) pa_nil))))))
      (pss_one (ps_ret (pe_call (ok_with_exact T) (hr.mono (by decide)) (by rfl) T.with_exact.g T.with_exact.F.kp T.with_exact.b .nil pass0 (pa_cons (pv 4) (pa_cons (pe_call (ok_exact_table T) (hr.mono (by decide)) (by rfl) T.exact_table.g T.exact_table.F.kp T.exact_table.b .nil pass0 (pa_cons (pv 0) pa_nil)) pa_nil)))))))))), ?_⟩
    refine ⟨.ref u, rfl, u, _, rfl, hu, rfl, _, _, rfl, _, _, rfl, rfl, ?_⟩
    refine ⟨.ref r, rfl, r, _, rfl, .inl hx, ?_⟩
    refine ⟨_, rfl, .ref qa, rfl, qa, _, rfl, .inl hq, rfl, _, rfl, ?_⟩
    by_cases ne : xs.length = qs.length
    · rw [show decide (V.int (xs.length : Nat) = V.int (qs.length : Nat)) = true from decide_eq_true (by rw [ne])]
      refine iteF ⟨_, rfl, _, _, rfl, rfl, _, rfl, ?_⟩
      by_cases big : 16 < xs.length
      · rw [decide_eq_true (show (16 : Int) < (xs.length : Nat) by omega)]
        exact iteT ⟨_, rfl, by show 1 ≤ 1000; decide, LX.raised X.TooLarge (by omega) (e2 ne big)⟩
      · rw [decide_eq_false (show ¬ (16 : Int) < (xs.length : Nat) by omega)]
        refine iteF ?_
        obtain ⟨m, rows, rfl, hW, vm, vg, hLR, qq⟩ := q ne (by omega)
        have lls := vm.ls
        have lrows := vg.1
        generalize hmany : xs.length = many at vm vg hLR lls lrows
        have m16 : many ≤ 16 := by omega
        refine ⟨.ref r, rfl, r, rfl, ⟨_, hx⟩, fun D nD => ?_⟩
        refine lc_fm (walk_list (xs := xs)) rows (fun r => some (hole r)) (RFD D H) (fun _ _ _ _ s h => h.up s) (by omega) nD (fun H' s => s.seq hx) (small' (by omega)) (fun i x G Hx ys r hr2 sm hD y Qt Qf qt qf => ?_) (fun G ys sm hD hR => ?_)
        · obtain ⟨rfl, hxi⟩ := y
          obtain ⟨l, hl, rl⟩ := hW.get hxi
          obtain ⟨r', hr', lr⟩ := hLR.get hl
          obtain rfl := Option.some.inj (hr2.symm.trans hr')
          have off : ∀ {c : Addr}, Hx c = none → c ≠ D := fun {c} z y => by rw [y, hD] at z; cases z
          refine ⟨rfl, x, rfl, x, l, rfl, rl.same sm, _, rfl, ?_⟩
          rw [lr.1]
          cases e : r.1 with
          | true =>
            refine iteT ⟨by show 0 ≤ sizeLine; decide, fun b nb => ?_⟩
            have s1 := same_upd nb (o := .lst [])
            refine ⟨by show 2 ≤ sizeLine; decide, fun t nt => ?_⟩
            have s2 := same_upd nt (o := .tup [.str "exact", .ref b])
            refine qt _ _ _ rfl (s1.trans s2) ⟨t, b, [], rfl, ⟨off (s1.free nt), sm.free (s1.free nt)⟩, ⟨off nb, sm.free nb⟩, ?_, s2 _ _ upd_same, ?_⟩
            · unfold hole; rw [if_pos e]; exact upd_same
            · unfold hole; rw [if_pos e]; exact .nil
          | false =>
            refine iteF ⟨x, rfl, _, rfl, x, l, many, r.2, rfl, rl.same sm, vm.ok l (mem_at hl), by omega, lr.2.2 e, fun G2 b s1 nb hF => ?_⟩
            obtain ⟨as, hb, hE⟩ := hF
            refine ⟨by show 2 ≤ sizeLine; decide, fun t nt => ?_⟩
            have s2 := same_upd nt (o := .tup [.str "sized", .ref b])
            have hh : hole r = r := by unfold hole; rw [if_neg (by rw [e]; exact fun z => nomatch z)]
            refine qt _ _ _ rfl (s1.trans s2) ⟨t, b, as, rfl, ⟨off (s1.free nt), sm.free (s1.free nt)⟩, ⟨off nb, sm.free nb⟩, ?_, ?_, ?_⟩
            · rw [hh, e]; exact upd_same
            · exact s2 _ _ hb
            · rw [hh]
              exact hE.mono fun _ _ z => ⟨⟨off z.1, sm.free z.1⟩, z.2.same s2⟩
        · rw [fm_some] at hR
          refine ⟨.ref D, rfl, .ref u, rfl, .ref u, m, many, rfl, ⟨u, qa, r, xs, rfl, Same.seqT sm hu, sm.seq hq, sm.seq hx, hW.mono fun _ _ z => z.same sm⟩, vm, by omega, fun G2 p2 s2 hT => ?_⟩
          have s02 := sm.trans s2
          refine ⟨D, p2, rows.map hole, fTab many m, rfl, ⟨ys, s2 _ _ hD, hR.mono fun _ _ z => (z.up (sx s2)).row⟩, by rw [List.length_map]; omega, fun r hr => ?_, hT, fun l hl => ?_, ?_, fun G3 p3 xs3 s3 n3 h3 hA3 => ?_⟩
          · obtain ⟨r0, h0, rfl⟩ := List.mem_map.mp hr
            exact hole_len (by have := (vg.2 r0 h0).1; omega)
          · unfold fTab at hl
            rw [ftab_exs hLR] at hl
            obtain ⟨r0, h0, rfl⟩ := exs_mem hl
            have := (vg.2 r0 h0).1
            omega
          · unfold fTab
            rw [ftab_exs hLR]
            have := exs_len rows
            omega
          · unfold fTab at hA3
            rw [ftab_exs hLR, chg_back] at hA3
            exact qq G3 p3 xs3 (s02.trans s3) (s02.free n3) h3 (hA3.mono fun _ _ z => z.base s02)
    · rw [show decide (V.int (xs.length : Nat) = V.int (qs.length : Nat)) = false from decide_eq_false fun z => ne (by have := V.int.inj z; omega)]
      exact iteT ⟨_, rfl, by show 1 ≤ 1000; decide, LX.raised X.NotSquare (by omega) (e1 ne)⟩
end
-- Y
/-- a term, a new tuple -/
def TN (H : Hp) (v : V) (t : Trm) : Prop := ∃ a, v = .ref a ∧ H a = some (.tup [vH t.h, .int (t.k : Nat), .int (t.j : Nat)])
def TNX (D : Addr) (H : Hp) (v : V) (t : Trm) : Prop := ∃ a, v = .ref a ∧ a ≠ D ∧ H a = some (.tup [vH t.h, .int (t.k : Nat), .int (t.j : Nat)])
theorem TN.same {H H' : Hp} {v : V} {t : Trm} (s : Same H H') (h : TN H v t) : TN H' v t := let ⟨a, e, q⟩ := h; ⟨a, e, s _ _ q⟩
theorem TN.tm {K : PySem.W.Frag} {H : Hp} {v : V} {t : Trm} (h : TN H v t) : TmV K H v t := let ⟨a, e, q⟩ := h; ⟨a, e, .inl (.inl q)⟩
theorem TNX.mono {D : Addr} (H H' : Hp) (v : V) (b : Trm) (s : SameX D H H') (h : TNX D H v b) : TNX D H' v b := let ⟨a, e, n, q⟩ := h; ⟨a, e, n, s _ _ n q⟩
theorem TNX.tn {D : Addr} {H : Hp} {v : V} {b : Trm} (h : TNX D H v b) : TN H v b := let ⟨a, e, _, q⟩ := h; ⟨a, e, q⟩
theorem flat_snoc {α : Type} (f : Nat → List α) (n : Nat) : (List.range (n + 1)).flatMap f = (List.range n).flatMap f ++ f n := by
  rw [List.range_succ, List.flatMap_append, List.flatMap_singleton]
theorem plN_len {row : List (List Int)} (h : ∀ e ∈ row, e.length ≤ 13) : ∀ n, n ≤ row.length → (plN row n).length ≤ 13 * n
  | 0, _ => Nat.le_refl _
  | n + 1, hn => by
    have := plN_len h n (by omega)
    unfold plN at this ⊢
    rw [flat_snoc, List.length_append]
    have h2 : (plJ (row.getD n []) n).length ≤ 13 := by
      unfold plJ
      rw [List.length_map, List.getD_eq_getElem?_getD, List.getElem?_eq_getElem (by omega)]
      exact h _ (List.getElem_mem (l := row) (n := n) (by omega))
    omega
theorem tmJ_len (e : List Int) (j : Nat) : (tmJ e j).length ≤ e.length := by
  unfold tmJ
  exact Nat.le_trans (List.length_filterMap_le _ _) (by rw [List.length_range]; exact Nat.le_refl _)
theorem tmN_len {row : List (List Int)} (h : ∀ e ∈ row, e.length ≤ 13) : ∀ n, n ≤ row.length → (tmN row n).length ≤ 13 * n
  | 0, _ => Nat.le_refl _
  | n + 1, hn => by
    have := tmN_len h n (by omega)
    unfold tmN at this ⊢
    rw [flat_snoc, List.length_append]
    have h2 := tmJ_len (row.getD n []) n
    rw [List.getD_eq_getElem?_getD, List.getElem?_eq_getElem (by omega)] at h2 ⊢
    have := h _ (List.getElem_mem (l := row) (n := n) (by omega))
    have h3 : (some row[n]).getD [] = row[n] := rfl
    rw [h3] at h2 ⊢
    omega
section
variable {P : Program} {w : World} {K : PySem.W.Frag} {mg : Str → Option Value} {base : Heap}
def sp_law_places (K : PySem.W.Frag) : Sp := fun vs H Q _ => ∃ (b : Addr) (els : List (List Int)), vs = [.ref b] ∧ RowL H b els ∧ els.length ≤ 16 ∧ (∀ e ∈ els, VE e ∧ OA e) ∧ ∀ H' p, Same H H' → H p = none → PL K H' p (plN els els.length) → Q (.ref p) H'
theorem ok_law_places (T : Txt K mg) : FnOk P w K mg base CX0 1 T.law_places.a T.law_places.fd ["row"] (sp_law_places K) := by
  refine T.law_places.F.ok sc_law_places (fun vs H Q E h => ?_) (fun cdv A outer s H vs Q E hr h => ?_)
  · obtain ⟨b, els, rfl, _⟩ := h
    rfl
  · obtain ⟨b, els, rfl, hb, hl, ho, q⟩ := h
    obtain ⟨as, hbl, hA⟩ := hb
    have la := hA.len
    refine ⟨_, (pss_cons (ps_set (i := 1) sc_law_places.nd rfl (.inl rfl) (pe_lst pa_nil))
      (pss_cons (ps_for PassesOwn.never rfl (pi_range1 (by rfl) T.m_range (pa_cons (pe_callB call_len_seq (by rfl) T.m_len (by decide +kernel) (pa_cons (pv 0) pa_nil)) pa_nil)) (pg_name (i := 2) sc_law_places.nd rfl (.inr rfl))
        (pss_one (ps_set (i := 1) sc_law_places.nd rfl (.inl rfl) (pe_op op_cat (pv 1) (pe_lc (own := [("order", 3)]) rfl sc_law_places.nd (pi_list (pe_ix ix_list (pv 0) (pv 2) (fun _ _ => rfl))) (blkOk_by (N := ["row", "out", "j", "order"]) (sc := defScope s_law_places) (by decide +kernel)) (fun _ _ _ _ _ => (pg_name (i := 3) sc_law_places.nd rfl (.inl rfl))) (fun _ _ _ _ _ => pts_nil) (fun _ _ _ _ _ => (pe_tup (pa_cons (pv 3) (pa_cons (pv 2) pa_nil)))))))))
      (pss_one (ps_ret (pv 1))))), ?_⟩
    refine ⟨by show 0 ≤ sizeLine; decide, fun o no => ?_⟩
    have s0 := same_upd no (o := .lst [])
    refine ⟨.ref b, rfl, b, _, rfl, .inl (.of (s0 _ _ hbl)), (els.length : Nat), by rw [List.length_map, la], by omega, by omega, ?_⟩
    rw [Int.toNat_natCast]
    refine for_range (n := els.length) (lo := 0) (fun i σ G => Same H G ∧ ∃ (o : Addr) (xs : List V) (v2 v3 : Option V), σ = [some (.ref b), some (.ref o), v2, v3] ∧ H o = none ∧ G o = some (.lst xs) ∧ A2 (PT2 K G) xs (plN els i)) ⟨s0, o, [], none, none, rfl, no, upd_same, .nil⟩ (fun i σ G hi hP => ?_) (fun σ G hP => ?_)
    · obtain ⟨sm, o, xs, v2, v3, rfl, no, ho2, hX⟩ := hP
      obtain ⟨c, hc⟩ := some_at (xs := as) (i := i) (by omega)
      obtain ⟨e, he, hI⟩ := hA.get hc
      have lp := plN_len (fun e he => (ho e he).1.1) i (by omega)
      have lx := hX.len
      obtain ⟨ve, oa⟩ := ho e (mem_at he)
      refine ⟨.ref o, rfl, .ref b, rfl, _, rfl, b, _, _, .ref c, rfl, rfl, .of (sm _ _ hbl), by rw [Int.zero_add]; exact atI_nat (by rw [List.getElem?_map, hc]; rfl), c, rfl, ⟨_, (hI.same sm).sq⟩, fun D nD => ?_⟩
      refine lc_fm (walk_list (xs := e.map V.int)) e (fun k => some (k.toNat, i)) (PTX K D) PTX.mono (by rw [List.length_map]) nD (fun H' s => s.seq (hI.same sm).sq) (small' (by rw [List.length_map]; have := ve.1; omega)) (fun i2 x G2 Hx ys k hk sm2 hD y Qt Qf qt qf => ?_) (fun G2 ys sm2 hD hR => ?_)
      · obtain ⟨rfl, hx⟩ := y
        rw [List.getElem?_map, hk] at hx
        obtain rfl := Option.some.inj hx
        have := oa.2 k (mem_at hk)
        refine ⟨rfl, _, rfl, _, rfl, by show 2 ≤ sizeLine; decide, fun t nt => ?_⟩
        refine qt _ _ _ rfl (same_upd nt) ⟨t, rfl, (fun z => by rw [z, hD] at nt; cases nt), ?_⟩
        rw [upd_same]
        show some (HO.tup [V.int k, V.int (0 + (i : Int))]) = some (HO.tup [V.int ((k.toNat : Nat) : Int), V.int ((i : Nat) : Int)])
        rw [Int.zero_add, show ((k.toNat : Nat) : Int) = k by omega]
      · rw [fm_some] at hR
        have ly := hR.len
        rw [List.length_map] at ly
        refine ⟨o, D, _, _, rfl, rfl, sm2 _ _ ho2, hD, small (by have := ve.1; omega), fun p np => ?_⟩
        have s2 := sm2.trans (same_upd np (o := .lst (xs ++ ys)))
        refine ⟨sm.trans s2, p, xs ++ ys, _, _, rfl, (sm.trans sm2).free np, upd_same, ?_⟩
        have e1 : plN els (i + 1) = plN els i ++ e.map fun k => (k.toNat, i) := by
          unfold plN
          rw [flat_snoc, List.getD_eq_getElem?_getD, he]; rfl
        rw [e1]
        exact A2.app (hX.mono fun _ _ z => z.same s2) (hR.mono fun _ _ z => (PTX.pt z).same (same_upd np))
    · obtain ⟨sm, o, xs, v2, v3, rfl, no, ho2, hX⟩ := hP
      exact ⟨.ref o, rfl, q G o sm no ⟨xs, ho2, hX⟩⟩
def sp_law_terms : Sp := fun vs H Q _ => ∃ (b : Addr) (els : List (List Int)), vs = [.ref b] ∧ RowL H b els ∧ els.length ≤ 16 ∧ (∀ e ∈ els, VE e) ∧ ∀ H' p xs, Same H H' → H p = none → H' p = some (.lst xs) → A2 (TN H') xs (tmN els els.length) → Q (.ref p) H'
theorem ok_law_terms (T : Txt K mg) : FnOk P w K mg base CX0 1 T.law_terms.a T.law_terms.fd ["row"] sp_law_terms := by
  refine T.law_terms.F.ok sc_law_terms (fun vs H Q E h => ?_) (fun cdv A outer s H vs Q E hr h => ?_)
  · obtain ⟨b, els, rfl, _⟩ := h
    rfl
  · obtain ⟨b, els, rfl, hb, hl, hv, q⟩ := h
    obtain ⟨as, hbl, hA⟩ := hb
    have la := hA.len
    refine ⟨_, (pss_cons (ps_set (i := 1) sc_law_terms.nd rfl (.inl rfl) (pe_lst pa_nil))
      (pss_cons (ps_for PassesOwn.never rfl (pi_range1 (by rfl) T.m_range (pa_cons (pe_callB call_len_seq (by rfl) T.m_len (by decide +kernel) (pa_cons (pv 0) pa_nil)) pa_nil)) (pg_name (i := 2) sc_law_terms.nd rfl (.inr rfl))
        (pss_one (ps_set (i := 1) sc_law_terms.nd rfl (.inl rfl) (pe_op op_cat (pv 1) (pe_lc (own := [("order", 3)]) rfl sc_law_terms.nd (pi_range1 (by rfl) T.m_range (pa_cons (pe_callB call_len_seq (by rfl) T.m_len (by decide +kernel) (pa_cons (pe_ix ix_list (pv 0) (pv 2) (fun _ _ => rfl)) pa_nil)) pa_nil)) (blkOk_by (N := ["row", "out", "j", "order"]) (sc := defScope s_law_terms) (by decide +kernel)) (fun _ _ _ _ _ => (pg_name (i := 3) sc_law_terms.nd rfl (.inl rfl))) (fun _ _ _ _ _ => (pts_one (pt_cmpR op_ne (pe_ix (r := rIxL K) ix_list (pe_ix (r := rIxL K) ix_list (pv 0) (pv 2) (fun _ _ => rfl)) (pv 3) (fun _ _ => rfl)) pe_int (nomark _)))) (fun _ _ _ _ _ => (pe_tup (pa_cons (pe_ix (r := rIxL K) ix_list (pe_ix (r := rIxL K) ix_list (pv 0) (pv 2) (fun _ _ => rfl)) (pv 3) (fun _ _ => rfl)) (pa_cons (pv 3) (pa_cons (pv 2) pa_nil))))))))))
      (pss_one (ps_ret (pv 1))))), ?_⟩
    refine ⟨by show 0 ≤ sizeLine; decide, fun o no => ?_⟩
    have s0 := same_upd no (o := .lst [])
    refine ⟨.ref b, rfl, b, _, rfl, .inl (.of (s0 _ _ hbl)), (els.length : Nat), by rw [List.length_map, la], by omega, by omega, ?_⟩
    rw [Int.toNat_natCast]
    refine for_range (n := els.length) (lo := 0) (fun i σ G => Same H G ∧ ∃ (o : Addr) (xs : List V) (v2 v3 : Option V), σ = [some (.ref b), some (.ref o), v2, v3] ∧ H o = none ∧ G o = some (.lst xs) ∧ A2 (TN G) xs (tmN els i)) ⟨s0, o, [], none, none, rfl, no, upd_same, .nil⟩ (fun i σ G hi hP => ?_) (fun σ G hP => ?_)
    · obtain ⟨sm, o, xs, v2, v3, rfl, no, ho2, hX⟩ := hP
      obtain ⟨c, hc⟩ := some_at (xs := as) (i := i) (by omega)
      obtain ⟨e, he, hI⟩ := hA.get hc
      have lp := tmN_len (fun e he => (hv e he).1) i (by omega)
      have lx := hX.len
      have ve := hv e (mem_at he)
      have hat : atI (as.map V.ref) (0 + (i : Int)) = some (.ref c) := by rw [Int.zero_add]; exact atI_nat (by rw [List.getElem?_map, hc]; rfl)
      refine ⟨.ref o, rfl, .ref b, rfl, _, rfl, b, _, _, .ref c, rfl, rfl, .of (sm _ _ hbl), hat, c, _, rfl, .inl (hI.same sm).sq, (e.length : Nat), by rw [List.length_map], by omega, by have := ve.1; omega, fun D nD => ?_⟩
      rw [Int.toNat_natCast]
      refine lc_fm (walk_range (lo := 0) (n := e.length)) (List.range e.length) (fun o => if cf e o = 0 then none else some (⟨.inl (cf e o), o, i⟩ : Trm)) (TNX D) TNX.mono List.length_range nD (fun _ _ => trivial) (small' (by have := ve.1; omega)) (fun i2 x G2 Hx ys o2 ho sm2 hD y Qt Qf qt qf => ?_) (fun G2 ys sm2 hD hR => ?_)
      · obtain ⟨rfl, rfl⟩ := y
        have hlt : i2 < e.length := by have := (List.getElem?_eq_some_iff.mp ho).1; rw [List.length_range] at this; exact this
        obtain rfl : o2 = i2 := by rw [List.getElem?_range hlt] at ho; exact (Option.some.inj ho).symm
        have hb2 := sm2 _ _ (sm _ _ hbl)
        have hI2 := (hI.same sm).same sm2
        have hat2 : atI (e.map V.int) (0 + (o2 : Int)) = some (.int (cf e o2)) := at_map' (by omega) hlt
        refine ⟨rfl, .ref b, rfl, _, rfl, b, _, _, _, rfl, rfl, .of hb2, hat, _, rfl, c, _, _, _, rfl, rfl, hI2.sq, hat2, rfl, _, rfl, ?_⟩
        refine ite2 (fun hz => ?_) (fun hz => ?_)
        · have hz : cf e o2 ≠ 0 := fun z => by rw [z] at hz; exact absurd hz (by decide)
          refine ⟨.ref b, rfl, _, rfl, b, _, _, _, rfl, rfl, .of hb2, hat, _, rfl, c, _, _, _, rfl, rfl, hI2.sq, hat2, _, rfl, _, rfl, by show 3 ≤ sizeLine; decide, fun t nt => ?_⟩
          refine qt _ _ _ (by rw [if_neg hz]) (same_upd nt) ⟨t, rfl, (fun z => by rw [z, hD] at nt; cases nt), ?_⟩
          rw [upd_same]
          show some (HO.tup [V.int (cf e o2), V.int (0 + (o2 : Int)), V.int (0 + (i : Int))]) = some (HO.tup [V.int (cf e o2), V.int ((o2 : Nat) : Int), V.int ((i : Nat) : Int)])
          rw [Int.zero_add, Int.zero_add]
        · have hz : cf e o2 = 0 := Classical.byContradiction fun z => hz (by rw [decide_eq_false (fun y => z (V.int.inj y))]; rfl)
          exact qf (by rw [if_pos hz]) _ (Same.refl _)
      · have ly := hR.len
        have lj := tmJ_len e i
        unfold tmJ at lj
        refine ⟨o, D, _, _, rfl, rfl, sm2 _ _ ho2, hD, small (by have := ve.1; omega), fun p np => ?_⟩
        have s2 := sm2.trans (same_upd np (o := .lst (xs ++ ys)))
        refine ⟨sm.trans s2, p, xs ++ ys, _, _, rfl, (sm.trans sm2).free np, upd_same, ?_⟩
        have e1 : tmN els (i + 1) = tmN els i ++ tmJ e i := by
          unfold tmN
          rw [flat_snoc, List.getD_eq_getElem?_getD, he]; rfl
        rw [e1]
        exact A2.app (hX.mono fun _ _ z => z.same s2) (hR.mono fun _ _ z => (TNX.tn z).same (same_upd np))
    · obtain ⟨sm, o, xs, v2, v3, rfl, no, ho2, hX⟩ := hP
      exact ⟨.ref o, rfl, q G o xs sm no ho2 hX⟩
end
-- Z
/-! ### texts -/
def GS (n : Nat) (s : Str) : Prop := s.length ≤ n ∧ ∀ c ∈ s.cps.toList, c < 200
theorem GS.mono {n m : Nat} {s : Str} (h : GS n s) (l : n ≤ m) : GS m s := ⟨Nat.le_trans h.1 l, h.2⟩
theorem GS.add {n m : Nat} {s t : Str} (a : GS n s) (b : GS m t) : GS (n + m) (s ++ t) := by
  refine ⟨by rw [Str.length_append]; exact Nat.add_le_add a.1 b.1, fun c hc => ?_⟩
  rw [Str.cps_append, Array.toList_append] at hc
  exact (List.mem_append.mp hc).elim (a.2 c) (b.2 c)
theorem GS.int {i : Int} (h : i.natAbs < 10 ^ 8) : GS 9 (toString i : Str) := by
  refine ⟨?_, fun c hc => Classical.byContradiction fun z => int_text_free' c ⟨by omega, by omega⟩ i hc⟩
  show (Str.ofString (toString i)).length ≤ 9
  rw [PySem.ofString_length]
  exact int_text_length_le10 (k := 8) (by decide) h
theorem log_small {n : Nat} (h : n < 2 ^ 30) : n.log2 < 1920 := by
  rcases Nat.eq_zero_or_pos n with rfl | p
  · decide
  · exact Nat.lt_of_lt_of_le ((Nat.log2_lt (by omega)).mpr h) (by decide)
theorem at_ex {α : Type} {xs : List α} {i : Int} (h0 : 0 ≤ i) (h1 : i < xs.length) : ∃ c, atI xs i = some c ∧ c ∈ xs := by
  obtain ⟨n, rfl⟩ : ∃ n : Nat, i = (n : Int) := ⟨i.toNat, by omega⟩
  have h : n < xs.length := by omega
  exact ⟨xs[n], atI_nat (by simp [h]), List.getElem_mem h⟩
/-! ### the model under way: laws at L, rows at R -/
def lwT (l : Lw) (p : Addr) : List V := if l.ex = true then [.str "exact", .ref p, .str l.src] else [.str "sized", .int (l.k : Nat), .int (l.j : Nat), .ref p, .str l.src]
def TNO (L R : Addr) (H : Hp) (v : V) (t : Trm) : Prop := ∃ a, v = .ref a ∧ Of L R a ∧ H a = some (.tup [vH t.h, .int (t.k : Nat), .int (t.j : Nat)])
def LX (L R : Addr) (H : Hp) (v : V) (l : Lw) : Prop := ∃ (a p : Addr) (xs : List V), v = .ref a ∧ Of L R a ∧ Of L R p ∧ H a = some (.tup (lwT l p)) ∧ H p = some (.lst xs) ∧ A2 (TNO L R H) xs l.ts
theorem TNO.up {L R : Addr} {H H' : Hp} {v : V} {t : Trm} (s : SP L R H H') (h : TNO L R H v t) : TNO L R H' v t := let ⟨a, e, n, q⟩ := h; ⟨a, e, n, s _ _ n q⟩
theorem LX.up {L R : Addr} {H H' : Hp} {v : V} {l : Lw} (s : SP L R H H') (h : LX L R H v l) : LX L R H' v l := let ⟨a, p, xs, e, n, m, q, r, t⟩ := h; ⟨a, p, xs, e, n, m, s _ _ n q, s _ _ m r, t.mono fun _ _ z => z.up s⟩
theorem LX.lw {K : PySem.W.Frag} {L R : Addr} {H : Hp} {v : V} {l : Lw} (h : LX L R H v l) : LW K H v l := by
  obtain ⟨a, p, xs, e, n, m, q, r, t⟩ := h
  refine ⟨a, p, e, ⟨xs, .of r, t.mono fun _ _ ⟨c, e, _, y⟩ => ⟨c, e, .inl (.inl y)⟩⟩, ?_⟩
  unfold lwT at q
  cases z : l.ex with
  | true => rw [z] at q; exact .inl ⟨rfl, .inl (.inl q)⟩
  | false => rw [z] at q; exact .inr ⟨rfl, .inl (.inl q)⟩
theorem TN.o {L R : Addr} {H : Hp} {v : V} {t : Trm} (hL : ∃ xs, H L = some (.lst xs)) (hR : ∃ xs, H R = some (.lst xs)) (h : TN H v t) : TNO L R H v t := by
  obtain ⟨a, e, q⟩ := h
  obtain ⟨_, hL⟩ := hL
  obtain ⟨_, hR⟩ := hR
  exact ⟨a, e, ⟨(fun z => by rw [z, hL] at q; cases q), (fun z => by rw [z, hR] at q; cases q)⟩, q⟩
theorem old_of {L R c : Addr} {H : Hp} {o : HO} (hL : H L = none) (hR : H R = none) (h : H c = some o) : Of L R c := ⟨(fun z => by rw [z, hL] at h; cases h), (fun z => by rw [z, hR] at h; cases h)⟩
theorem XR.old {L R b : Addr} {H G : Hp} {els : List (List Int)} (hL : H L = none) (hR : H R = none) (s : Same H G) (h : RowL H b els) : XR L R G (.ref b) els := let ⟨as, e, r⟩ := h; ⟨b, as, rfl, old_of hL hR e, s _ _ e, r.mono fun _ _ z => ⟨old_of hL hR z, z.same s⟩⟩
abbrev SM (a : Addr) (k : Int) (g L R : Addr) (c i : Int) (kd : Str) (b : Addr) (src : Str) (p : Addr) (v11 v12 v13 v14 v15 : Option V) : L2.St :=
  [some (.ref a), some (.int k), some (.ref g), some (.ref L), some (.ref R), some (.int c), some (.int i), some (.str kd), some (.ref b), some (.str src), some (.ref p), v11, v12, v13, v14, v15]
def T4 (K : PySem.W.Frag) : TS := fun D σ H => ∃ (a : Addr) (ds : List Int) (k : Int) (g L R : Addr) (c i : Int) (r : Rw) (b : Addr) (src : Str) (p : Addr) (v11 v12 v13 v14 v15 : Option V) (many : Nat),
  σ = SM a k g L R c i (kS r.1) b src p v11 v12 v13 v14 v15 ∧ IL H a ds ∧ 0 ≤ k ∧ 0 ≤ i ∧ i ≤ 16 ∧ many ≤ 16 ∧ RowL H b r.2 ∧ VR many r.2 ∧ OKr r ∧ H p = some (.lst []) ∧
  ∀ H' p' xs ps v11', Same H H' → (p' = p ∨ H p' = none) → H' p' = some (.lst xs) → A2 (PT2 K H') xs ps → ps.length ≤ 208 → (r.1 = false → Lays many ps r.2 ∧ ∀ q ∈ ps, q.1 < 13) → D.nx (SM a k g L R c i (kS r.1) b src p' v11' v12 v13 v14 v15) H'
def T5 (_K : PySem.W.Frag) : TS := fun D σ H => ∃ (a : Addr) (k : Int) (g L R : Addr) (c i : Int) (r : Rw) (b : Addr) (src : Str) (p : Addr) (v11 v12 v13 v14 v15 : Option V) (many : Nat) (xs : List V),
  σ = SM a k g L R c i (kS r.1) b src p v11 v12 v13 v14 v15 ∧ many ≤ 16 ∧ RowL H b r.2 ∧ VR many r.2 ∧ OKr r ∧ H p = some (.lst xs) ∧ xs.length ≤ 208 ∧
  ∀ H' b' r', Same H H' → (b' = b ∧ r' = r ∧ H' = H ∨ RowF H H' b' r'.2 ∧ H b' = none) → VR many r'.2 → OKr r' → (r'.1 = false → r' = r ∧ 2 ≤ xs.length) → D.nx (SM a k g L R c i (kS r'.1) b' src p v11 v12 v13 v14 v15) H'
def T6 : TS := fun D σ H => ∃ (a : Addr) (ds : List Int) (k : Int) (g L R : Addr) (c i : Int) (kd : Str) (b : Addr) (src : Str) (p q : Addr) (v11 v13 v14 v15 : Option V) (xs : List V) (ts : List Trm),
  σ = SM a k g L R c i kd b src p v11 (some (.ref q)) v13 v14 v15 ∧ IL H a ds ∧ 0 ≤ k ∧ 0 ≤ i ∧ i ≤ 16 ∧ H q = some (.lst xs) ∧ A2 (TN H) xs ts ∧
  ∀ H' q' xs' ts', Same H H' → (q' = q ∨ H q' = none) → H' q' = some (.lst xs') → A2 (TN H') xs' ts' → (ts' = ts ∨ ts' = ts.reverse) → D.nx (SM a k g L R c i kd b src p v11 (some (.ref q')) v13 v14 v15) H'
theorem A2.rev {α β : Type} {R : α → β → Prop} : ∀ {as : List α} {bs : List β}, A2 R as bs → A2 R as.reverse bs.reverse
  | _, _, .nil => .nil
  | _, _, .cons h t => by rw [List.reverse_cons, List.reverse_cons]; exact A2.snoc h (A2.rev t)
/-- a row of orders with one place or none, as a row of polynomials -/
def asEx (e : List Int) : List Int := if e = [] then [] else List.replicate (cf e (e.length - 1)).toNat 0 ++ [1]
theorem asEx_nz (e : List Int) : NZ (asEx e) := by
  unfold asEx
  split
  · exact nz_nil
  · exact nz_snoc (by decide)
theorem asEx_ve {e : List Int} (h : OA e) : VE (asEx e) := by
  unfold asEx
  split
  · exact ⟨Nat.zero_le _, fun _ z => by cases z⟩
  · rename_i hn
    have := h.2 _ (mem_at (at_map (show e.length - 1 < e.length by have := List.length_pos_iff.mpr hn; omega)))
    refine ⟨by rw [List.length_append, List.length_replicate]; show _ + 1 ≤ _; omega, fun n hn => ?_⟩
    rcases List.mem_append.mp hn with z | z
    · rw [(List.mem_replicate.mp z).2]; decide
    · rw [List.mem_singleton.mp z]; decide
section
variable {P : Program} {w : World} {K : PySem.W.Frag} {mg : Str → Option Value} {base : Heap}
theorem wm5 {i : Int} (h0 : 0 ≤ i) (h1 : i ≤ 16) : CMulW 5 i := wide_mul (a := 5) (b := 100) (by decide) (Nat.lt_of_le_of_lt (show _ ≤ 16 by omega) (by decide)) (by decide) (by decide) (by decide)
/-- a model whose names stand in a list of their own -/
def MDH (K : PySem.W.Frag) (H : Hp) (v : V) (m : Mdl) : Prop := ∃ (u q r : Addr) (xs : List V), v = .ref u ∧ SqT K H u [.ref q, .ref r] ∧ H q = some (.lst (m.qs.map V.str)) ∧ SqL K H r xs ∧ A2 (LW K H) xs m.ls
theorem MDH.md {H : Hp} {v : V} {m : Mdl} (h : MDH K H v m) : MD K H v m := let ⟨u, q, r, xs, e, h1, h2, h3, h4⟩ := h; ⟨u, q, r, xs, e, h1, .of h2, h3, h4⟩
theorem MDH.same {H H' : Hp} (s : Same H H') {v : V} {m : Mdl} (h : MDH K H v m) : MDH K H' v m := let ⟨u, q, r, xs, e, h1, h2, h3, h4⟩ := h; ⟨u, q, r, xs, e, Same.seqT s h1, s _ _ h2, s.seq h3, h4.mono fun _ _ z => z.same s⟩
def sp_law_model (K : PySem.W.Frag) : Sp := fun vs H Q _ => ∃ (a : Addr) (ds : List Int) (k : Int) (g : Addr) (rs : List Rw) (many : Nat), vs = [.ref a, .int k, .ref g] ∧ IL H a ds ∧ 0 ≤ k ∧ GR K H g rs ∧ VG many rs ∧ (∀ r ∈ rs, OKr r) ∧ many ≤ 16 ∧
  ∀ H' u mv p m rows, Same H H' → H' u = some (.tup [mv, .ref p]) → MDH K H' mv m → VM many m → GR K H' p rows → VG many rows → A2 (LR many) m.ls rows → Q (.ref u) H'
theorem ok_law_model (T : Txt K mg) : FnOk P w K mg base CX0 3 T.law_model.a T.law_model.fd ["draws", "k", "grid"] (sp_law_model K) := by
  refine T.law_model.F.ok sc_law_model (fun vs H Q E h => ?_) (fun cdv A outer s H vs Q E hr h => ?_)
  · obtain ⟨a, ds, k, g, rs, many, rfl, _⟩ := h
    rfl
  · obtain ⟨a, ds, k, g, rs, many, rfl, ha, hk, hg, vg, ok, hm, q⟩ := h
    refine ⟨_, (pss_cons (ps_set (i := 3) sc_law_model.nd rfl (.inl rfl) (pe_lst pa_nil))
      (pss_cons (ps_set (i := 4) sc_law_model.nd rfl (.inl rfl) (pe_lst pa_nil))
      (pss_cons (ps_set (i := 5) sc_law_model.nd rfl (.inr rfl) pe_int)
      (pss_cons (ps_for PassesOwn.never rfl (pi_range1 (by rfl) T.m_range (pa_cons (pe_callB call_len_seq (by rfl) T.m_len (by decide +kernel) (pa_cons (pv 2) pa_nil)) pa_nil)) (pg_name (i := 6) sc_law_model.nd rfl (.inl rfl))
        (pss_cons (ps_asg (pe_ix ix_list (pv 2) (pv 6) (fun _ _ => rfl)) (pg_tup rfl (pgs_cons (pg_name (i := 7) sc_law_model.nd rfl (.inl rfl)) (pgs_cons (pg_name (i := 8) sc_law_model.nd rfl (.inl rfl)) pgs_nil))))
        (pss_cons (ps_set (i := 9) sc_law_model.nd rfl (.inl rfl) (pe_ix ix_list (pe_lst (pa_cons pe_str (pa_cons (pe_op op_add_str pe_str (pe_callTy call_str_int (by rfl) T.m_str (by decide +kernel) (pa_cons (pv 6) pa_nil))) (pa_cons pe_str pa_nil)))) (pe_call (ok_law_mix T) (hr.mono (by decide)) (by rfl) T.law_mix.g T.law_mix.F.kp T.law_mix.b .nil pass0 (pa_cons (pv 0) (pa_cons (pe_op op_add (pv 1) (pe_op op_mul pe_int (pv 6))) (pa_cons pe_int pa_nil)))) (fun _ _ => rfl)))
        (pss_cons (ps_set (i := 10) sc_law_model.nd rfl (.inr rfl) (pe_lst pa_nil))
        (pss_cons (ps_via (t' := T4 K) (ps_if (pt_cmpR op_eq (pv 7) pe_str (nomark _))
          (pss_cons (ps_set (i := 10) sc_law_model.nd rfl (.inr rfl) (pe_call (ok_law_places T) (hr.mono (by decide)) (by rfl) T.law_places.g T.law_places.F.kp T.law_places.b .nil pass0 (pa_cons (pv 8) pa_nil)))
          (pss_cons (ps_set (i := 11) sc_law_model.nd rfl (.inl rfl) (pe_call (ok_law_mix T) (hr.mono (by decide)) (by rfl) T.law_mix.g T.law_mix.F.kp T.law_mix.b .nil pass0 (pa_cons (pv 0) (pa_cons (pe_op op_add (pe_op op_add (pv 1) (pe_op op_mul pe_int (pv 6))) pe_int) (pa_cons (pe_callB (call_max2 rfl) (by rfl) T.m_max (by decide +kernel) (pa_cons pe_int (pa_cons (pe_callB call_len_seq (by rfl) T.m_len (by decide +kernel) (pa_cons (pv 10) pa_nil)) pa_nil))) pa_nil)))))
          (pss_one (ps_set (i := 10) sc_law_model.nd rfl (.inr rfl) (pe_op op_cat (pe_slice sl_list (pv 10) (po_some (pv 11)) po_none) (pe_slice sl_list (pv 10) po_none (po_some (pv 11))))))))
          pss_nil) ?t4)
        (pss_cons (ps_via (t' := T5 K) (ps_if (PW.pt (pw_and (pt_cmpR op_eq (pv 7) pe_str (nomark _)) (pw_and1 (pt_cmpR op_lt (pe_callB call_len_seq (by rfl) T.m_len (by decide +kernel) (pa_cons (pv 10) pa_nil)) pe_int (nomark _)))))
          (pss_cons (ps_setLc (i := 8) (own := [("order", 13)]) rfl sc_law_model.nd rfl rfl (sw_true rfl rfl rfl (by decide +kernel)) (pi_list (pv 8)) (blkOk_by (N := ["draws", "k", "grid", "laws", "rows", "count", "i", "kind", "row", "source", "places", "turn", "terms", "order", "at", "j"]) (sc := defScope s_law_model) (by decide +kernel)) (fun _ _ _ _ _ => (pg_name (i := 13) sc_law_model.nd rfl (.inl rfl))) (fun _ _ _ _ _ => pts_nil) (fun _ _ _ _ _ => (pe_ifExp (pt_cmpR (r := rNeD K) (op_neD hr.units) (pv 13) (pe_lst pa_nil) (nomark _)) (pe_op op_cat (pe_op op_rep (pe_lst (pa_cons pe_int pa_nil)) (pe_ix (r := rIxL K) ix_list (pv 13) (pe_un un_neg pe_int) (fun _ _ => rfl))) (pe_lst (pa_cons pe_int pa_nil))) (pe_lst pa_nil))))
          (pss_one (ps_set (i := 7) sc_law_model.nd rfl (.inl rfl) pe_str)))
          pss_nil) ?t5)
        (pss_cons (ps_expr (pe_bm PySem.F.plainAttrs_list PySem.F.slot_list_append PySem.F.type_list_append mt_append (pv 4) (pa_cons (pe_tup (pa_cons (pv 7) (pa_cons (pv 8) pa_nil))) pa_nil)))
        (pss_one (ps_if (pt_cmpR op_eq (pv 7) pe_str (nomark _))
          (pss_cons (ps_set (i := 12) sc_law_model.nd rfl (.inl rfl) (pe_call (ok_law_terms T) (hr.mono (by decide)) (by rfl) T.law_terms.g T.law_terms.F.kp T.law_terms.b .nil pass0 (pa_cons (pv 8) pa_nil)))
          (pss_cons (ps_via (t' := T6) (ps_if (pt_cmpR op_eq (pe_call (ok_law_mix T) (hr.mono (by decide)) (by rfl) T.law_mix.g T.law_mix.F.kp T.law_mix.b .nil pass0 (pa_cons (pv 0) (pa_cons (pe_op op_add (pe_op op_add (pv 1) (pe_op op_mul pe_int (pv 6))) pe_int) (pa_cons pe_int pa_nil)))) pe_int (nomark _))
            (pss_one (ps_set (i := 12) sc_law_model.nd rfl (.inl rfl) (pe_revL (pv 12))))
            pss_nil) ?t6)
          (pss_one (ps_expr (pe_bm PySem.F.plainAttrs_list PySem.F.slot_list_append PySem.F.type_list_append mt_append (pv 3) (pa_cons (pe_tup (pa_cons pe_str (pa_cons (pv 12) (pa_cons (pv 9) pa_nil)))) pa_nil))))))
          (pss_cons (ps_setLc (i := 12) (own := [("at", 14)]) rfl sc_law_model.nd rfl rfl (sw_true rfl rfl rfl (by decide +kernel)) (pi_range1 (by rfl) T.m_range (pa_cons (pe_op op_sub (pe_callB call_len_seq (by rfl) T.m_len (by decide +kernel) (pa_cons (pv 10) pa_nil)) pe_int) pa_nil)) (blkOk_by (N := ["draws", "k", "grid", "laws", "rows", "count", "i", "kind", "row", "source", "places", "turn", "terms", "order", "at", "j"]) (sc := defScope s_law_model) (by decide +kernel)) (fun _ _ _ _ _ => (pg_name (i := 14) sc_law_model.nd rfl (.inl rfl))) (fun _ _ _ _ _ => pts_nil) (fun _ _ _ _ _ => (pe_tup (pa_cons (pe_op op_add_str pe_str (pe_callTy call_str_int (by rfl) T.m_str (by decide +kernel) (pa_cons (pe_op op_add (pv 5) (pv 14)) pa_nil))) (pa_cons (pe_ix (r := rIxT K) ix_tup (pe_ix (r := rIxL K) ix_list (pv 10) (pe_op op_add (pv 14) pe_int) (fun _ _ => rfl)) pe_int (fun _ _ => rfl)) (pa_cons (pe_ix (r := rIxT K) ix_tup (pe_ix (r := rIxL K) ix_list (pv 10) (pe_op op_add (pv 14) pe_int) (fun _ _ => rfl)) pe_int (fun _ _ => rfl)) pa_nil))))))
          (pss_cons (ps_set (i := 5) sc_law_model.nd rfl (.inr rfl) (pe_op op_add (pv 5) (pe_callB call_len_seq (by rfl) T.m_len (by decide +kernel) (pa_cons (pv 12) pa_nil))))
          (pss_one (ps_expr (pe_bm PySem.F.plainAttrs_list PySem.F.slot_list_append PySem.F.type_list_append mt_append (pv 3) (pa_cons (pe_tup (pa_cons pe_str (pa_cons (pe_ix ix_tup (pe_ix ix_list (pv 10) pe_int (fun _ _ => rfl)) pe_int (fun _ _ => rfl)) (pa_cons (pe_ix ix_tup (pe_ix ix_list (pv 10) pe_int (fun _ _ => rfl)) pe_int (fun _ _ => rfl)) (pa_cons (pv 12) (pa_cons (pv 9) pa_nil)))))) pa_nil)))))))))))))))
      (pss_one (ps_ret (pe_tup (pa_cons (pe_tup (pa_cons (pe_lc (own := [("j", 15)]) rfl sc_law_model.nd (pi_range1 (by rfl) T.m_range (pa_cons (pe_callB call_len_seq (by rfl) T.m_len (by decide +kernel) (pa_cons (pv 2) pa_nil)) pa_nil)) (blkOk_by (N := ["draws", "k", "grid", "laws", "rows", "count", "i", "kind", "row", "source", "places", "turn", "terms", "order", "at", "j"]) (sc := defScope s_law_model) (by decide +kernel)) (fun _ _ _ _ _ => (pg_name (i := 15) sc_law_model.nd rfl (.inl rfl))) (fun _ _ _ _ _ => pts_nil) (fun _ _ _ _ _ => (pe_op op_add_str pe_str (pe_callTy call_str_int (by rfl) T.m_str (by decide +kernel) (pa_cons (pv 15) pa_nil))))) (pa_cons (pv 3) pa_nil))) (pa_cons (pv 4) pa_nil))))))))), ?_⟩
    case t4 =>
      intro D σ H h
      obtain ⟨a, ds, k, g, L, R, c, i, r, b, src, p, v11, v12, v13, v14, v15, many, rfl, ha, hk, i0, i1, hm, hb, vr, ok, hp, nx⟩ := h
      refine ⟨_, rfl, rfl, _, rfl, ?_⟩
      cases e : r.1 with
      | true =>
        have := nx H p [] [] v11 (Same.refl _) (.inl rfl) hp .nil (by decide) (fun z => by rw [e] at z; cases z)
        rw [e] at this
        exact iteF this
      | false =>
        have ho : ∀ x ∈ r.2, OA x := by unfold OKr at ok; rw [e] at ok; exact ok
        refine iteT ⟨.ref b, rfl, b, r.2, rfl, hb, by have := vr.1; omega, fun x hx => ⟨vr.2 x hx, ho x hx⟩, fun G p1 s1 np1 hPL => ?_⟩
        obtain ⟨xs, hx, hA⟩ := hPL
        have lays : Lays many (plN r.2 r.2.length) r.2 := by rw [vr.1]; exact lays_pl vr.1 ho
        have lps := plN_len (fun x hx => (vr.2 x hx).1) r.2.length (Nat.le_refl _)
        have lr := vr.1
        have lx := hA.len
        have small13 : ∀ q ∈ plN r.2 r.2.length, q.1 < 13 := fun q hq => by
          obtain ⟨j, hj, z⟩ := List.mem_flatMap.mp hq
          obtain ⟨k, hk, rfl⟩ := List.mem_map.mp z
          have hj := List.mem_range.mp hj
          rw [List.getD_eq_getElem?_getD, List.getElem?_eq_getElem hj] at hk
          have := (ho _ (List.getElem_mem hj)).2 k hk
          show k.toNat < 13
          omega
        refine ⟨.ref a, rfl, _, rfl, _, rfl, _, _, rfl, rfl, .inl ⟨by decide, by decide⟩, _, _, rfl, rfl, _, _, rfl, rfl, ?_⟩
        refine ⟨.ref p1, rfl, p1, xs, rfl, .inl (.of hx), 1, _, rfl, ?_⟩
        obtain ⟨mx, emx, mx0, mx1⟩ : ∃ mx : Nat, (if ((xs.length : Nat) : Int) > 1 then ((xs.length : Nat) : Int) else 1) = (mx : Int) ∧ 0 < mx ∧ (mx = xs.length ∨ mx = 1) := by
          by_cases z : ((xs.length : Nat) : Int) > 1
          · exact ⟨xs.length, by rw [if_pos z], by omega, .inl rfl⟩
          · exact ⟨1, by rw [if_neg z]; rfl, by decide, .inr rfl⟩
        rw [emx]
        refine ⟨a, ds, _, _, rfl, ha.same s1, by omega, by omega, fun r1 q1 u1 => ?_⟩
        obtain ⟨m, em, hmx⟩ : ∃ m : Nat, r1 = (m : Int) ∧ m ≤ xs.length := ⟨r1.toNat, by omega, by omega⟩
        subst em
        refine ⟨.ref p1, rfl, _, rfl, _, rfl, p1, _, rfl, .of hx, fun c1 nc1 => ?_⟩
        rw [cut_tailV hmx]
        have t1 := same_upd nc1 (o := .lst (xs.drop m))
        refine ⟨.ref p1, rfl, _, rfl, _, rfl, p1, _, rfl, .of (t1 _ _ hx), fun c2 nc2 => ?_⟩
        rw [cut_headV hmx]
        have t2 := same_upd nc2 (o := .lst (xs.take m))
        refine ⟨c1, c2, _, _, rfl, rfl, t2 _ _ upd_same, upd_same, by rw [List.length_drop, List.length_take]; exact small (by omega), fun c3 nc3 => ?_⟩
        have t3 := same_upd nc3 (o := .lst (xs.drop m ++ xs.take m))
        have t13 := t1.trans (t2.trans t3)
        have pm : ((plN r.2 r.2.length).drop m ++ (plN r.2 r.2.length).take m).Perm (plN r.2 r.2.length) := by
          refine List.perm_append_comm.trans ?_
          rw [List.take_append_drop]
        have := nx _ c3 _ ((plN r.2 r.2.length).drop m ++ (plN r.2 r.2.length).take m) (some (.int (m : Nat))) (s1.trans t13) (.inr ((s1.trans (t1.trans t2)).free nc3)) upd_same ((A2.app (A2.drop m hA) (A2.take m hA)).mono fun _ _ z => z.same t13) (by rw [pm.length_eq]; omega) (fun _ => ⟨lays.perm pm, fun q hq => small13 q (pm.mem_iff.mp hq)⟩)
        rw [e] at this
        exact this
    case t5 =>
      intro D σ H h
      obtain ⟨a, k, g, L, R, c, i, r, b, src, p, v11, v12, v13, v14, v15, many, xs, rfl, hm, hb, vr, ok, hp, lx, nx⟩ := h
      refine ⟨_, rfl, rfl, _, rfl, ?_⟩
      cases e : r.1 with
      | true =>
        have := nx H b r (Same.refl _) (.inl ⟨rfl, rfl, rfl⟩) vr ok (fun z => by rw [e] at z; cases z)
        rw [e] at this
        exact iteF this
      | false =>
        have ho : ∀ x ∈ r.2, OA x := by unfold OKr at ok; rw [e] at ok; exact ok
        refine iteT ⟨.ref p, rfl, p, xs, rfl, .inl (.of hp), _, _, rfl, rfl, _, rfl, ?_⟩
        by_cases z : ((xs.length : Nat) : Int) < 2
        · rw [decide_eq_true z]
          refine iteT ?_
          obtain ⟨as, hbl, hA⟩ := hb
          have la := hA.len
          have lr := vr.1
          refine ⟨.ref b, rfl, b, rfl, ⟨_, .of hbl⟩, fun D2 nD => ?_⟩
          refine lc_inv (walk_list (xs := as.map V.ref)) (fun i G ys => ∃ cs : List Addr, ys = cs.map V.ref ∧ RN D2 H G cs ((r.2.take i).map asEx)) nD (fun H' s => s.seq (.of hbl)) (small' (by rw [List.length_map]; omega)) ⟨[], rfl, .nil⟩ (fun i x G Hx ys hi sm hD hR y Qt Qf qt qf => ?_) (fun G ys sm hD hR => ?_)
          · obtain ⟨rfl, hx⟩ := y
            obtain ⟨cc, hc, rfl⟩ := row_ref hx
            obtain ⟨el, he, hI⟩ := hA.get hc
            obtain ⟨cs, rfl, hrn⟩ := hR
            have hI2 := hI.same sm
            refine ⟨rfl, .ref cc, rfl, by show 0 ≤ sizeLine; decide, fun l3 n3 => ?_⟩
            have s3 := same_upd n3 (o := .lst [])
            refine ⟨dI el, .list [], dpI (hI2.same s3).sq, .lst (.of upd_same) .nil, shaped_dI el, rfl, _, rfl, ?_⟩
            have take1 : (r.2.take (i + 1)).map asEx = (r.2.take i).map asEx ++ [asEx el] := by rw [take_snoc he, List.map_append]; rfl
            rw [eqv_nil]
            by_cases hn : el = []
            · rw [decide_eq_true hn]
              refine iteF ⟨by show 0 ≤ sizeLine; decide, fun n nn => ?_⟩
              have s4 := s3.trans (same_upd nn (o := .lst []))
              have nD2 : n ≠ D2 := fun z => by rw [z, s3 _ _ hD] at nn; cases nn
              refine qt _ _ s4 ⟨cs ++ [n], by rw [List.map_append]; rfl, ?_⟩
              rw [take1]
              refine hrn.snoc s4 nD2 (sm.free (s3.free nn)) ?_
              unfold asEx IL
              rw [if_pos hn, upd_same]; rfl
            · rw [decide_eq_false hn]
              have hz := (ho _ (mem_at he)).2 _ (mem_at (at_map (show el.length - 1 < el.length by have := List.length_pos_iff.mpr hn; omega)))
              refine iteT ⟨by show 1 ≤ sizeLine; decide, fun l1 n1 => ?_⟩
              have s4 := s3.trans (same_upd n1 (o := .lst [.int 0]))
              refine ⟨.ref cc, rfl, _, rfl, cc, _, _, _, rfl, rfl, (hI2.same s4).sq, at_last hn, l1, _, _, rfl, rfl, upd_same, by omega, by omega, by show 1 * _ ≤ _; exact small (by omega), fun l2 n2 => ?_⟩
              rw [rep0]
              have s5 := s4.trans (same_upd n2 (o := .lst ((List.replicate (cf el (el.length - 1)).toNat (0 : Int)).map V.int)))
              refine ⟨by show 1 ≤ sizeLine; decide, fun l5 n5 => ?_⟩
              have s6 := same_upd n5 (o := .lst [.int 1])
              refine ⟨l2, l5, _, _, rfl, rfl, s6 _ _ upd_same, upd_same, by rw [List.length_map, List.length_replicate]; exact small (by show _ + 1 ≤ _; omega), fun n nn => ?_⟩
              have s7 := s5.trans (s6.trans (same_upd nn (o := .lst ((List.replicate (cf el (el.length - 1)).toNat (0 : Int)).map V.int ++ [.int 1]))))
              have nD2 : n ≠ D2 := fun z => by
                have := (s5.trans s6) _ _ hD
                rw [← z, nn] at this
                cases this
              refine qt _ _ s7 ⟨cs ++ [n], by rw [List.map_append]; rfl, ?_⟩
              rw [take1]
              refine hrn.snoc s7 nD2 (sm.free ((s5.trans s6).free nn)) ?_
              unfold asEx IL
              rw [if_neg hn, upd_same, ← app_ints]
          · obtain ⟨cs, rfl, hrn⟩ := hR
            rw [List.take_of_length_le (by rw [List.length_map]; omega)] at hrn
            refine nx G D2 (true, r.2.map asEx) sm (.inr ⟨⟨cs, hD, hrn.mono fun _ _ z => ⟨z.1.2, z.2⟩⟩, nD⟩) ⟨by rw [List.length_map]; exact vr.1, fun x hx => ?_⟩ ?_ (fun z => by cases z)
            · obtain ⟨y, hy, rfl⟩ := List.mem_map.mp hx
              exact asEx_ve (ho y hy)
            · unfold OKr
              rw [if_pos rfl]
              intro x hx
              obtain ⟨y, hy, rfl⟩ := List.mem_map.mp hx
              exact asEx_nz y
        · rw [decide_eq_false z]
          have := nx H b r (Same.refl _) (.inl ⟨rfl, rfl, rfl⟩) vr ok (fun _ => ⟨rfl, by omega⟩)
          rw [e] at this
          exact iteF this
    case t6 =>
      intro D σ H h
      obtain ⟨a, ds, k, g, L, R, c, i, kd, b, src, p, q, v11, v13, v14, v15, xs, ts, rfl, ha, hk, i0, i1, hq, hT, nx⟩ := h
      refine ⟨.ref a, rfl, _, rfl, _, rfl, _, _, rfl, rfl, .inl ⟨by decide, by decide⟩, _, _, rfl, rfl, _, _, rfl, rfl, a, ds, _, _, rfl, ha, by omega, by decide, fun r1 p1 u1 => ⟨rfl, _, rfl, ?_⟩⟩
      refine ite2 (fun _ => ?_) (fun _ => nx H q xs ts (Same.refl _) (.inl rfl) hq hT (.inl rfl))
      refine ⟨.ref q, rfl, q, xs, rfl, .of hq, fun q2 nq => ?_⟩
      have s1 := same_upd nq (o := .lst xs.reverse)
      exact nx _ q2 _ ts.reverse s1 (.inr nq) upd_same (hT.rev.mono fun _ _ z => z.same s1) (.inr rfl)
    obtain ⟨xg, hx, hA⟩ := hg
    have lxg := hA.len
    have lrs := vg.1
    refine ⟨by show 0 ≤ sizeLine; decide, fun L nL => ?_⟩
    have s0 := same_upd nL (o := .lst [])
    refine ⟨by show 0 ≤ sizeLine; decide, fun R nR => ?_⟩
    have s1 := s0.trans (same_upd nR (o := .lst []))
    have RL : R ≠ L := fun z => by rw [z, upd_same] at nR; cases nR
    have nR0 : H R = none := s0.free nR
    refine ⟨.ref g, rfl, g, _, rfl, .inl (.of (s1 _ _ hx)), (many : Nat), by rw [lxg, lrs], by omega, by omega, ?_⟩
    rw [Int.toNat_natCast]
    refine for_range (n := many) (lo := 0) (fun i σ G => Same H G ∧ ∃ (c : Nat) (v6 v7 v8 v9 v10 v11 v12 v13 v14 v15 : Option V) (xl : List V) (ls : List Lw) (xr : List V) (rows : List Rw),
      σ = [some (.ref a), some (.int k), some (.ref g), some (.ref L), some (.ref R), some (.int (c : Nat)), v6, v7, v8, v9, v10, v11, v12, v13, v14, v15] ∧ c ≤ 300 * i ∧ G L = some (.lst xl) ∧ A2 (LX L R G) xl ls ∧ G R = some (.lst xr) ∧ A2 (XG K L R G) xr rows ∧ A2 (LR many) ls rows ∧ rows.length = i ∧ (∀ l ∈ ls, VL many l) ∧ (∀ r ∈ rows, VR many r.2))
      ⟨s1, 0, none, none, none, none, none, none, none, none, none, none, [], [], [], [], rfl, Nat.zero_le _, by rw [upd_ne RL.symm, upd_same], .nil, upd_same, .nil, .nil, rfl, (fun _ z => by cases z), (fun _ z => by cases z)⟩ (fun i σ G hi hP => ?_) (fun σ G hP => ?_)
    · obtain ⟨sm, c, v6, v7, v8, v9, v10, v11, v12, v13, v14, v15, xl, ls, xr, rows, rfl, hc, hL, hAL, hR, hAR, hLR, lrw, vl, vr⟩ := hP
      have lxl := hAL.len
      have lls := hLR.len
      have lxr := hAR.len
      obtain ⟨r, hr⟩ := some_at (xs := rs) (i := i) (by omega)
      obtain ⟨v, hv, t, b, rfl, ht, hb0⟩ := hA.get' hr
      have hbG := hb0.same sm
      have vr0 := vg.2 r (mem_at hr)
      have ok0 := ok r (mem_at hr)
      have lgi : (0 + (i : Int)).natAbs.log2 < 1920 := log_small (by omega)
      have gi : GS 9 (toString (0 + (i : Int)) : Str) := GS.int (by omega)
      have g1 : GS 10 (("f" : Str) ++ (toString (0 + (i : Int)) : Str)) := GS.add (n := 1) ⟨by decide +kernel, by decide +kernel⟩ gi
      refine ⟨.ref g, rfl, _, rfl, g, _, _, _, rfl, rfl, .of (sm _ _ hx), by rw [Int.zero_add]; exact atI_nat hv, t, _, rfl, Same.seqT sm ht, rfl, _, _, rfl, _, _, rfl, rfl, ?_⟩
      refine ⟨_, rfl, _, rfl, lgi, _, _, rfl, rfl, small (by have := g1.1; rw [Str.length_append] at this; omega), by show 3 ≤ sizeLine; decide, fun l0 n0 => ?_⟩
      have q1 := same_upd n0 (o := .lst [V.str "", V.str (("f" : Str) ++ (toString (0 + (i : Int)) : Str)), V.str "g"])
      refine ⟨.ref a, rfl, _, rfl, _, rfl, _, _, rfl, rfl, .inl ⟨by decide, by decide⟩, _, _, rfl, rfl, a, ds, _, _, rfl, (ha.same sm).same q1, by omega, by decide, fun z0 z1 z2 => ?_⟩
      obtain ⟨sv, hs, ms⟩ := at_ex (xs := [V.str "", V.str (("f" : Str) ++ (toString (0 + (i : Int)) : Str)), V.str "g"]) (i := z0) z1 z2
      obtain ⟨src, rfl, gs⟩ : ∃ src : Str, sv = .str src ∧ GS 600 src := by
        rcases List.mem_cons.mp ms with rfl | ms
        · exact ⟨_, rfl, by decide +kernel, by decide +kernel⟩
        rcases List.mem_cons.mp ms with rfl | ms
        · exact ⟨_, rfl, g1.mono (by decide)⟩
        rcases List.mem_cons.mp ms with rfl | ms
        · exact ⟨_, rfl, by decide +kernel, by decide +kernel⟩
        · cases ms
      refine ⟨l0, _, z0, _, rfl, rfl, .of upd_same, hs, ?_⟩
      refine ⟨by show 0 ≤ sizeLine; decide, fun p np => ?_⟩
      have q2 := q1.trans (same_upd np (o := .lst []))
      refine ⟨a, ds, k, g, L, R, (c : Nat), 0 + (i : Int), r, b, src, p, _, _, _, _, _, many, rfl, (ha.same sm).same q2, hk, by omega, by omega, hm, hbG.same q2, vr0, ok0, upd_same, fun G2 pp xs ps v11b q3 hnew hpp hPS lps hlay => ?_⟩
      have q23 := q2.trans q3
      have lxs := hPS.len
      refine ⟨a, k, g, L, R, (c : Nat), 0 + (i : Int), r, b, src, pp, _, _, _, _, _, many, xs, rfl, hm, hbG.same q23, vr0, ok0, hpp, by omega, fun G3 b3 r3 q4 hb3 vr3 ok3 hsz => ?_⟩
      have q5 := q23.trans q4
      have sG3 := sm.trans q5
      have hL3 := q5 _ _ hL
      have hR3 := q5 _ _ hR
      have LN : G2 L ≠ none := by rw [q23 _ _ hL]; exact fun z => nomatch z
      have RN2 : G2 R ≠ none := by rw [q23 _ _ hR]; exact fun z => nomatch z
      have hXR : XR L R G3 (.ref b3) r3.2 := by
        rcases hb3 with ⟨rfl, rfl, _⟩ | ⟨hF, nb⟩
        · exact XR.old nL nR0 sG3 hb0
        · exact XR.of LN RN2 nb hF
      have hRow3 : RowL G3 b3 r3.2 := by
        obtain ⟨b', eb, hh⟩ := RowL.ofX hXR
        cases eb
        exact hh
      -- the row is put behind the rows
      refine ⟨.ref R, rfl, .inl ⟨rfl, _, .of hR3⟩, _, rfl, _, rfl, by show 2 ≤ sizeLine; decide, fun t4 nt4 => ?_⟩
      have q6 := same_upd nt4 (o := .tup [.str (kS r3.1), .ref b3])
      refine ⟨R, _, _, rfl, rfl, q6 _ _ hR3, small' (by omega), ?_⟩
      have t4n : Of L R t4 := of_new (H := G3) (by rw [hL3]; exact fun z => nomatch z) (by rw [hR3]; exact fun z => nomatch z) nt4
      have sp7 : SP L R G3 (upd (upd G3 t4 (.tup [.str (kS r3.1), .ref b3])) R (.lst (xr ++ [.ref t4]))) := (spS q6).trans spX
      have sH7 : Same H (upd (upd G3 t4 (.tup [.str (kS r3.1), .ref b3])) R (.lst (xr ++ [.ref t4]))) := same_over (sG3.trans q6) nR0
      have hL7 : upd (upd G3 t4 (.tup [.str (kS r3.1), .ref b3])) R (.lst (xr ++ [.ref t4])) L = some (.lst xl) := by rw [upd_ne RL.symm]; exact q6 _ _ hL3
      have hR7 : upd (upd G3 t4 (.tup [.str (kS r3.1), .ref b3])) R (.lst (xr ++ [.ref t4])) R = some (.lst (xr ++ [.ref t4])) := upd_same
      have hT7 : upd (upd G3 t4 (.tup [.str (kS r3.1), .ref b3])) R (.lst (xr ++ [.ref t4])) t4 = some (.tup [.str (kS r3.1), .ref b3]) := by rw [upd_ne t4n.2, upd_same]
      have hpp7 : pp ≠ R → upd (upd G3 t4 (.tup [.str (kS r3.1), .ref b3])) R (.lst (xr ++ [.ref t4])) pp = some (.lst xs) := fun z => by rw [upd_ne z]; exact q6 _ _ (q4 _ _ hpp)
      generalize upd (upd G3 t4 (.tup [.str (kS r3.1), .ref b3])) R (.lst (xr ++ [.ref t4])) = G7 at sp7 sH7 hL7 hR7 hT7 hpp7
      have hX7 : XG K L R G7 (.ref t4) r3 := ⟨t4, .ref b3, rfl, t4n, hT7, hXR.up sp7⟩
      have hRow7 : RowL G7 b3 r3.2 := by
        obtain ⟨b', eb, hh⟩ := RowL.ofX (hXR.up sp7)
        cases eb
        exact hh
      have sp37 : SP L R G G7 := (spS q5).trans sp7
      have LN7 : ∃ xs, G7 L = some (.lst xs) := ⟨_, hL7⟩
      have RN7 : ∃ xs, G7 R = some (.lst xs) := ⟨_, hR7⟩
      have ha7 := ha.same sH7
      have rowsVR : ∀ x ∈ rows ++ [r3], VR many x.2 := fun x hx => by
        rcases List.mem_append.mp hx with z | z
        · exact vr x z
        · rw [List.mem_singleton.mp z]; exact vr3
      have lrw2 : (rows ++ [r3]).length = i + 1 := by rw [List.length_append, lrw]; rfl
      have hAR7 : A2 (XG K L R G7) (xr ++ [.ref t4]) (rows ++ [r3]) := A2.snoc hX7 (hAR.mono fun _ _ z => z.up sp37)
      have hAL7 : A2 (LX L R G7) xl ls := hAL.mono fun _ _ z => z.up sp37
      have lr3 := vr3.1
      refine ⟨_, rfl, rfl, _, rfl, ?_⟩
      rw [str_ex]
      cases e : r3.1 with
      | true =>
        have hz : ∀ x ∈ r3.2, NZ x := by unfold OKr at ok3; rw [e] at ok3; exact ok3
        refine iteT ⟨.ref b3, rfl, b3, r3.2, rfl, hRow7, by omega, vr3.2, fun G8 p2 xs2 q8 n2 h2 hT2 => ?_⟩
        refine ⟨a, ds, k, g, L, R, (c : Nat), 0 + (i : Int), _, b3, src, pp, p2, _, _, _, _, xs2, _, rfl, ha7.same q8, hk, by omega, by omega, h2, hT2, fun G9 p3 xs3 ts q9 hp3 h3 hT3 hts => ?_⟩
        have q89 := q8.trans q9
        have hL9 := q89 _ _ hL7
        have p3n : Of L R p3 := by
          have f8 : Of L R p2 := of_new (H := G7) (by rw [hL7]; exact fun z => nomatch z) (by rw [hR7]; exact fun z => nomatch z) n2
          rcases hp3 with rfl | n3
          · exact f8
          · exact of_new (H := G8) (by rw [q8 _ _ hL7]; exact fun z => nomatch z) (by rw [q8 _ _ hR7]; exact fun z => nomatch z) n3
        refine ⟨.ref L, rfl, .inl ⟨rfl, _, .of hL9⟩, _, rfl, _, rfl, by show 3 ≤ sizeLine; decide, fun t5 nt5 => ?_⟩
        have q10 := same_upd nt5 (o := .tup [.str "exact", .ref p3, .str src])
        refine ⟨L, _, _, rfl, rfl, q10 _ _ hL9, small' (by omega), ?_⟩
        have t5n : Of L R t5 := of_new (H := G9) (by rw [hL9]; exact fun z => nomatch z) (by rw [q89 _ _ hR7]; exact fun z => nomatch z) nt5
        have sp10 : SP L R G9 (upd (upd G9 t5 (.tup [.str "exact", .ref p3, .str src])) L (.lst (xl ++ [.ref t5]))) := (spS q10).trans spG
        have sp7b := (spS q89).trans sp10
        have tsm : ∀ x, x ∈ ts ↔ x ∈ tmN r3.2 many := fun x => by
          rw [lr3] at hts
          rcases hts with rfl | rfl
          · exact Iff.rfl
          · exact List.mem_reverse
        have her : erow many ts = r3.2 := by
          rw [lr3] at hts
          rcases hts with rfl | rfl
          · exact erow_tm lr3 hz
          · exact erow_tmR lr3 hz
        have lts : ts.length ≤ 208 := by
          have := tmN_len (fun x hx => (vr3.2 x hx).1) r3.2.length (Nat.le_refl _)
          rcases hts with rfl | rfl
          · omega
          · rw [List.length_reverse]; omega
        have vlx : VL many ⟨true, 0, 0, ts, src⟩ := ⟨fun x hx => by
            obtain ⟨h1, h2, h3⟩ := mem_tmN.mp ((tsm x).mp hx)
            have h4 := cf_in h2
            rw [List.getD_eq_getElem?_getD, List.getElem?_eq_getElem (by omega)] at h4
            have := (vr3.2 _ (List.getElem_mem (l := r3.2) (n := x.j) (by omega))).1
            have h5 : (some r3.2[x.j]).getD [] = r3.2[x.j] := rfl
            rw [h5] at h4
            exact ⟨by omega, h1⟩, (fun z => by cases z), fun _ x hx => by
            obtain ⟨h1, h2, h3⟩ := mem_tmN.mp ((tsm x).mp hx)
            refine ⟨_, h3, ?_⟩
            have hlt := cf_in h2
            have hm2 := mem_at (at_map hlt)
            rw [List.getD_eq_getElem?_getD, List.getElem?_eq_getElem (by omega)] at hm2 ⊢
            exact (vr3.2 _ (List.getElem_mem (l := r3.2) (n := x.j) (by omega))).2 _ hm2, (fun z => by cases z), gs, by show ts.length ≤ 300; omega⟩
        refine ⟨same_over ((sH7.trans q89).trans q10) nL, c, _, _, _, _, _, _, _, _, _, _, xl ++ [.ref t5], ls ++ [⟨true, 0, 0, ts, src⟩], xr ++ [.ref t4], rows ++ [r3], rfl, by omega, upd_same, ?_, ?_, hAR7.mono fun _ _ z => z.up sp7b, A2.snoc ⟨e.symm, fun _ => her, fun z => by rw [e] at z; cases z⟩ hLR, lrw2, fun l hl => ?_, rowsVR⟩
        · refine A2.snoc ⟨t5, p3, xs3, rfl, t5n, p3n, ?_, ?_, hT3.mono fun _ _ z => (z.o ⟨_, hL9⟩ ⟨_, q89 _ _ hR7⟩).up sp10⟩ (hAL7.mono fun _ _ z => z.up sp7b)
          · rw [upd_ne t5n.1, upd_same]; rfl
          · rw [upd_ne p3n.1]; exact q10 _ _ h3
        · rw [upd_ne RL]; exact q10 _ _ (q89 _ _ hR7)
        · rcases List.mem_append.mp hl with z | z
          · exact vl l z
          · rw [List.mem_singleton.mp z]; exact vlx
      | false =>
        obtain ⟨rfl, hs2⟩ := hsz e
        obtain ⟨hlays, hq13⟩ := hlay e
        have ppR : Of L R pp := by
          rcases hnew with rfl | n
          · exact of_new (H := upd G l0 (.lst [V.str "", V.str (("f" : Str) ++ (toString (0 + (i : Int)) : Str)), V.str "g"])) (by rw [q1 _ _ hL]; exact fun z => nomatch z) (by rw [q1 _ _ hR]; exact fun z => nomatch z) np
          · exact of_new (by rw [q2 _ _ hL]; exact fun z => nomatch z) (by rw [q2 _ _ hR]; exact fun z => nomatch z) n
        have hpp8 := hpp7 ppR.2
        have hPS7 : A2 (PT2 K G7) xs ps := hPS.mono fun v p ⟨a', e', h'⟩ => ⟨a', e', sp7 _ _ ⟨(fun z => by have := q4 _ _ h'; rw [z, hL3] at this; cases this), (fun z => by have := q4 _ _ h'; rw [z, hR3] at this; cases this)⟩ (q4 _ _ h')⟩
        have lxs7 := hPS7.len
        obtain ⟨n1, en1⟩ : ∃ n1 : Nat, xs.length = n1 + 1 := ⟨xs.length - 1, by omega⟩
        let tf : Nat → Trm := fun o => ⟨.inr (("s" : Str) ++ (toString ((c : Int) + (0 + (o : Int))) : Str)), (ps.getD (o + 1) (0, 0)).1, (ps.getD (o + 1) (0, 0)).2⟩
        have psAt : ∀ o, o ≤ n1 → ∃ pt, xs[o]? = some (.ref pt) ∧ G7 pt = some (.tup [.int ((ps.getD o (0, 0)).1 : Nat), .int ((ps.getD o (0, 0)).2 : Nat)]) ∧ ps.getD o (0, 0) ∈ ps := fun o ho => by
          obtain ⟨pe, hpe⟩ := some_at (xs := ps) (i := o) (by omega)
          obtain ⟨v, hv2, pt, rfl, hpt⟩ := hPS7.get' hpe
          have e1 : ps.getD o (0, 0) = pe := by rw [List.getD_eq_getElem?_getD, hpe]; rfl
          exact ⟨pt, hv2, by rw [e1]; exact hpt, by rw [e1]; exact mem_at hpe⟩
        refine iteF ⟨.ref pp, rfl, pp, _, rfl, .inl (.of hpp8), _, _, rfl, rfl, (n1 : Nat), congrArg (fun z => [V.int z]) (by rw [en1]; omega), by omega, by omega, fun D nD => ?_⟩
        rw [Int.toNat_natCast]
        refine lc_fm (walk_range (lo := 0) (n := n1)) (List.range n1) (fun o => some (tf o)) (TNX D) TNX.mono List.length_range nD (fun _ _ => trivial) (small' (by omega)) (fun i2 x G8 Hx ys o2 ho sm2 hD y Qt Qf qt qf => ?_) (fun G8 ys q8 hD hTS => ?_)
        · obtain ⟨rfl, rfl⟩ := y
          have hlt : i2 < n1 := by have := (List.getElem?_eq_some_iff.mp ho).1; rw [List.length_range] at this; exact this
          obtain rfl : o2 = i2 := by rw [List.getElem?_range hlt] at ho; exact (Option.some.inj ho).symm
          obtain ⟨pt, hpt, htup, _⟩ := psAt (o2 + 1) (by omega)
          have gc : GS 9 (toString ((c : Int) + (0 + (o2 : Int))) : Str) := GS.int (by omega)
          have lgc : ((c : Int) + (0 + (o2 : Int))).natAbs.log2 < 1920 := log_small (by omega)
          have hat : atI xs (0 + (o2 : Int) + 1) = some (.ref pt) := by rw [show 0 + (o2 : Int) + 1 = ((o2 + 1 : Nat) : Int) by omega]; exact atI_nat hpt
          refine ⟨rfl, _, rfl, _, rfl, _, _, rfl, rfl, _, rfl, lgc, _, _, rfl, rfl, small (by have := gc.1; show 1 + _ ≤ _; omega), ?_⟩
          refine ⟨.ref pp, rfl, _, rfl, _, _, rfl, rfl, pp, _, _, _, rfl, rfl, .of (sm2 _ _ hpp8), hat, pt, _, _, _, rfl, rfl, .inl (.inl (sm2 _ _ htup)), rfl, ?_⟩
          refine ⟨.ref pp, rfl, _, rfl, _, _, rfl, rfl, pp, _, _, _, rfl, rfl, .of (sm2 _ _ hpp8), hat, pt, _, _, _, rfl, rfl, .inl (.inl (sm2 _ _ htup)), rfl, ?_⟩
          refine ⟨by show 3 ≤ sizeLine; decide, fun t nt => ?_⟩
          exact qt _ _ _ rfl (same_upd nt) ⟨t, rfl, (fun z => by rw [z, hD] at nt; cases nt), upd_same⟩
        · rw [fm_some] at hTS
          have ly := hTS.len
          rw [List.length_map, List.length_range] at ly
          have hL8 := q8 _ _ hL7
          obtain ⟨pt, hpt, htup, hmem0⟩ := psAt 0 (by omega)
          have hat : atI xs 0 = some (.ref pt) := atI_nat (j := 0) hpt
          have hpp9 := q8 _ _ hpp8
          have htp9 := q8 _ _ htup
          refine ⟨_, rfl, .ref D, rfl, D, _, rfl, .inl (.of hD), _, _, rfl, rfl, ?_⟩
          refine ⟨.ref L, rfl, .inl ⟨rfl, _, .of hL8⟩, ?_⟩
          refine ⟨.ref pp, rfl, pp, _, _, _, rfl, rfl, .of hpp9, hat, pt, _, _, _, rfl, rfl, .inl (.inl htp9), rfl, ?_⟩
          refine ⟨.ref pp, rfl, pp, _, _, _, rfl, rfl, .of hpp9, hat, pt, _, _, _, rfl, rfl, .inl (.inl htp9), rfl, ?_⟩
          refine ⟨_, rfl, _, rfl, by show 5 ≤ sizeLine; decide, fun t5 nt5 => ?_⟩
          have Dn : Of L R D := of_new (H := G7) (by rw [hL7]; exact fun z => nomatch z) (by rw [hR7]; exact fun z => nomatch z) nD
          have q10 := same_upd nt5 (o := .tup [.str "sized", .int ((ps.getD 0 (0, 0)).1 : Nat), .int ((ps.getD 0 (0, 0)).2 : Nat), .ref D, .str src])
          refine ⟨L, _, _, rfl, rfl, q10 _ _ hL8, small' (by omega), ?_⟩
          have t5n : Of L R t5 := of_new (H := G8) (by rw [hL8]; exact fun z => nomatch z) (by rw [q8 _ _ hR7]; exact fun z => nomatch z) nt5
          have sp10 : SP L R G8 (upd (upd G8 t5 (.tup [.str "sized", .int ((ps.getD 0 (0, 0)).1 : Nat), .int ((ps.getD 0 (0, 0)).2 : Nat), .ref D, .str src])) L (.lst (xl ++ [.ref t5]))) := (spS q10).trans spG
          have sp7b := (spS q8).trans sp10
          let nl : Lw := ⟨false, (ps.getD 0 (0, 0)).1, (ps.getD 0 (0, 0)).2, (List.range n1).map tf, src⟩
          have hpl : nl.places = ps := by
            show ((ps.getD 0 (0, 0)).1, (ps.getD 0 (0, 0)).2) :: (((List.range n1).map tf).map fun t => (t.k, t.j)) = ps
            rw [List.map_map]
            cases hps : ps with
            | nil =>
              have : ps.length = 0 := by rw [hps]; rfl
              omega
            | cons p0 pr =>
              have lpr : pr.length = n1 := by
                have : ps.length = pr.length + 1 := by rw [hps]; rfl
                omega
              have h0 : (p0 :: pr).getD 0 (0, 0) = p0 := rfl
              rw [h0]
              refine congrArg (p0 :: ·) ?_
              refine List.ext_getElem (by rw [List.length_map, List.length_range, lpr]) fun j h1 h2 => ?_
              rw [List.getElem_map, List.getElem_range]
              show ((ps.getD (j + 1) (0, 0)).1, (ps.getD (j + 1) (0, 0)).2) = _
              rw [hps, List.getD_eq_getElem?_getD, List.getElem?_cons_succ, List.getElem?_eq_getElem h2]; rfl
          have vlx : VL many nl := ⟨fun x hx => by
              obtain ⟨o, ho, rfl⟩ := List.mem_map.mp hx
              obtain ⟨_, _, _, hm2⟩ := psAt (o + 1) (by have := List.mem_range.mp ho; omega)
              exact ⟨hq13 _ hm2, hlays.hj _ hm2⟩, fun _ => ⟨hq13 _ hmem0, hlays.hj _ hmem0⟩, (fun z => by cases z), fun _ x hx => by
              obtain ⟨o, ho, rfl⟩ := List.mem_map.mp hx
              have ho := List.mem_range.mp ho
              have gc : GS 10 (("s" : Str) ++ (toString ((c : Int) + (0 + (o : Int))) : Str)) := GS.add (n := 1) ⟨by decide +kernel, by decide +kernel⟩ (GS.int (by omega))
              exact ⟨_, rfl, gc.mono (by decide)⟩, gs, by show ((List.range n1).map tf).length ≤ 300; rw [List.length_map, List.length_range]; omega⟩
          refine ⟨same_over ((sH7.trans q8).trans q10) nL, c + n1, _, _, _, _, _, _, _, _, _, _, xl ++ [.ref t5], ls ++ [nl], xr ++ [.ref t4], rows ++ [r3], by rw [ly]; rfl, by omega, upd_same, ?_, ?_, hAR7.mono fun _ _ z => z.up sp7b, A2.snoc ⟨e.symm, (fun z => by rw [e] at z; cases z), fun _ => by rw [hpl]; exact hlays⟩ hLR, lrw2, fun l hl => ?_, rowsVR⟩
          · refine A2.snoc ⟨t5, D, ys, rfl, t5n, Dn, ?_, ?_, hTS.mono fun _ _ z => ((TNX.tn z).o ⟨_, hL8⟩ ⟨_, q8 _ _ hR7⟩).up sp10⟩ (hAL7.mono fun _ _ z => z.up sp7b)
            · rw [upd_ne t5n.1, upd_same]; rfl
            · rw [upd_ne Dn.1]; exact q10 _ _ hD
          · rw [upd_ne RL]; exact q10 _ _ (q8 _ _ hR7)
          · rcases List.mem_append.mp hl with z | z
            · exact vl l z
            · rw [List.mem_singleton.mp z]; exact vlx
    · obtain ⟨sm, c, v6, v7, v8, v9, v10, v11, v12, v13, v14, v15, xl, ls, xr, rows, rfl, hc, hL, hAL, hR, hAR, hLR, lrw, vl, vr⟩ := hP
      have lls := hLR.len
      refine ⟨.ref g, rfl, g, _, rfl, .inl (.of (sm _ _ hx)), (many : Nat), by rw [lxg, lrs], by omega, by omega, fun D nD => ?_⟩
      rw [Int.toNat_natCast]
      refine lc_fm (walk_range (lo := 0) (n := many)) (List.range many) (fun o => some (("x" : Str) ++ (toString (0 + (o : Int)) : Str))) (fun _ v s => v = .str s) (fun _ _ _ _ _ z => z) List.length_range nD (fun _ _ => trivial) (small' (by omega)) (fun i2 x G8 Hx ys o2 ho sm2 hD y Qt Qf qt qf => ?_) (fun G8 ys q8 hD hS => ?_)
      · obtain ⟨rfl, rfl⟩ := y
        have hlt : i2 < many := by have := (List.getElem?_eq_some_iff.mp ho).1; rw [List.length_range] at this; exact this
        obtain rfl : o2 = i2 := by rw [List.getElem?_range hlt] at ho; exact (Option.some.inj ho).symm
        have gc : GS 9 (toString (0 + (o2 : Int)) : Str) := GS.int (by omega)
        exact ⟨rfl, _, rfl, _, rfl, log_small (by omega), _, _, rfl, rfl, small (by have := gc.1; show 1 + _ ≤ _; omega), qt _ _ _ rfl (Same.refl _) rfl⟩
      · rw [a2_eq hS, fm_some] at hD
        refine ⟨_, rfl, by show 2 ≤ sizeLine; decide, fun u nu => ?_⟩
        have q9 := same_upd nu (o := .tup [.ref D, .ref L])
        refine ⟨_, rfl, by show 2 ≤ sizeLine; decide, fun u2 nu2 => ?_⟩
        have q10 := same_upd nu2 (o := .tup [.ref u, .ref R])
        have q12 := q8.trans (q9.trans q10)
        let m : Mdl := ⟨(List.range many).map fun (o : Nat) => ("x" : Str) ++ (toString (0 + (o : Int)) : Str), ls⟩
        refine q _ u2 (.ref u) R m rows (sm.trans q12) upd_same ⟨u, D, L, xl, rfl, .inl (.inl (q10 _ _ upd_same)), q10 _ _ (q9 _ _ hD), .of (q12 _ _ hL), hAL.mono fun _ _ z => (z.lw).same q12⟩ ⟨⟨by show ((List.range many).map _).length = many; rw [List.length_map, List.length_range], fun s hs => ?_⟩, by show ls.length = many; omega, vl⟩ ⟨xr, q12 _ _ hR, hAR.mono fun _ _ z => z.row.lk (K46.lk q12)⟩ ⟨lrw, vr⟩ hLR
        obtain ⟨o, ho, rfl⟩ := List.mem_map.mp hs
        have ho := List.mem_range.mp ho
        have gc : GS 10 (("x" : Str) ++ (toString (0 + (o : Int)) : Str)) := GS.add (n := 1) ⟨by decide +kernel, by decide +kernel⟩ (GS.int (by omega))
        exact gc.mono (by decide)
end
-- N
/-! ### data and their texts -/
/-- may be shown and compared; a text of at most n signs -/
structure Gd (k n : Nat) (d : PyData) : Prop where
  sh : d.showable = true
  lay : d.canLay0 = true
  dep : d.depth ≤ k
  len : d.shown.length ≤ n
def tot (ts : List Str) : Nat := (ts.map fun t => t.length + 2).sum
theorem textFrom_tot : ∀ (ts : List Str) (k : Nat) (acc : Str), (textFrom k acc ts).length ≤ acc.length + tot ts
  | [], k, acc => Nat.le_add_right _ _
  | t :: r, k, acc => by
    have h := textFrom_tot r (k + 1) (acc ++ (if k > 0 then ", " else "" : String) ++ t)
    rw [Str.length_append, Str.length_append] at h
    have e : ((if k > 0 then ", " else "" : String) : Str).length ≤ 2 := by split <;> decide +kernel
    show (textFrom (k + 1) (acc ++ (if k > 0 then ", " else "" : String) ++ t) r).length ≤ _
    have e2 : tot (t :: r) = t.length + 2 + tot r := by unfold tot; rw [List.map_cons, List.sum_cons]
    omega
theorem join_tot : ∀ ts : List Str, (Str.join ", " ts).length ≤ tot ts
  | [] => Nat.zero_le _
  | [x] => by show x.length ≤ _; unfold tot; simp
  | x :: y :: r => by
    have h := join_tot (y :: r)
    show (x ++ ", " ++ Str.join ", " (y :: r)).length ≤ _
    rw [Str.length_append, Str.length_append]
    have e2 : tot (x :: y :: r) = x.length + 2 + tot (y :: r) := by unfold tot; rw [List.map_cons, List.sum_cons]
    have e3 : ((", " : String) : Str).length = 2 := rfl
    omega
/-- all of them, with all their texts together -/
inductive GdAll (k : Nat) : Nat → List PyData → Prop
  | nil : GdAll k 0 []
  | cons {n m : Nat} {d : PyData} {ds : List PyData} : Gd k n d → GdAll k m ds → GdAll k (n + 2 + m) (d :: ds)
theorem GdAll.facts {k : Nat} : ∀ {n : Nat} {ds : List PyData}, GdAll k n ds → PyData.showableAll ds = true ∧ PyData.canLayAll0 ds = true ∧ PyData.depthAll ds ≤ k ∧ tot (PyData.shownAll ds) ≤ n
  | _, _, .nil => ⟨rfl, rfl, Nat.zero_le _, Nat.le_refl _⟩
  | _, _, .cons (d := d) (ds := ds) h t => by
    obtain ⟨h1, h2, h3, h4⟩ := t.facts
    refine ⟨?_, ?_, ?_, ?_⟩
    · show (PyData.showable d && PyData.showableAll ds) = true
      rw [h.sh, h1]; rfl
    · show (PyData.canLay0 d && PyData.canLayAll0 ds) = true
      rw [h.lay, h2]; rfl
    · show max (PyData.depth d) (PyData.depthAll ds) ≤ k
      exact Nat.max_le.mpr ⟨h.dep, h3⟩
    · show tot (PyData.shown d :: PyData.shownAll ds) ≤ _
      unfold tot at h4 ⊢
      rw [List.map_cons, List.sum_cons]
      have := h.len
      omega
theorem GdAll.map {α : Type} {k n : Nat} {f : α → PyData} : ∀ {xs : List α}, (∀ x ∈ xs, Gd k n (f x)) → GdAll k (xs.length * (n + 2)) (xs.map f)
  | [], _ => by rw [List.length_nil, Nat.zero_mul]; exact .nil
  | x :: r, h => by
    rw [List.length_cons, Nat.succ_mul, Nat.add_comm]
    exact .cons (h x List.mem_cons_self) (GdAll.map fun y hy => h y (List.mem_cons_of_mem _ hy))
theorem Gd.list {k n : Nat} {ds : List PyData} (h : GdAll k n ds) : Gd (k + 1) (n + 2) (.list ds) := by
  obtain ⟨h1, h2, h3, h4⟩ := h.facts
  refine ⟨h1, h2, Nat.succ_le_succ h3, ?_⟩
  show (listText (PyData.shownAll ds)).length ≤ _
  unfold listText
  rw [Str.length_append]
  have := textFrom_tot (PyData.shownAll ds) 0 "["
  have e1 : (("[" : String) : Str).length = 1 := rfl
  have e2 : (("]" : String) : Str).length = 1 := rfl
  omega
theorem Gd.tup {k n : Nat} {ds : List PyData} (h : GdAll k n ds) : Gd (k + 1) (n + 3) (.tuple ds) := by
  obtain ⟨h1, h2, h3, h4⟩ := h.facts
  refine ⟨h1, h2, Nat.succ_le_succ h3, ?_⟩
  show (tupleText (PyData.shownAll ds)).length ≤ _
  unfold tupleText
  rw [Str.length_append, Str.length_append]
  have := join_tot (PyData.shownAll ds)
  have e1 : (("(" : String) : Str).length = 1 := rfl
  have e2 : ((if (PyData.shownAll ds).length == 1 then ",)" else ")" : String) : Str).length ≤ 2 := by split <;> decide +kernel
  omega
theorem Gd.mono {k l n m : Nat} {d : PyData} (h : Gd k n d) (a : k ≤ l) (b : n ≤ m) : Gd l m d := ⟨h.sh, h.lay, Nat.le_trans h.dep a, Nat.le_trans h.len b⟩
theorem log_le {n : Nat} (h : n ≤ 10 ^ 42) : n.log2 < 1920 := by
  rcases Nat.eq_zero_or_pos n with rfl | p
  · decide
  · exact Nat.lt_of_lt_of_le ((Nat.log2_lt (by omega)).mpr (Nat.lt_of_le_of_lt h (by decide : 10 ^ 42 < 2 ^ 150))) (by decide)
theorem Gd.int {i : Int} (h : i.natAbs ≤ 10 ^ 42) : Gd 0 44 (.int i) := by
  refine ⟨decide_eq_true (log_le h), rfl, Nat.le_refl _, ?_⟩
  show (Str.ofString (toString i)).length ≤ 44
  rw [PySem.ofString_length]
  exact int_text_length_le10 (k := 43) (by decide) (Nat.lt_of_le_of_lt h (by decide))
theorem str_ok {n : Nat} {s : Str} (h : GS n s) : (PyData.str s).canLay0 = true := by
  show s.cps.all (· < 0x110000) = true
  rw [← Array.all_toList, List.all_eq_true]
  exact fun c hc => decide_eq_true (Nat.lt_trans (h.2 c hc) (by decide))
theorem Gd.str {n : Nat} {s : Str} (h : GS n s) : Gd 0 (10 * n + 2) (.str s) := by
  refine ⟨rfl, str_ok h, Nat.le_refl _, ?_⟩
  refine Nat.le_trans (StrLaws.reprText_len s fun c hc => Nat.lt_trans (h.2 c hc) (by decide)) ?_
  have := h.1
  omega
/-! ### a grid as a datum -/
def dRow (r : Rw) : PyData := .tuple [.str (kS r.1), .list (r.2.map dI)]
def dGr (rs : List Rw) : PyData := .list (rs.map dRow)
theorem gs_kS (b : Bool) : GS 5 (kS b) := by cases b <;> exact ⟨by decide +kernel, by decide +kernel⟩
theorem dp_els {K : PySem.W.Frag} {H : Hp} : ∀ {as : List Addr} {els : List (List Int)}, A2 (IL H) as els → DpAll K H (as.map V.ref) (els.map dI)
  | _, _, .nil => .nil
  | _, _, .cons h t => .cons (dpI h.sq) (dp_els t)
theorem dp_row {K : PySem.W.Frag} {H : Hp} {v : V} {r : Rw} (h : RwV K H v r) : Dp K H v (dRow r) := by
  obtain ⟨t, b, rfl, ht, as, hb, hA⟩ := h
  exact .tup ht (.cons (.str _) (.cons (.lst (.of hb) (dp_els hA)) .nil))
theorem dp_rows {K : PySem.W.Frag} {H : Hp} : ∀ {xs : List V} {rs : List Rw}, A2 (RwV K H) xs rs → DpAll K H xs (rs.map dRow)
  | _, _, .nil => .nil
  | _, _, .cons h t => .cons (dp_row h) (dp_rows t)
theorem dp_gr {K : PySem.W.Frag} {H : Hp} {g : Addr} {rs : List Rw} (h : GR K H g rs) : Dp K H (.ref g) (dGr rs) := let ⟨xs, hx, hA⟩ := h; .lst (.of hx) (dp_rows hA)
theorem layAll_map {α : Type} {f : α → PyData} (h : ∀ x, (f x).canLay0 = true) : ∀ xs : List α, PyData.canLayAll0 (xs.map f) = true
  | [] => rfl
  | x :: r => by
    show (PyData.canLay0 (f x) && PyData.canLayAll0 (r.map f)) = true
    rw [h, layAll_map h r]; rfl
theorem depAll_map {α : Type} {f : α → PyData} {k : Nat} (h : ∀ x, (f x).depth ≤ k) : ∀ xs : List α, PyData.depthAll (xs.map f) ≤ k
  | [] => Nat.zero_le _
  | x :: r => by
    show max (PyData.depth (f x)) (PyData.depthAll (r.map f)) ≤ k
    exact Nat.max_le.mpr ⟨h x, depAll_map h r⟩
def dEls (els : List (List Int)) : PyData := .list (els.map dI)
theorem lay_els (els : List (List Int)) : (dEls els).canLay0 = true := layAll_map lay_dI els
theorem dep_els (els : List (List Int)) : (dEls els).depth ≤ 2 := Nat.succ_le_succ (depAll_map (fun x => Nat.le_of_eq (dep_dI x)) els)
theorem lay_dRow (r : Rw) : (dRow r).canLay0 = true := by
  show (PyData.canLay0 (.str (kS r.1)) && (PyData.canLay0 (dEls r.2) && true)) = true
  rw [lay_els, str_ok (gs_kS r.1)]; rfl
theorem dep_dRow (r : Rw) : (dRow r).depth ≤ 3 := by
  show max (PyData.depth (.str (kS r.1))) (max (PyData.depth (dEls r.2)) 0) + 1 ≤ 3
  have := dep_els r.2
  have e : PyData.depth (.str (kS r.1)) = 0 := rfl
  omega
theorem shaped_dGr (rs : List Rw) : SeqAt.shaped (dGr rs) = true := by
  unfold SeqAt.shaped
  rw [show (dGr rs).canLay0 = true from layAll_map lay_dRow rs, decide_eq_true (Nat.le_trans (Nat.succ_le_succ (depAll_map dep_dRow rs)) (by decide) : (dGr rs).depth ≤ 64)]; rfl
theorem dp_rowL {K : PySem.W.Frag} {H : Hp} {a : Addr} {row : List (List Int)} (h : RowL H a row) : Dp K H (.ref a) (dEls row) := let ⟨as, ha, hA⟩ := h; .lst (.of ha) (dp_els hA)
def ER (H0 G : Hp) (n : Nat) (e : Addr) : Prop := H0 e = none ∧ ∃ ns, IL G e ns ∧ ns.length ≤ n
/-- what was told is changed: a row of lists -/
def MR (H0 G : Hp) (n : Nat) (v : V) (_r : List (List Int)) : Prop := ∃ (b e0 : Addr) (as : List Addr), v = .ref b ∧ G b = some (.lst ((e0 :: as).map V.ref)) ∧ (e0 :: as).length ≤ 16 ∧ ∀ e ∈ e0 :: as, ER H0 G n e
theorem ER.step {H0 G : Hp} {n : Nat} {e e2 : Addr} {ns : List Int} (h : ER H0 G n e2) (he : IL G e ns) (hl : ns.length ≤ n) : ER H0 (upd G e (.lst (ns.map V.int ++ [V.int 5]))) (n + 1) e2 := by
  obtain ⟨h0, ms, hm, hlm⟩ := h
  refine ⟨h0, ?_⟩
  by_cases z : e2 = e
  · exact ⟨ns ++ [5], by unfold IL; rw [z, upd_same, ← app_ints], by rw [List.length_append]; exact Nat.succ_le_succ hl⟩
  · exact ⟨ms, by unfold IL; rw [upd_ne z]; exact hm, Nat.le_succ_of_le hlm⟩
theorem not_refs {G : Hp} {b e x : Addr} {as : List V} {ns : List Int} (hb : G b = some (.lst (.ref x :: as))) (he : IL G e ns) : b ≠ e := fun z => by
  rw [z] at hb
  have e2 := hb.symm.trans he
  cases ns with
  | nil => cases e2
  | cons n r => cases e2
theorem MR.step {H0 G : Hp} {n : Nat} {e : Addr} {ns : List Int} {v : V} {r : List (List Int)} (h : MR H0 G n v r) (he : IL G e ns) (hl : ns.length ≤ n) : MR H0 (upd G e (.lst (ns.map V.int ++ [V.int 5]))) (n + 1) v r := by
  obtain ⟨b, e0, as, rfl, hb, h16, hE⟩ := h
  refine ⟨b, e0, as, rfl, ?_, h16, fun e2 h2 => (hE e2 h2).step he hl⟩
  rw [upd_ne (not_refs (as := as.map V.ref) (x := e0) hb he)]; exact hb
theorem MR.more {H0 G : Hp} {n m : Nat} {v : V} {r : List (List Int)} (h : MR H0 G n v r) (l : n ≤ m) : MR H0 G m v r := let ⟨b, e0, as, e, hb, h16, hE⟩ := h; ⟨b, e0, as, e, hb, h16, fun e2 h2 => let ⟨z, ns, a, c⟩ := hE e2 h2; ⟨z, ns, a, Nat.le_trans c l⟩⟩
/-! ### a model as a datum -/
def dTm (t : Trm) : PyData := .tuple [dH t.h, .int (t.k : Nat), .int (t.j : Nat)]
def dLw (l : Lw) : PyData := if l.ex then .tuple [.str "exact", .list (l.ts.map dTm), .str l.src] else .tuple [.str "sized", .int (l.k : Nat), .int (l.j : Nat), .list (l.ts.map dTm), .str l.src]
def dMd (m : Mdl) : PyData := .tuple [.list (m.qs.map PyData.str), .list (m.ls.map dLw)]
theorem gd_lw {many : Nat} {l : Lw} (h : VL many l) (hm : many ≤ 16) : Gd 3 660000 (dLw l) := by
  have hh : ∀ t ∈ l.ts, Gd 1 2103 (dTm t) := fun t ht => by
    obtain ⟨a, b⟩ := h.ts t ht
    have hd : Gd 0 2002 (dH t.h) := by
      cases e : l.ex with
      | true =>
        obtain ⟨n, e2, b⟩ := h.num e t ht
        rw [e2]
        exact (Gd.int (Nat.le_trans b (by decide))).mono (Nat.le_refl _) (by decide)
      | false =>
        obtain ⟨s, e2, b⟩ := h.nam e t ht
        rw [e2]
        exact Gd.str (n := 200) b
    exact (Gd.tup (.cons hd (.cons (Gd.int (by omega)) (.cons (Gd.int (by omega)) .nil)))).mono (Nat.le_refl _) (by decide)
  have hl : Gd 2 631502 (.list (l.ts.map dTm)) := (Gd.list (GdAll.map hh)).mono (Nat.le_refl _) (by have := h.many; show l.ts.length * 2105 + 2 ≤ 631502; omega)
  have hs : Gd 2 6002 (.str l.src) := (Gd.str (n := 600) h.src).mono (by decide) (Nat.le_refl _)
  unfold dLw
  cases e : l.ex with
  | true =>
    have he : Gd 2 52 (.str "exact") := (Gd.str (n := 5) ⟨by decide +kernel, by decide +kernel⟩).mono (by decide) (Nat.le_refl _)
    exact (Gd.tup (.cons he (.cons hl (.cons hs .nil)))).mono (Nat.le_refl _) (by decide)
  | false =>
    have he : Gd 2 52 (.str "sized") := (Gd.str (n := 5) ⟨by decide +kernel, by decide +kernel⟩).mono (by decide) (Nat.le_refl _)
    obtain ⟨a, b⟩ := h.own e
    have hi : ∀ x : Nat, x < 100 → Gd 2 44 (.int (x : Nat)) := fun x hx => (Gd.int (by omega)).mono (by decide) (Nat.le_refl _)
    exact (Gd.tup (.cons he (.cons (hi _ (by omega)) (.cons (hi _ (by omega)) (.cons hl (.cons hs .nil)))))).mono (Nat.le_refl _) (by decide)
theorem gd_md {many : Nat} {m : Mdl} (h : VM many m) (hm : many ≤ 16) : Gd 5 11000000 (dMd m) := by
  have h1 : Gd 1 96066 (.list (m.qs.map PyData.str)) := (Gd.list (GdAll.map (n := 6002) fun q hq => Gd.str (n := 600) (h.qs.2 q hq))).mono (Nat.le_refl _) (by have := h.qs.1; show m.qs.length * 6004 + 2 ≤ 96066; omega)
  have h2 : Gd 4 10560034 (.list (m.ls.map dLw)) := (Gd.list (GdAll.map fun l hl => gd_lw (h.ok l hl) hm)).mono (Nat.le_refl _) (by have := h.ls; show m.ls.length * 660002 + 2 ≤ 10560034; omega)
  exact (Gd.tup (.cons (h1.mono (by decide) (Nat.le_refl _)) (.cons h2 .nil))).mono (Nat.le_refl _) (by decide)
section
variable {K : PySem.W.Frag} {H : Hp}
theorem dpAll_of {α : Type} {R : V → α → Prop} {f : α → PyData} (h : ∀ v a, R v a → Dp K H v (f a)) : ∀ {xs : List V} {as : List α}, A2 R xs as → DpAll K H xs (as.map f)
  | _, _, .nil => .nil
  | _, _, .cons a t => .cons (h _ _ a) (dpAll_of h t)
theorem dp_tm {v : V} {t : Trm} (h : TmV K H v t) : Dp K H v (dTm t) := by
  obtain ⟨a, rfl, q⟩ := h
  refine .tup q (.cons ?_ (.cons (.int _) (.cons (.int _) .nil)))
  cases t.h with
  | inl n => exact .int n
  | inr s => exact .str s
theorem dp_lw {v : V} {l : Lw} (h : LW K H v l) : Dp K H v (dLw l) := by
  obtain ⟨a, p, rfl, ⟨xs, hx, hT⟩, ⟨e, q⟩ | ⟨e, q⟩⟩ := h
  · unfold dLw
    rw [e]
    exact .tup q (.cons (.str _) (.cons (.lst hx (dpAll_of (f := dTm) (fun _ _ => dp_tm) hT)) (.cons (.str _) .nil)))
  · unfold dLw
    rw [e]
    exact .tup q (.cons (.str _) (.cons (.int _) (.cons (.int _) (.cons (.lst hx (dpAll_of (f := dTm) (fun _ _ => dp_tm) hT)) (.cons (.str _) .nil)))))
theorem dp_strs : ∀ qs : List Str, DpAll K H (qs.map V.str) (qs.map PyData.str)
  | [] => .nil
  | q :: r => .cons (.str q) (dp_strs r)
theorem dp_md {v : V} {m : Mdl} (h : MD K H v m) : ∃ a, v = .ref a ∧ Dp K H (.ref a) (dMd m) := by
  obtain ⟨a, q, r, xs, rfl, h1, h2, h3, h4⟩ := h
  exact ⟨a, rfl, .tup h1 (.cons (.lst h2 (dp_strs _)) (.cons (.lst h3 (dpAll_of (f := dLw) (fun _ _ => dp_lw) h4)) .nil))⟩
end
theorem eqv_nilG {α : Type} (f : α → PyData) (xs : List α) : PyData.eqv (.list (xs.map f)) (.list []) = decide (xs = []) := by
  cases xs <;> simp [PyData.eqv, PyData.eqvAll]
-- W
section
variable {P : Program} {w : World} {K : PySem.W.Frag} {mg : Str → Option Value} {base : Heap}
def sp_law_is_integer : Sp := fun vs H Q _ => ∃ i : Int, vs = [.int i] ∧ Q (.bl true) H
theorem ok_law_is_integer (T : Txt K mg) : FnOk P w K mg base CX0 1 T.law_is_integer.a T.law_is_integer.fd ["actual"] sp_law_is_integer := by
  refine T.law_is_integer.F.ok sc_law_is_integer (fun vs H Q E h => ?_) (fun cdv A outer s H vs Q E hr h => ?_)
  · obtain ⟨i, rfl, _⟩ := h
    rfl
  · obtain ⟨i, rfl, q⟩ := h
    refine ⟨_, (pss_one (ps_ret (pe_and (pe_callB call_isi (by rfl) T.m_isinstance (by decide +kernel) (pa_cons (pv 0) (pa_cons (pe_bltn (v := .ty "int") (by rfl) T.m_int (by decide +kernel) rfl) pa_nil))) (pe_one (pe_not (pe_callB call_isi (by rfl) T.m_isinstance (by decide +kernel) (pa_cons (pv 0) (pa_cons (pe_bltn (v := .ty "bool") (by rfl) T.m_bool (by decide +kernel) rfl) pa_nil)))))))), ?_⟩
    refine ⟨_, rfl, _, _, _, _, _, rfl, .ty "int", .base (.int i), kit_ty (by decide +kernel), true, rfl, ?_⟩
    exact iteT ⟨_, rfl, _, _, _, _, _, rfl, .ty "bool", .base (.int i), kit_ty (by decide +kernel), false, rfl, q⟩
/-! ### what is refused -/
def RefOut (H : Hp) (Q : VK) (b0 b1 b2 b3 : Bool) (n : Int) : Prop := ∀ H' t l, Same H H' → H' t = some (.tup [.ref l, .int n]) → H' l = some (.lst [.bl b0, .bl b1, .bl b2, .bl b3]) → Q (.ref t) H'
def sp_law_refused (K : PySem.W.Frag) : Sp := fun vs H Q _ => ∃ (x : Addr) (way i j : Int), vs = [.int way, .ref x, .int i, .int j] ∧
  ((way = 0 ∧ ∃ (q r : Addr) (qs xs : List V), SqT K H x [.ref q, .ref r] ∧ SqL K H q qs ∧ SqL K H r xs ∧ xs.length ≤ 1000 ∧ qs.length ≤ 1000 ∧
      ((xs.length ≠ qs.length ∧ RefOut H Q true false false false (xs.length : Nat)) ∨ (xs.length = qs.length ∧ 16 < xs.length ∧ RefOut H Q false true false false (xs.length : Nat)))) ∨
   (way = 1 ∧ ∃ (rs : List Rw) (many : Nat), GR K H x rs ∧ VG many rs ∧ many ≤ 16 ∧ i.natAbs < 10 ^ 12 ∧ j.natAbs < 10 ^ 12 ∧
      ((¬ (0 ≤ i ∧ i < many) ∧ RefOut H Q false false true false i) ∨ ((0 ≤ i ∧ i < many) ∧ ¬ (0 ≤ j ∧ j < many) ∧ RefOut H Q false false false true j))))
theorem ok_law_refused (T : Txt K mg) (X : Errs K mg) : FnOk P w K mg base CX0 7 T.law_refused.a T.law_refused.fd ["way", "grid", "i", "j"] (sp_law_refused K) := by
  refine T.law_refused.F.ok sc_law_refused (fun vs H Q E h => ?_) (fun cdv A outer s H vs Q E hr h => ?_)
  · obtain ⟨x, way, i, j, rfl, _⟩ := h
    rfl
  · obtain ⟨x, way, i, j, rfl, h⟩ := h
    refine ⟨_, (pss_cons (ps_try_as (i := 4) rfl rfl sc_law_refused.nd rfl rfl ⟨rfl, by decide, .inl X.e0.gM⟩ takes0
        (fun W pn xe tk _ => (pss_one (ps_if (pt_cmpR op_eq (pv 0) pe_int (nomark _))
          (pss_one (ps_expr (pe_callS (ok_grid_of T X) (hr.mono (by decide)) (by rfl) T.grid_of.g T.grid_of.F.kp T.grid_of.b (fun σ => passAt tk σ) (pa_cons (pv 1) pa_nil))))
          (pss_one (ps_expr (pe_callS (ok_without T X) (hr.mono (by decide)) (by rfl) T.without.g T.without.F.kp T.without.b (fun σ => passAt tk σ) (pa_cons (pv 1) (pa_cons (pv 2) (pa_cons (pv 3) pa_nil)))))))))
        (fun a oe cls d pn hz hf => (pss_one (ps_ret (pe_tup (pa_cons (pe_lst (pa_cons (pe_callB (LX.call_isX hz hf) (by rfl) T.m_isinstance (by decide +kernel) (pa_cons (pv 4) (pa_cons (pe_glob (v := .ref X.NotSquare.C) rfl X.NotSquare.g rfl) pa_nil))) (pa_cons (pe_callB (LX.call_isX hz hf) (by rfl) T.m_isinstance (by decide +kernel) (pa_cons (pv 4) (pa_cons (pe_glob (v := .ref X.TooLarge.C) rfl X.TooLarge.g rfl) pa_nil))) (pa_cons (pe_callB (LX.call_isX hz hf) (by rfl) T.m_isinstance (by decide +kernel) (pa_cons (pv 4) (pa_cons (pe_glob (v := .ref X.NoLaw.C) rfl X.NoLaw.g rfl) pa_nil))) (pa_cons (pe_callB (LX.call_isX hz hf) (by rfl) T.m_isinstance (by decide +kernel) (pa_cons (pv 4) (pa_cons (pe_glob (v := .ref X.NoQuantity.C) rfl X.NoQuantity.g rfl) pa_nil))) pa_nil))))) (pa_cons (LX.pe_xfA hz hf (pv 4)) pa_nil)))))))
      (pss_one (ps_ret pe_non))), ?_⟩
    refine ⟨_, rfl, rfl, _, rfl, ?_⟩
    rcases h with ⟨rfl, q0, r, qs, xs, hx, hq, hr2, lx, lq, h⟩ | ⟨rfl, rs, many, hg, vg, hm, hi, hj, h⟩
    · refine iteT ?_
      rcases h with ⟨ne, q⟩ | ⟨eq, big, q⟩
      · refine ⟨_, rfl, x, q0, r, qs, xs, rfl, hx, hq, hr2, lx, lq, fun _ dd hdd => ?_, fun z => absurd z ne, fun z => absurd z ne⟩
        · refine ⟨true, X.NotSquare.exm, fun _ a0 ha0 => ?_, fun q => nomatch q⟩
          have s0 := same_upd hdd (o := .xd [("at", .int (xs.length : Nat))])
          refine ⟨_, rfl, X.NotSquare.C, dd, _, _, true, _, rfl, rfl, X.NotSquare.named.own, rfl, .own _, upd_same, X.NotSquare.kit, ?_⟩
          refine ⟨_, rfl, X.NotSquare.C, dd, _, _, false, _, rfl, rfl, X.NotSquare.named.own, rfl, .own _, upd_same, X.n_NotSquare_TooLarge, ?_⟩
          refine ⟨_, rfl, X.NotSquare.C, dd, _, _, false, _, rfl, rfl, X.NotSquare.named.own, rfl, .own _, upd_same, X.n_NotSquare_NoLaw, ?_⟩
          refine ⟨_, rfl, X.NotSquare.C, dd, _, _, false, _, rfl, rfl, X.NotSquare.named.own, rfl, .own _, upd_same, X.n_NotSquare_NoQuantity, ?_⟩
          refine ⟨by show 4 ≤ sizeLine; decide, fun l nl => ?_⟩
          have s1 := same_upd nl (o := .lst [.bl true, .bl false, .bl false, .bl false])
          refine ⟨X.NotSquare.C, X.NotSquare.xf, X.NotSquare.noAt, _, rfl, rfl, rfl, dd, _, _, rfl, s1 _ _ upd_same, rfl, by show 2 ≤ sizeLine; decide, fun p hp => ?_⟩
          have s2 := same_upd hp (o := .tup [.ref l, .int (xs.length : Nat)])
          exact q _ p l (s0.trans (s1.trans s2)) upd_same (s2 _ _ upd_same)

      · refine ⟨_, rfl, x, q0, r, qs, xs, rfl, hx, hq, hr2, lx, lq, fun z => absurd eq z, fun _ _ dd hdd => ?_, fun _ z => absurd z (by omega)⟩
        · refine ⟨true, X.TooLarge.exm, fun _ a0 ha0 => ?_, fun q => nomatch q⟩
          have s0 := same_upd hdd (o := .xd [("at", .int (xs.length : Nat))])
          refine ⟨_, rfl, X.TooLarge.C, dd, _, _, false, _, rfl, rfl, X.TooLarge.named.own, rfl, .own _, upd_same, X.n_TooLarge_NotSquare, ?_⟩
          refine ⟨_, rfl, X.TooLarge.C, dd, _, _, true, _, rfl, rfl, X.TooLarge.named.own, rfl, .own _, upd_same, X.TooLarge.kit, ?_⟩
          refine ⟨_, rfl, X.TooLarge.C, dd, _, _, false, _, rfl, rfl, X.TooLarge.named.own, rfl, .own _, upd_same, X.n_TooLarge_NoLaw, ?_⟩
          refine ⟨_, rfl, X.TooLarge.C, dd, _, _, false, _, rfl, rfl, X.TooLarge.named.own, rfl, .own _, upd_same, X.n_TooLarge_NoQuantity, ?_⟩
          refine ⟨by show 4 ≤ sizeLine; decide, fun l nl => ?_⟩
          have s1 := same_upd nl (o := .lst [.bl false, .bl true, .bl false, .bl false])
          refine ⟨X.TooLarge.C, X.TooLarge.xf, X.TooLarge.noAt, _, rfl, rfl, rfl, dd, _, _, rfl, s1 _ _ upd_same, rfl, by show 2 ≤ sizeLine; decide, fun p hp => ?_⟩
          have s2 := same_upd hp (o := .tup [.ref l, .int (xs.length : Nat)])
          exact q _ p l (s0.trans (s1.trans s2)) upd_same (s2 _ _ upd_same)

    · refine iteF ?_
      rcases h with ⟨ni, q⟩ | ⟨yi, nj, q⟩
      · refine ⟨_, rfl, _, rfl, _, rfl, x, rs, many, i, j, rfl, hg, vg, hm, hi, hj, fun _ dd hdd => ?_, fun z => absurd z ni, fun z => absurd z ni⟩
        · refine ⟨true, X.NoLaw.exm, fun _ a0 ha0 => ?_, fun q => nomatch q⟩
          have s0 := same_upd hdd (o := .xd [("at", .int i)])
          refine ⟨_, rfl, X.NoLaw.C, dd, _, _, false, _, rfl, rfl, X.NoLaw.named.own, rfl, .own _, upd_same, X.n_NoLaw_NotSquare, ?_⟩
          refine ⟨_, rfl, X.NoLaw.C, dd, _, _, false, _, rfl, rfl, X.NoLaw.named.own, rfl, .own _, upd_same, X.n_NoLaw_TooLarge, ?_⟩
          refine ⟨_, rfl, X.NoLaw.C, dd, _, _, true, _, rfl, rfl, X.NoLaw.named.own, rfl, .own _, upd_same, X.NoLaw.kit, ?_⟩
          refine ⟨_, rfl, X.NoLaw.C, dd, _, _, false, _, rfl, rfl, X.NoLaw.named.own, rfl, .own _, upd_same, X.n_NoLaw_NoQuantity, ?_⟩
          refine ⟨by show 4 ≤ sizeLine; decide, fun l nl => ?_⟩
          have s1 := same_upd nl (o := .lst [.bl false, .bl false, .bl true, .bl false])
          refine ⟨X.NoLaw.C, X.NoLaw.xf, X.NoLaw.noAt, _, rfl, rfl, rfl, dd, _, _, rfl, s1 _ _ upd_same, rfl, by show 2 ≤ sizeLine; decide, fun p hp => ?_⟩
          have s2 := same_upd hp (o := .tup [.ref l, .int i])
          exact q _ p l (s0.trans (s1.trans s2)) upd_same (s2 _ _ upd_same)

      · refine ⟨_, rfl, _, rfl, _, rfl, x, rs, many, i, j, rfl, hg, vg, hm, hi, hj, fun z => absurd yi z, fun _ _ dd hdd => ?_, fun _ z => absurd z nj⟩
        · refine ⟨true, X.NoQuantity.exm, fun _ a0 ha0 => ?_, fun q => nomatch q⟩
          have s0 := same_upd hdd (o := .xd [("at", .int j)])
          refine ⟨_, rfl, X.NoQuantity.C, dd, _, _, false, _, rfl, rfl, X.NoQuantity.named.own, rfl, .own _, upd_same, X.n_NoQuantity_NotSquare, ?_⟩
          refine ⟨_, rfl, X.NoQuantity.C, dd, _, _, false, _, rfl, rfl, X.NoQuantity.named.own, rfl, .own _, upd_same, X.n_NoQuantity_TooLarge, ?_⟩
          refine ⟨_, rfl, X.NoQuantity.C, dd, _, _, false, _, rfl, rfl, X.NoQuantity.named.own, rfl, .own _, upd_same, X.n_NoQuantity_NoLaw, ?_⟩
          refine ⟨_, rfl, X.NoQuantity.C, dd, _, _, true, _, rfl, rfl, X.NoQuantity.named.own, rfl, .own _, upd_same, X.NoQuantity.kit, ?_⟩
          refine ⟨by show 4 ≤ sizeLine; decide, fun l nl => ?_⟩
          have s1 := same_upd nl (o := .lst [.bl false, .bl false, .bl false, .bl true])
          refine ⟨X.NoQuantity.C, X.NoQuantity.xf, X.NoQuantity.noAt, _, rfl, rfl, rfl, dd, _, _, rfl, s1 _ _ upd_same, rfl, by show 2 ≤ sizeLine; decide, fun p hp => ?_⟩
          have s2 := same_upd hp (o := .tup [.ref l, .int j])
          exact q _ p l (s0.trans (s1.trans s2)) upd_same (s2 _ _ upd_same)

end
-- Q
/-! ### what is refused, as data -/
def dR (b0 b1 b2 b3 : Bool) (n : Int) : PyData := .tuple [.list [.bool b0, .bool b1, .bool b2, .bool b3], .int n]
theorem sh_R (b0 b1 b2 b3 : Bool) (n : Int) : SeqAt.shaped (dR b0 b1 b2 b3 n) = true := rfl
theorem eq_R (b0 b1 b2 b3 : Bool) (n : Int) : PyData.eqv (dR b0 b1 b2 b3 n) (dR b0 b1 b2 b3 n) = true := SeqAt.eqv_refl _ (SeqAt.canLay_of_shaped (sh_R b0 b1 b2 b3 n))
theorem dp_R {K : PySem.W.Frag} {H : Hp} {t l : Addr} {b0 b1 b2 b3 : Bool} {n : Int} (ht : H t = some (.tup [.ref l, .int n])) (hl : H l = some (.lst [.bl b0, .bl b1, .bl b2, .bl b3])) : Dp K H (.ref t) (dR b0 b1 b2 b3 n) :=
  .tup (.inl (.inl ht)) (.cons (.lst (.of hl) (.cons (.bl b0) (.cons (.bl b1) (.cons (.bl b2) (.cons (.bl b3) .nil))))) (.cons (.int n) .nil))
theorem cut_from1V {xs : List V} (h : 1 ≤ xs.length) : cutV xs (some 1) none = xs.drop 1 := cut_tailV (m := 1) h
def T7 (K : PySem.W.Frag) : TS := fun D σ H => ∃ (a u qa r p : Addr) (m : Mdl) (many : Nat) (xs : List V) (v6 v7 v8 v9 : Option V), σ = [some (.ref a), some (.ref u), some (.ref qa), some (.ref r), some (.int (many : Nat)), some (.ref p), v6, v7, v8, v9] ∧
  H qa = some (.lst (m.qs.map V.str)) ∧ m.qs.length = many ∧ SqL K H r xs ∧ xs.length = many ∧ many ≤ 16 ∧ ∀ H', Same H H' → D.nx [some (.ref a), some (.ref u), some (.ref qa), some (.ref r), some (.int (many : Nat)), some (.ref p), v6, v7, v8, v9] H'
section
variable {P : Program} {w : World} {K : PySem.W.Frag} {mg : Str → Option Value} {base : Heap}
def sp_law_bad (K : PySem.W.Frag) : Sp := fun vs H Q _ => ∃ (a : Addr) (ds : List Int) (v : V) (m : Mdl) (many : Nat), vs = [.ref a, v] ∧ IL H a ds ∧ MDH K H v m ∧ VM many m ∧ many ≤ 16 ∧ ∀ H', Q (.bl true) H'
theorem ok_law_bad (T : Txt K mg) (X : Errs K mg) : FnOk P w K mg base CX0 8 T.law_bad.a T.law_bad.fd ["draws", "model"] (sp_law_bad K) := by
  refine T.law_bad.F.ok sc_law_bad (fun vs H Q E h => ?_) (fun cdv A outer s H vs Q E hr h => ?_)
  · obtain ⟨a, ds, v, m, many, rfl, _⟩ := h
    rfl
  · obtain ⟨a, ds, v, m, many, rfl, ha, ⟨u, qa, r, xs, rfl, hu, hq, hx, hW⟩, vm, hm, q⟩ := h
    refine ⟨_, (pss_cons (ps_asg (pv 1) (pg_tup rfl (pgs_cons (pg_name (i := 2) sc_law_bad.nd rfl (.inl rfl)) (pgs_cons (pg_name (i := 3) sc_law_bad.nd rfl (.inl rfl)) pgs_nil))))
      (pss_cons (ps_set (i := 4) sc_law_bad.nd rfl (.inl rfl) (pe_callB call_len_seq (by rfl) T.m_len (by decide +kernel) (pa_cons (pv 3) pa_nil)))
      (pss_cons (ps_set (i := 5) sc_law_bad.nd rfl (.inl rfl) (pe_op op_cat (pv 2) (pe_lc (own := [("j", 9)]) rfl sc_law_bad.nd (pi_range1 (by rfl) T.m_range (pa_cons (pe_op op_add pe_int (pe_call (ok_law_mix T) (hr.mono (by decide)) (by rfl) T.law_mix.g T.law_mix.F.kp T.law_mix.b .nil pass0 (pa_cons (pv 0) (pa_cons pe_int (pa_cons pe_int pa_nil))))) pa_nil)) (blkOk_by (N := ["draws", "model", "quantities", "laws", "many", "more", "size", "plain", "names", "j"]) (sc := defScope s_law_bad) (by decide +kernel)) (fun _ _ _ _ _ => (pg_name (i := 9) sc_law_bad.nd rfl (.inl rfl))) (fun _ _ _ _ _ => pts_nil) (fun _ _ _ _ _ => (pe_op op_add_str pe_str (pe_callTy call_str_int (by rfl) T.m_str (by decide +kernel) (pa_cons (pv 9) pa_nil)))))))
      (pss_cons (ps_if (pt_cmpR (op_neD hr.units) (pe_call (ok_law_refused T X) (hr.mono (by decide)) (by rfl) T.law_refused.g T.law_refused.F.kp T.law_refused.b .nil pass0 (pa_cons pe_int (pa_cons (pe_tup (pa_cons (pv 5) (pa_cons (pv 3) pa_nil))) (pa_cons pe_int (pa_cons pe_int pa_nil))))) (pe_tup (pa_cons (pe_lst (pa_cons pe_bl (pa_cons pe_bl (pa_cons pe_bl (pa_cons pe_bl pa_nil))))) (pa_cons (pv 4) pa_nil))) (nomark _))
        (pss_one (ps_ret pe_bl))
        pss_nil)
      (pss_cons (ps_via (t' := T7 K) (ps_if (PW.pt (pw_and (pt_cmpR op_gt (pv 4) pe_int (nomark _)) (pw_and1 (pt_cmpR (op_neD hr.units) (pe_call (ok_law_refused T X) (hr.mono (by decide)) (by rfl) T.law_refused.g T.law_refused.F.kp T.law_refused.b .nil pass0 (pa_cons pe_int (pa_cons (pe_tup (pa_cons (pv 2) (pa_cons (pe_slice sl_list (pv 3) (po_some pe_int) po_none) pa_nil))) (pa_cons pe_int (pa_cons pe_int pa_nil))))) (pe_tup (pa_cons (pe_lst (pa_cons pe_bl (pa_cons pe_bl (pa_cons pe_bl (pa_cons pe_bl pa_nil))))) (pa_cons (pe_op op_sub (pv 4) pe_int) pa_nil))) (nomark _)))))
        (pss_one (ps_ret pe_bl))
        pss_nil) ?t7)
      (pss_cons (ps_set (i := 6) sc_law_bad.nd rfl (.inl rfl) (pe_op op_add pe_int (pe_call (ok_law_mix T) (hr.mono (by decide)) (by rfl) T.law_mix.g T.law_mix.F.kp T.law_mix.b .nil pass0 (pa_cons (pv 0) (pa_cons pe_int (pa_cons pe_int pa_nil))))))
      (pss_cons (ps_setLc (i := 7) (own := [("j", 9)]) rfl sc_law_bad.nd rfl rfl (sw_true rfl rfl rfl (by decide +kernel)) (pi_range1 (by rfl) T.m_range (pa_cons (pv 6) pa_nil)) (blkOk_by (N := ["draws", "model", "quantities", "laws", "many", "more", "size", "plain", "names", "j"]) (sc := defScope s_law_bad) (by decide +kernel)) (fun _ _ _ _ _ => (pg_name (i := 9) sc_law_bad.nd rfl (.inl rfl))) (fun _ _ _ _ _ => pts_nil) (fun _ _ _ _ _ => (pe_tup (pa_cons pe_str (pa_cons (pe_lst (pa_cons (pe_tup (pa_cons pe_int (pa_cons pe_int (pa_cons (pv 9) pa_nil)))) pa_nil)) (pa_cons pe_str pa_nil))))))
      (pss_cons (ps_setLc (i := 8) (own := [("j", 9)]) rfl sc_law_bad.nd rfl rfl (sw_true rfl rfl rfl (by decide +kernel)) (pi_range1 (by rfl) T.m_range (pa_cons (pv 6) pa_nil)) (blkOk_by (N := ["draws", "model", "quantities", "laws", "many", "more", "size", "plain", "names", "j"]) (sc := defScope s_law_bad) (by decide +kernel)) (fun _ _ _ _ _ => (pg_name (i := 9) sc_law_bad.nd rfl (.inl rfl))) (fun _ _ _ _ _ => pts_nil) (fun _ _ _ _ _ => (pe_op op_add_str pe_str (pe_callTy call_str_int (by rfl) T.m_str (by decide +kernel) (pa_cons (pv 9) pa_nil)))))
      (pss_cons (ps_if (pt_cmpR (op_neD hr.units) (pe_call (ok_law_refused T X) (hr.mono (by decide)) (by rfl) T.law_refused.g T.law_refused.F.kp T.law_refused.b .nil pass0 (pa_cons pe_int (pa_cons (pe_tup (pa_cons (pv 8) (pa_cons (pv 7) pa_nil))) (pa_cons pe_int (pa_cons pe_int pa_nil))))) (pe_tup (pa_cons (pe_lst (pa_cons pe_bl (pa_cons pe_bl (pa_cons pe_bl (pa_cons pe_bl pa_nil))))) (pa_cons (pv 6) pa_nil))) (nomark _))
        (pss_one (ps_ret pe_bl))
        pss_nil)
      (pss_one (ps_ret (pe_cmpR (op_eqD hr.units) (pe_call (ok_law_refused T X) (hr.mono (by decide)) (by rfl) T.law_refused.g T.law_refused.F.kp T.law_refused.b .nil pass0 (pa_cons pe_int (pa_cons (pe_tup (pa_cons (pe_slice sl_list (pv 8) (po_some pe_int) po_none) (pa_cons (pv 7) pa_nil))) (pa_cons pe_int (pa_cons pe_int pa_nil))))) (pe_tup (pa_cons (pe_lst (pa_cons pe_bl (pa_cons pe_bl (pa_cons pe_bl (pa_cons pe_bl pa_nil))))) (pa_cons (pv 6) pa_nil))) (nomark _))))))))))))), ?_⟩
    case t7 =>
      intro D σ H h
      obtain ⟨a, u, qa, r, p, m, many, xs, v6, v7, v8, v9, rfl, hq, lq, hx, lx, hm, nx⟩ := h
      refine ⟨_, rfl, _, _, rfl, rfl, _, rfl, ?_⟩
      by_cases z : (0 : Int) < (many : Nat)
      · rw [decide_eq_true z]
        refine iteT ?_
        refine ⟨_, rfl, .ref r, rfl, _, rfl, r, _, rfl, hx, fun p2 np => ?_⟩
        rw [cut_from1V (by omega)]
        have s2 := same_upd np (o := .lst (xs.drop 1))
        refine ⟨by show 2 ≤ sizeLine; decide, fun t nt => ?_⟩
        have s3 := same_upd nt (o := .tup [.ref qa, .ref p2])
        have s23 := s2.trans s3
        refine ⟨t, 0, 0, 0, rfl, .inl ⟨rfl, qa, p2, _, xs.drop 1, .inl (.inl upd_same), .of (s23 _ _ hq), .of (s3 _ _ upd_same), by rw [List.length_drop]; omega, by rw [List.length_map]; omega, .inl ⟨by rw [List.length_map, List.length_drop]; omega, fun G3 t3 l3 s4 ht3 hl3 => ?_⟩⟩⟩
        have e1 : (((xs.drop 1).length : Nat) : Int) = (many : Nat) - 1 := by rw [List.length_drop]; omega
        rw [e1] at ht3
        refine ⟨by show 4 ≤ sizeLine; decide, fun l4 n4 => ⟨_, rfl, _, _, rfl, rfl, by show 2 ≤ sizeLine; decide, fun t4 nt4 => ?_⟩⟩
        have s5 := same_upd n4 (o := .lst [.bl true, .bl false, .bl false, .bl false])
        have s6 := same_upd nt4 (o := .tup [.ref l4, .int ((many : Nat) - 1)])
        have s56 := s5.trans s6
        refine ⟨dR true false false false ((many : Nat) - 1), dR true false false false ((many : Nat) - 1), dp_R (s56 _ _ ht3) (s56 _ _ hl3), dp_R upd_same (s6 _ _ upd_same), sh_R .., sh_R .., _, rfl, ?_⟩
        rw [eq_R]
        exact iteF (nx _ (s23.trans (s4.trans s56)))
      · rw [decide_eq_false z]
        exact iteF (nx _ (Same.refl _))
    have lx : xs.length = many := hW.len.trans vm.ls
    have lq : m.qs.length = many := vm.qs.1
    refine ⟨.ref u, rfl, u, _, rfl, hu, rfl, _, _, rfl, _, _, rfl, rfl, ?_⟩
    refine ⟨.ref r, rfl, r, _, rfl, .inl hx, ?_⟩
    rw [lx]
    refine ⟨.ref qa, rfl, .ref a, rfl, a, ds, _, _, rfl, ha, by decide, by decide, fun r1 p1 u1 => ?_⟩
    refine ⟨_, _, rfl, rfl, 1 + r1, rfl, by omega, by omega, fun D nD => ?_⟩
    refine lc_inv (walk_range (lo := 0) (n := (1 + r1).toNat)) (fun i G ys => ys.length = i) nD (fun _ _ => trivial) (small' (by omega)) rfl (fun i x G Hx ys hi sm hD hR y Qt Qf qt qf => ?_) (fun G ys s1 hD hR => ?_)
    · obtain ⟨rfl, rfl⟩ := y
      have gc : GS 9 (toString (0 + (i : Int)) : Str) := GS.int (by omega)
      exact ⟨rfl, _, rfl, _, rfl, log_small (by omega), _, _, rfl, rfl, small (by have := gc.1; show 1 + _ ≤ _; omega), qt _ _ (Same.refl _) (by rw [List.length_append, hR]; rfl)⟩
    refine ⟨qa, D, _, _, rfl, rfl, s1 _ _ hq, hD, by rw [List.length_map]; exact small (by omega), fun p np => ?_⟩
    have s2 := s1.trans (same_upd np (o := .lst (m.qs.map V.str ++ ys)))
    have hp2 := upd_same (H := G) (a := p) (o := .lst (m.qs.map V.str ++ ys))
    generalize upd G p (.lst (m.qs.map V.str ++ ys)) = G2 at s2 hp2
    refine ⟨_, rfl, _, rfl, by show 2 ≤ sizeLine; decide, fun t nt => ?_⟩
    have s3 := same_upd nt (o := .tup [.ref p, .ref r])
    have s23 := s2.trans s3
    refine ⟨t, 0, 0, 0, rfl, .inl ⟨rfl, p, r, _, xs, .inl (.inl upd_same), .of (s3 _ _ hp2), s23.seq hx, by omega, by rw [List.length_append, List.length_map]; omega, .inl ⟨by rw [List.length_append, List.length_map]; omega, fun G3 t3 l3 s4 ht3 hl3 => ?_⟩⟩⟩
    rw [lx] at ht3
    refine ⟨by show 4 ≤ sizeLine; decide, fun l4 n4 => ⟨_, rfl, by show 2 ≤ sizeLine; decide, fun t4 nt4 => ?_⟩⟩
    have s5 := same_upd n4 (o := .lst [.bl true, .bl false, .bl false, .bl false])
    have s6 := same_upd nt4 (o := .tup [.ref l4, .int (many : Nat)])
    have s56 := s5.trans s6
    refine ⟨dR true false false false many, dR true false false false many, dp_R (s56 _ _ ht3) (s56 _ _ hl3), dp_R upd_same (s6 _ _ upd_same), sh_R .., sh_R .., _, rfl, ?_⟩
    rw [eq_R]
    refine iteF ?_
    have k6 := s23.trans (s4.trans s56)
    generalize upd (upd G3 l4 (.lst [.bl true, .bl false, .bl false, .bl false])) t4 (.tup [.ref l4, .int (many : Nat)]) = G6 at k6
    refine ⟨a, u, qa, r, p, m, many, xs, _, _, _, _, rfl, k6 _ _ hq, lq, k6.seq hx, lx, hm, fun G7 s7 => ?_⟩
    have k7 := k6.trans s7
    have ha7 := ha.same k7
    refine ⟨.ref a, rfl, a, ds, _, _, rfl, ha7, by decide, by decide, fun r2 p2 u2 => ?_⟩
    obtain ⟨n, en, hn⟩ : ∃ n : Nat, r2 = (n : Int) ∧ n < 14 := ⟨r2.toNat, by omega, by omega⟩
    subst en
    refine ⟨_, _, rfl, rfl, ?_⟩
    have e17 : (17 : Int) + (n : Nat) = ((17 + n : Nat) : Int) := by omega
    refine ⟨_, rfl, ((17 + n : Nat) : Int), congrArg (fun z => [V.int z]) e17, by omega, by omega, fun D1 nD1 => ?_⟩
    rw [Int.toNat_natCast]
    refine lc_inv (walk_range (lo := 0) (n := 17 + n)) (fun i G ys => ys.length = i) nD1 (fun _ _ => trivial) (small' (by omega)) rfl (fun i x G Hx ys hi sm hD hR y Qt Qf qt qf => ?_) (fun G8 ps s8 hD1 hR1 => ?_)
    · obtain ⟨rfl, rfl⟩ := y
      refine ⟨rfl, _, rfl, by show 3 ≤ sizeLine; decide, fun t1 n1 => ⟨by show 1 ≤ sizeLine; decide, fun l1 n2 => ⟨by show 3 ≤ sizeLine; decide, fun t2 n3 => ?_⟩⟩⟩
      exact qt _ _ ((same_upd n1).trans ((same_upd n2).trans (same_upd n3))) (by rw [List.length_append, hR]; rfl)
    refine ⟨_, rfl, ((17 + n : Nat) : Int), congrArg (fun z => [V.int z]) e17, by omega, by omega, fun D2 nD2 => ?_⟩
    rw [Int.toNat_natCast]
    refine lc_inv (walk_range (lo := 0) (n := 17 + n)) (fun i G ys => ys.length = i) nD2 (fun _ _ => trivial) (small' (by omega)) rfl (fun i x G Hx ys hi sm hD hR y Qt Qf qt qf => ?_) (fun G9 qs s9 hD2 hR2 => ?_)
    · obtain ⟨rfl, rfl⟩ := y
      have gc : GS 9 (toString (0 + (i : Int)) : Str) := GS.int (by omega)
      exact ⟨rfl, _, rfl, _, rfl, log_small (by omega), _, _, rfl, rfl, small (by have := gc.1; show 1 + _ ≤ _; omega), qt _ _ (Same.refl _) (by rw [List.length_append, hR]; rfl)⟩
    have hD19 := s9 _ _ hD1
    refine ⟨_, rfl, _, rfl, by show 2 ≤ sizeLine; decide, fun t nt => ?_⟩
    have s10 := same_upd nt (o := .tup [.ref D2, .ref D1])
    refine ⟨t, 0, 0, 0, rfl, .inl ⟨rfl, D2, D1, qs, ps, .inl (.inl upd_same), .of (s10 _ _ hD2), .of (s10 _ _ hD19), by omega, by omega, .inr ⟨by omega, by omega, fun G3 t3 l3 s4 ht3 hl3 => ?_⟩⟩⟩
    rw [hR1, ← e17] at ht3
    refine ⟨by show 4 ≤ sizeLine; decide, fun l4 n4 => ⟨_, rfl, by show 2 ≤ sizeLine; decide, fun t4 nt4 => ?_⟩⟩
    have s5 := same_upd n4 (o := .lst [.bl false, .bl true, .bl false, .bl false])
    have s6 := same_upd nt4 (o := .tup [.ref l4, .int (17 + (n : Nat))])
    have s56 := s5.trans s6
    refine ⟨dR false true false false (17 + (n : Nat)), dR false true false false (17 + (n : Nat)), dp_R (s56 _ _ ht3) (s56 _ _ hl3), dp_R upd_same (s6 _ _ upd_same), sh_R .., sh_R .., _, rfl, ?_⟩
    rw [eq_R]
    refine iteF ?_
    have k10 := s10.trans (s4.trans s56)
    have hD2b := k10 _ _ hD2
    have hD1b := k10 _ _ hD19
    generalize upd (upd G3 l4 (.lst [.bl false, .bl true, .bl false, .bl false])) t4 (.tup [.ref l4, .int (17 + (n : Nat))]) = G11 at hD2b hD1b
    refine ⟨.ref D2, rfl, _, rfl, D2, _, rfl, .of hD2b, fun p5 np5 => ?_⟩
    rw [cut_from1V (by omega)]
    have z1 := same_upd np5 (o := .lst (qs.drop 1))
    refine ⟨_, rfl, by show 2 ≤ sizeLine; decide, fun t5 nt5 => ?_⟩
    have z2 := same_upd nt5 (o := .tup [.ref p5, .ref D1])
    refine ⟨t5, 0, 0, 0, rfl, .inl ⟨rfl, p5, D1, qs.drop 1, ps, .inl (.inl upd_same), .of (z2 _ _ upd_same), .of (z2 _ _ (z1 _ _ hD1b)), by omega, by rw [List.length_drop]; omega, .inl ⟨by rw [List.length_drop]; omega, fun G4 t6 l6 s4b ht6 hl6 => ?_⟩⟩⟩
    rw [hR1, ← e17] at ht6
    refine ⟨by show 4 ≤ sizeLine; decide, fun l7 n7 => ⟨_, rfl, by show 2 ≤ sizeLine; decide, fun t7 nt7 => ?_⟩⟩
    have s7b := same_upd n7 (o := .lst [.bl true, .bl false, .bl false, .bl false])
    have s8b := same_upd nt7 (o := .tup [.ref l7, .int (17 + (n : Nat))])
    have s78 := s7b.trans s8b
    refine ⟨dR true false false false (17 + (n : Nat)), dR true false false false (17 + (n : Nat)), dp_R (s78 _ _ ht6) (s78 _ _ hl6), dp_R upd_same (s8b _ _ upd_same), sh_R .., sh_R .., ?_⟩
    rw [eq_R]
    exact q _
end
-- C
/-- a row of which the lists may be older -/
def DRo (D : Addr) (H : Hp) (v : V) (r : Rw) : Prop := ∃ (t b : Addr) (as : List Addr), v = .ref t ∧ t ≠ D ∧ b ≠ D ∧ H t = some (.tup [.str (kS r.1), .ref b]) ∧ H b = some (.lst (as.map V.ref)) ∧ A2 (fun e ns => e ≠ D ∧ IL H e ns) as r.2
theorem DRo.up {D : Addr} (H H' : Hp) (v : V) (r : Rw) (s : SameX D H H') (h : DRo D H v r) : DRo D H' v r := let ⟨t, b, as, e, nt, nb, ht, hb, hr⟩ := h; ⟨t, b, as, e, nt, nb, s _ _ nt ht, s _ _ nb hb, hr.mono fun _ _ z => ⟨z.1, s _ _ z.1 z.2⟩⟩
theorem DRo.row {K : PySem.W.Frag} {D : Addr} {H : Hp} {v : V} {r : Rw} (h : DRo D H v r) : RwV K H v r := let ⟨t, b, as, e, nt, nb, ht, hb, hr⟩ := h; ⟨t, b, e, .inl (.inl ht), as, hb, hr.mono fun _ _ z => z.2⟩
theorem RF.row {K : PySem.W.Frag} {H0 H : Hp} {v : V} {r : Rw} (h : RF H0 H v r) : RwV K H v r := let ⟨t, b, e, nt, nb, ht, as, hb, hA⟩ := h; ⟨t, b, e, .inl (.inl ht), as, hb, hA.mono fun _ _ z => z.2⟩
theorem range_all {α β : Type} (f : α → β) (d : α) : ∀ rs : List α, (List.range rs.length).map (fun a => f (rs.getD a d)) = rs.map f
  | [] => rfl
  | r :: rs => by
    rw [List.length_cons, List.range_succ_eq_map, List.map_cons, List.map_map, List.map_cons, ← range_all f d rs]; rfl
theorem range_cut {α β : Type} (f : α → β) (d : α) : ∀ (rs : List α) (i : Nat), (List.range rs.length).filterMap (fun a => if a = i then none else some (f (rs.getD a d))) = (cutL i rs).map f
  | [], i => by unfold cutL; rw [List.take_nil, List.drop_nil]; rfl
  | r :: rs, 0 => by
    rw [List.length_cons, List.range_succ_eq_map, List.filterMap_cons, List.filterMap_map]
    show List.filterMap _ _ = _
    unfold cutL
    rw [List.take_zero, List.nil_append, List.drop_succ_cons, List.drop_zero, ← range_all f d rs]
    exact fm_some (fun a => f (rs.getD a d)) (List.range rs.length)
  | r :: rs, k + 1 => by
    rw [List.length_cons, List.range_succ_eq_map, List.filterMap_cons, List.filterMap_map]
    have ih := range_cut f d rs k
    unfold cutL at ih ⊢
    rw [List.take_succ_cons, List.drop_succ_cons, List.cons_append, List.map_cons, ← ih]
    rw [show (if (0 : Nat) = k + 1 then none else some (f ((r :: rs).getD 0 d))) = some (f r) from if_neg (by omega)]
    show f r :: _ = f r :: _
    congr 1
    refine congrArg (fun g => List.filterMap g (List.range rs.length)) (funext fun a => ?_)
    show (if a + 1 = k + 1 then none else some (f ((r :: rs).getD (a + 1) d))) = _
    by_cases z : a = k
    · rw [if_pos z, if_pos (by omega)]
    · rw [if_neg z, if_neg (by omega)]; rfl
theorem eqv_gr (rs : List Rw) : PyData.eqv (dGr rs) (.list []) = decide (rs = []) := eqv_nilG _ _
theorem eqv_els (els : List (List Int)) : PyData.eqv (dEls els) (.list []) = decide (els = []) := eqv_nilG _ _
theorem shaped_dEls (els : List (List Int)) : SeqAt.shaped (dEls els) = true := by
  unfold SeqAt.shaped
  rw [lay_els, decide_eq_true (Nat.le_trans (dep_els els) (by decide) : (dEls els).depth ≤ 64)]; rfl
section
variable {P : Program} {w : World} {K : PySem.W.Frag} {mg : Str → Option Value} {base : Heap}
def sp_law_left (K : PySem.W.Frag) : Sp := fun vs H Q _ => ∃ (a rw g : Addr) (ds : List Int) (rs : List Rw) (many : Nat), vs = [.ref a, .ref rw, .ref g] ∧ IL H a ds ∧ GR K H rw rs ∧ GR K H g rs ∧ VG many rs ∧ many ≤ 16 ∧ ∀ H', Same H H' → Q (.bl true) H'
theorem ok_law_left (T : Txt K mg) (X : Errs K mg) : FnOk P w K mg base CX0 8 T.law_left.a T.law_left.fd ["draws", "rows", "told"] (sp_law_left K) := by
  refine T.law_left.F.ok sc_law_left (fun vs H Q E h => ?_) (fun cdv A outer s H vs Q E hr h => ?_)
  · obtain ⟨a, rw, g, ds, rs, many, rfl, _⟩ := h
    rfl
  · obtain ⟨a, rw', g, ds, rs, many, rfl, ha, hrw, hg, vg, hm, q⟩ := h
    refine ⟨_, (pss_cons (ps_set (i := 3) sc_law_left.nd rfl (.inl rfl) (pe_callB call_len_seq (by rfl) T.m_len (by decide +kernel) (pa_cons (pv 1) pa_nil)))
      (pss_cons (ps_for PassesOwn.never rfl (pi_range1 (by rfl) T.m_range (pa_cons pe_int pa_nil)) (pg_name (i := 4) sc_law_left.nd rfl (.inl rfl))
        (pss_cons (ps_set (i := 5) sc_law_left.nd rfl (.inr rfl) (pe_op op_sub (pe_call (ok_law_mix T) (hr.mono (by decide)) (by rfl) T.law_mix.g T.law_mix.F.kp T.law_mix.b .nil pass0 (pa_cons (pv 0) (pa_cons (pe_op op_add pe_int (pe_op op_mul pe_int (pv 4))) (pa_cons (pe_op op_add (pv 3) pe_int) pa_nil)))) pe_int))
        (pss_cons (ps_set (i := 6) sc_law_left.nd rfl (.inr rfl) (pe_op op_sub (pe_call (ok_law_mix T) (hr.mono (by decide)) (by rfl) T.law_mix.g T.law_mix.F.kp T.law_mix.b .nil pass0 (pa_cons (pv 0) (pa_cons (pe_op op_add pe_int (pe_op op_mul pe_int (pv 4))) (pa_cons (pe_op op_add (pv 3) pe_int) pa_nil)))) pe_int))
        (pss_one (ps_if (pt_not (pt_chain op_le op_lt pe_int (pv 5) (pv 3)))
          (pss_one (ps_if (pt_cmpR (op_neD hr.units) (pe_call (ok_law_refused T X) (hr.mono (by decide)) (by rfl) T.law_refused.g T.law_refused.F.kp T.law_refused.b .nil pass0 (pa_cons pe_int (pa_cons (pv 2) (pa_cons (pv 5) (pa_cons (pv 6) pa_nil))))) (pe_tup (pa_cons (pe_lst (pa_cons pe_bl (pa_cons pe_bl (pa_cons pe_bl (pa_cons pe_bl pa_nil))))) (pa_cons (pv 5) pa_nil))) (nomark _))
            (pss_one (ps_ret pe_bl))
            pss_nil))
          (pss_one (ps_if (pt_not (pt_chain op_le op_lt pe_int (pv 6) (pv 3)))
            (pss_one (ps_if (pt_cmpR (op_neD hr.units) (pe_call (ok_law_refused T X) (hr.mono (by decide)) (by rfl) T.law_refused.g T.law_refused.F.kp T.law_refused.b .nil pass0 (pa_cons pe_int (pa_cons (pv 2) (pa_cons (pv 5) (pa_cons (pv 6) pa_nil))))) (pe_tup (pa_cons (pe_lst (pa_cons pe_bl (pa_cons pe_bl (pa_cons pe_bl (pa_cons pe_bl pa_nil))))) (pa_cons (pv 6) pa_nil))) (nomark _))
              (pss_one (ps_ret pe_bl))
              pss_nil))
            (pss_cons (ps_setLc (i := 7) (own := [("a", 9)]) rfl sc_law_left.nd rfl rfl (sw_true rfl rfl rfl (by decide +kernel)) (pi_range1 (by rfl) T.m_range (pa_cons (pv 3) pa_nil)) (blkOk_by (N := ["draws", "rows", "told", "many", "turn", "i", "j", "due", "left", "a"]) (sc := defScope s_law_left) (by decide +kernel)) (fun _ _ _ _ _ => (pg_name (i := 9) sc_law_left.nd rfl (.inl rfl))) (fun _ _ _ _ _ => (pts_one (pt_cmpR op_ne (pv 9) (pv 5) (nomark _)))) (fun _ _ _ _ _ => (pe_tup (pa_cons (pe_ix (r := rIxT K) ix_tup (pe_ix (r := rIxL K) ix_list (pv 1) (pv 9) (fun _ _ => rfl)) pe_int (fun _ _ => rfl)) (pa_cons (pe_op op_cat (pe_slice (r := rSlL K) sl_list (pe_ix (r := rIxT K) ix_tup (pe_ix (r := rIxL K) ix_list (pv 1) (pv 9) (fun _ _ => rfl)) pe_int (fun _ _ => rfl)) po_none (po_some (pv 6))) (pe_slice (r := rSlL K) sl_list (pe_ix (r := rIxT K) ix_tup (pe_ix (r := rIxL K) ix_list (pv 1) (pv 9) (fun _ _ => rfl)) pe_int (fun _ _ => rfl)) (po_some (pe_op op_add (pv 6) pe_int)) po_none)) pa_nil)))))
            (pss_cons (ps_set (i := 8) sc_law_left.nd rfl (.inl rfl) (pe_call (ok_without T X) (hr.mono (by decide)) (by rfl) T.without.g T.without.F.kp T.without.b .nil (passes_call takes0 fun _ _ _ _ h => h) (pa_cons (pv 2) (pa_cons (pv 5) (pa_cons (pv 6) pa_nil)))))
            (pss_cons (ps_if (PW.pt (pw_or (pt_cmpR (op_neD hr.units) (pv 8) (pv 7) (nomark _)) (pw_or1 (pt_cmpR (op_neD hr.units) (pv 2) (pv 1) (nomark _)))))
              (pss_one (ps_ret pe_bl))
              pss_nil)
            (pss_one (ps_if (PW.pt (pw_and (pt_cmpR (op_neD hr.units) (pv 8) (pe_lst pa_nil) (nomark _)) (pw_and1 (pt_cmpR (op_neD hr.units) (pe_ix ix_tup (pe_ix ix_list (pv 8) pe_int (fun _ _ => rfl)) pe_int (fun _ _ => rfl)) (pe_lst pa_nil) (nomark _)))))
              (pss_cons (ps_expr (pe_bm PySem.F.plainAttrs_list PySem.F.slot_list_append PySem.F.type_list_append mt_append (pe_ix ix_list (pe_ix ix_tup (pe_ix ix_list (pv 8) pe_int (fun _ _ => rfl)) pe_int (fun _ _ => rfl)) pe_int (fun _ _ => rfl)) (pa_cons pe_int pa_nil)))
              (pss_one (ps_if (PW.pt (pw_or (pt_cmpR (op_neD hr.units) (pv 2) (pv 1) (nomark _)) (pw_or1 (pt_cmpR (op_neD hr.units) (pe_call (ok_without T X) (hr.mono (by decide)) (by rfl) T.without.g T.without.F.kp T.without.b .nil (passes_call takes0 fun _ _ _ _ h => h) (pa_cons (pv 2) (pa_cons (pv 5) (pa_cons (pv 6) pa_nil)))) (pv 7) (nomark _)))))
                (pss_one (ps_ret pe_bl))
                pss_nil)))
              pss_nil))))))))))))
      (pss_one (ps_ret pe_bl)))), ?_⟩
    obtain ⟨xs, hx, hA⟩ := hrw
    have hrw : GR K H rw' rs := ⟨xs, hx, hA⟩
    have lx := hA.len
    have lr := vg.1
    have shG := shaped_dGr rs
    have eqG := SeqAt.eqv_refl _ (SeqAt.canLay_of_shaped shG)
    refine ⟨.ref rw', rfl, rw', _, rfl, .inl (.of hx), ?_⟩
    rw [lx, lr]
    refine ⟨3, rfl, by decide, by decide, ?_⟩
    refine for_range (n := 3) (lo := 0) (fun i σ G => Same H G ∧ ∃ (v4 v5 v6 v7 v8 v9 : Option V), σ = [some (.ref a), some (.ref rw'), some (.ref g), some (.int (many : Nat)), v4, v5, v6, v7, v8, v9]) ⟨Same.refl _, _, _, _, _, _, _, rfl⟩ (fun t σ G ht hP => ?_) (fun σ G hP => ?_)
    · obtain ⟨sm, v4, v5, v6, v7, v8, v9, rfl⟩ := hP
      have hrwG := hrw.lk (K46.lk sm)
      have hgG := hg.lk (K46.lk sm)
      refine ⟨.ref a, rfl, _, rfl, _, _, rfl, rfl, .inl ⟨by decide, by decide⟩, _, _, rfl, rfl, _, rfl, _, _, rfl, rfl, a, ds, _, _, rfl, ha.same sm, by omega, by omega, fun i0 i1 i2 => ?_⟩
      refine ⟨_, _, rfl, rfl, ?_⟩
      refine ⟨.ref a, rfl, _, rfl, _, _, rfl, rfl, .inl ⟨by decide, by decide⟩, _, _, rfl, rfl, _, rfl, _, _, rfl, rfl, a, ds, _, _, rfl, ha.same sm, by omega, by omega, fun j0 j1 j2 => ?_⟩
      refine ⟨_, _, rfl, rfl, ?_⟩
      refine ⟨_, rfl, _, _, rfl, rfl, _, rfl, ?_⟩
      by_cases c0 : 0 ≤ i0 - 1
      · rw [decide_eq_true c0]
        refine iteT ⟨_, rfl, _, _, rfl, rfl, _, rfl, ?_⟩
        by_cases c1 : i0 - 1 < (many : Nat)
        · rw [decide_eq_true c1]
          refine iteF ?_
          refine ⟨_, rfl, _, _, rfl, rfl, _, rfl, ?_⟩
          by_cases d0 : 0 ≤ j0 - 1
          · rw [decide_eq_true d0]
            refine iteT ⟨_, rfl, _, _, rfl, rfl, _, rfl, ?_⟩
            by_cases d1 : j0 - 1 < (many : Nat)
            · rw [decide_eq_true d1]
              refine iteF ?_
              obtain ⟨m, em⟩ : ∃ m : Nat, i0 - 1 = (m : Int) := ⟨(i0 - 1).toNat, by omega⟩
              obtain ⟨k, ek⟩ : ∃ k : Nat, j0 - 1 = (k : Int) := ⟨(j0 - 1).toNat, by omega⟩
              have kk : j0 - 1 + 1 = ((k + 1 : Nat) : Int) := by omega
              have hxG := sm _ _ hx
              refine ⟨_, rfl, (many : Nat), rfl, by omega, by omega, fun D nD => ?_⟩
              rw [Int.toNat_natCast]
              refine lc_fm (walk_range (lo := 0) (n := many)) (List.range many) (fun a => if a = m then none else some (woR k (rs.getD a (false, [])))) (DRo D) DRo.up List.length_range nD (fun _ _ => trivial) (small' (by omega)) (fun i2 x G8 Hx ys o2 ho sm2 hD y Qt Qf qt qf => ?_) (fun G1 ys s1 hD hR => ?_)
              · obtain ⟨rfl, rfl⟩ := y
                have hlt : i2 < many := by have := (List.getElem?_eq_some_iff.mp ho).1; rw [List.length_range] at this; exact this
                obtain rfl : o2 = i2 := by rw [List.getElem?_range hlt] at ho; exact (Option.some.inj ho).symm
                refine ⟨rfl, _, rfl, _, rfl, rfl, _, rfl, ?_⟩
                by_cases z : o2 = m
                · rw [show decide (V.int (0 + (o2 : Int)) = V.int (i0 - 1)) = true from decide_eq_true (by rw [z, em, Int.zero_add])]
                  exact iteF (qf (by rw [if_pos z]) _ (Same.refl _))
                · rw [show decide (V.int (0 + (o2 : Int)) = V.int (i0 - 1)) = false from decide_eq_false fun y => z (by have := V.int.inj y; omega)]
                  refine iteT ?_
                  obtain ⟨r, hr2⟩ := some_at (xs := rs) (i := o2) (by omega)
                  obtain ⟨v, hv, hV⟩ := hA.get' hr2
                  have s02 := sm.trans sm2
                  obtain ⟨tt, b, rfl, hts0, as, hb0, hE0⟩ := hV
                  have hts := Same.seqT s02 hts0
                  have hb := s02 _ _ hb0
                  have hE : A2 (IL Hx) as r.2 := hE0.mono fun _ _ z => z.same s02
                  have lrow := (vg.2 r (mem_at hr2)).1
                  have las := hE.len
                  have hx2 := s02 _ _ hx
                  have hat : atI xs (0 + (o2 : Int)) = some (.ref tt) := by rw [Int.zero_add]; exact atI_nat hv
                  refine ⟨.ref rw', rfl, _, rfl, rw', _, _, _, rfl, rfl, .of hx2, hat, tt, _, _, _, rfl, rfl, hts, rfl, ?_⟩
                  refine ⟨.ref rw', rfl, _, rfl, rw', _, _, _, rfl, rfl, .of hx2, hat, tt, _, _, _, rfl, rfl, hts, rfl, _, rfl, ((k : Nat) : Int), congrArg V.int ek, b, _, rfl, .of hb, fun c1 n1 => ?_⟩
                  rw [cut_headV (by rw [List.length_map]; omega)]
                  have u1 := same_upd n1 (o := .lst ((as.map V.ref).take k))
                  refine ⟨.ref rw', rfl, _, rfl, rw', _, _, _, rfl, rfl, .of (u1 _ _ hx2), hat, tt, _, _, _, rfl, rfl, Same.seqT u1 hts, rfl, _, rfl, _, _, rfl, rfl, ((k + 1 : Nat) : Int), congrArg V.int kk, b, _, rfl, .of (u1 _ _ hb), fun c2 n2 => ?_⟩
                  rw [cut_tailV (by rw [List.length_map]; omega)]
                  have u2 := same_upd n2 (o := .lst ((as.map V.ref).drop (k + 1)))
                  refine ⟨c1, c2, _, _, rfl, rfl, u2 _ _ upd_same, upd_same, by rw [List.length_take, List.length_drop, List.length_map]; exact small (by omega), fun c3 n3 => ?_⟩
                  have u3 := same_upd n3 (o := .lst ((as.map V.ref).take k ++ (as.map V.ref).drop (k + 1)))
                  refine ⟨by show 2 ≤ sizeLine; decide, fun tn nt => ?_⟩
                  have u4 := same_upd nt (o := .tup [.str (kS r.1), .ref c3])
                  have u123 := u1.trans (u2.trans u3)
                  have off : ∀ {c : Addr} {o : HO}, H c = some o → c ≠ D := fun {c o} h y => by
                    have := sm _ _ h
                    rw [y, nD] at this
                    cases this
                  have er : rs.getD o2 (false, []) = r := by rw [List.getD_eq_getElem?_getD, hr2]; rfl
                  refine qt _ _ (woR k r) (by rw [if_neg z, er]) (u123.trans u4) ⟨tn, c3, as.take k ++ as.drop (k + 1), rfl, (fun y => ?_), (fun y => ?_), upd_same, ?_, ?_⟩
                  · have := u123 _ _ hD
                    rw [← y, nt] at this
                    cases this
                  · have := (u1.trans u2) _ _ hD
                    rw [← y, n3] at this
                    cases this
                  · rw [u4 _ _ upd_same, List.map_append, List.map_take, List.map_drop]
                  · have hE2 : A2 (fun e ns => e ≠ D ∧ IL (upd (upd (upd (upd Hx c1 (.lst ((as.map V.ref).take k))) c2 (.lst ((as.map V.ref).drop (k + 1)))) c3 (.lst ((as.map V.ref).take k ++ (as.map V.ref).drop (k + 1)))) tn (.tup [.str (kS r.1), .ref c3])) e ns) as r.2 := hE0.mono fun _ _ z => ⟨off z, (z.same s02).same (u123.trans u4)⟩
                    exact A2.app (A2.take k hE2) (A2.drop (k + 1) hE2)
              · have hdue : GR K G1 D (wo rs m k) := by
                  refine ⟨ys, hD, ?_⟩
                  have e1 : (List.range many).filterMap (fun a => if a = m then none else some (woR k (rs.getD a (false, [])))) = wo rs m k := by
                    rw [← lr]
                    exact range_cut (woR k) (false, []) rs m
                  rw [e1] at hR
                  exact hR.mono fun _ _ z => z.row
                have s01 := sm.trans s1
                have hg1 := hg.lk (K46.lk s01)
                have hrw1 := hrw.lk (K46.lk s01)
                have shW := shaped_dGr (wo rs m k)
                have eqW := SeqAt.eqv_refl _ (SeqAt.canLay_of_shaped shW)
                have em2 : (i0 - 1).toNat = m := by omega
                have ek2 : (j0 - 1).toNat = k := by omega
                have ri : 0 ≤ i0 - 1 ∧ i0 - 1 < (many : Nat) := ⟨c0, c1⟩
                have rj : 0 ≤ j0 - 1 ∧ j0 - 1 < (many : Nat) := ⟨d0, d1⟩
                refine ⟨_, rfl, _, rfl, _, rfl, g, rs, many, i0 - 1, j0 - 1, rfl, hg1, vg, hm, by omega, by omega, fun z => absurd ri z, fun _ z => absurd rj z, fun _ _ G2 p zs s2 np hp hZ => ?_⟩
                rw [em2, ek2] at hZ
                refine ⟨.ref p, rfl, .ref D, rfl, dGr (wo rs m k), dGr (wo rs m k), dp_gr ⟨zs, hp, hZ.mono fun _ _ z => z.row⟩, dp_gr (hdue.lk (K46.lk s2)), shW, shW, _, rfl, ?_⟩
                rw [eqW]
                refine iteF ?_
                have s02 := s01.trans s2
                refine ⟨.ref g, rfl, .ref rw', rfl, dGr rs, dGr rs, dp_gr (hg1.lk (K46.lk s2)), dp_gr (hrw1.lk (K46.lk s2)), shG, shG, _, rfl, ?_⟩
                rw [eqG]
                refine iteF ?_
                refine ⟨.ref p, rfl, by show 0 ≤ sizeLine; decide, fun l0 n0 => ?_⟩
                have s3 := same_upd n0 (o := .lst [])
                refine ⟨dGr (wo rs m k), .list [], dp_gr ⟨zs, s3 _ _ hp, hZ.mono fun _ _ z => z.row.lk (K46.lk s3)⟩, .lst (.of upd_same) .nil, shW, rfl, _, rfl, ?_⟩
                rw [eqv_gr]
                cases hL : wo rs m k with
                | nil => exact iteF ⟨s02.trans s3, _, _, _, _, _, _, rfl⟩
                | cons r0 L =>
                  rw [hL] at hZ
                  cases zs with
                  | nil => cases hZ
                  | cons z0 zs =>
                    refine iteT ?_
                    cases hZ with
                    | cons h0 hZt =>
                      obtain ⟨t0, b0, rfl, nt0, nb0, ht0, as, hb0, hE⟩ := h0
                      have hp3 := s3 _ _ hp
                      have ht3 := s3 _ _ ht0
                      have hb3 := s3 _ _ hb0
                      refine ⟨.ref p, rfl, p, _, _, _, rfl, rfl, .of hp3, atI_nat (j := 0) rfl, t0, _, _, _, rfl, rfl, .inl (.inl ht3), rfl, by show 0 ≤ sizeLine; decide, fun l1 n1 => ?_⟩
                      have s4 := same_upd n1 (o := .lst [])
                      have s34 := s3.trans s4
                      refine ⟨dEls r0.2, .list [], dp_rowL ⟨as, s4 _ _ hb3, hE.mono fun _ _ z => (z.2.same s3).same s4⟩, .lst (.of upd_same) .nil, shaped_dEls _, rfl, _, rfl, ?_⟩
                      rw [eqv_els]
                      by_cases hn : r0.2 = []
                      · rw [decide_eq_true hn]
                        exact iteF ⟨s02.trans s34, _, _, _, _, _, _, rfl⟩
                      · rw [decide_eq_false hn]
                        cases as with
                        | nil => exact absurd (List.length_eq_zero_iff.mp hE.len.symm) hn
                        | cons a0 as =>
                          obtain ⟨e0, he0, na0, hI0⟩ := hE.get (i := 0) (a := a0) rfl
                          have hI4 := (hI0.same s3).same s4
                          have hp4 := s4 _ _ hp3
                          have ht4 := s4 _ _ ht3
                          have hb4 := s4 _ _ hb3
                          have le0 : e0.length ≤ 13 := by
                            have m1 : r0 ∈ wo rs m k := by rw [hL]; exact List.mem_cons_self
                            obtain ⟨r1, hr1, rfl⟩ := List.mem_map.mp m1
                            have m2 : r1 ∈ rs := by
                              rcases List.mem_append.mp hr1 with z | z
                              · exact List.mem_of_mem_take z
                              · exact List.mem_of_mem_drop z
                            have m3 : e0 ∈ r1.2 := by
                              rcases List.mem_append.mp (mem_at he0) with z | z
                              · exact List.mem_of_mem_take z
                              · exact List.mem_of_mem_drop z
                            exact ((vg.2 r1 m2).2 e0 m3).1
                          refine iteT ⟨.ref p, rfl, p, _, _, _, rfl, rfl, .of hp4, atI_nat (j := 0) rfl, t0, _, _, _, rfl, rfl, .inl (.inl ht4), rfl, b0, _, _, _, rfl, rfl, .of hb4, atI_nat (j := 0) rfl, .inl ⟨rfl, _, hI4.sq⟩, a0, _, _, rfl, rfl, hI4, small' (by rw [List.length_map]; omega), ?_⟩
                          have s15 : Same G1 (upd (upd (upd G2 l0 (.lst [])) l1 (.lst [])) a0 (.lst (e0.map V.int ++ [V.int 9]))) := same_over (s2.trans s34) na0
                          have s05 := s01.trans s15
                          refine ⟨.ref g, rfl, .ref rw', rfl, dGr rs, dGr rs, dp_gr (hg1.lk (K46.lk s15)), dp_gr (hrw1.lk (K46.lk s15)), shG, shG, _, rfl, ?_⟩
                          rw [eqG]
                          refine iteF ?_
                          refine ⟨_, rfl, _, rfl, _, rfl, g, rs, many, i0 - 1, j0 - 1, rfl, hg1.lk (K46.lk s15), vg, hm, by omega, by omega, fun z => absurd ri z, fun _ z => absurd rj z, fun _ _ G6 p6 zs6 s6 np6 hp6 hZ6 => ?_⟩
                          rw [em2, ek2] at hZ6
                          refine ⟨.ref D, rfl, dGr (wo rs m k), dGr (wo rs m k), dp_gr ⟨zs6, hp6, hZ6.mono fun _ _ z => z.row⟩, dp_gr (hdue.lk (K46.lk (s15.trans s6))), shW, shW, _, rfl, ?_⟩
                          rw [eqW]
                          exact iteF ⟨s05.trans s6, _, _, _, _, _, _, rfl⟩
            · rw [decide_eq_false d1]
              refine iteT ?_
              refine ⟨_, rfl, _, rfl, _, rfl, g, 1, _, _, rfl, .inr ⟨rfl, rs, many, hgG, vg, hm, by omega, by omega, .inr ⟨⟨c0, c1⟩, fun z => d1 z.2, fun G2 t2 l2 s2 ht2 hl2 => ?_⟩⟩⟩
              refine ⟨by show 4 ≤ sizeLine; decide, fun l4 n4 => ⟨_, rfl, by show 2 ≤ sizeLine; decide, fun t4 nt4 => ?_⟩⟩
              have s5 := same_upd n4 (o := .lst [.bl false, .bl false, .bl false, .bl true])
              have s6 := same_upd nt4 (o := .tup [.ref l4, .int (j0 - 1)])
              have s56 := s5.trans s6
              refine ⟨dR false false false true (j0 - 1), dR false false false true (j0 - 1), dp_R (s56 _ _ ht2) (s56 _ _ hl2), dp_R upd_same (s6 _ _ upd_same), sh_R .., sh_R .., _, rfl, ?_⟩
              rw [eq_R]
              exact iteF ⟨sm.trans (s2.trans s56), _, _, _, _, _, _, rfl⟩
          · rw [decide_eq_false d0]
            refine iteF ?_
            refine ⟨_, rfl, iteT ?_⟩
            refine ⟨_, rfl, _, rfl, _, rfl, g, 1, _, _, rfl, .inr ⟨rfl, rs, many, hgG, vg, hm, by omega, by omega, .inr ⟨⟨c0, c1⟩, fun z => d0 z.1, fun G2 t2 l2 s2 ht2 hl2 => ?_⟩⟩⟩
            refine ⟨by show 4 ≤ sizeLine; decide, fun l4 n4 => ⟨_, rfl, by show 2 ≤ sizeLine; decide, fun t4 nt4 => ?_⟩⟩
            have s5 := same_upd n4 (o := .lst [.bl false, .bl false, .bl false, .bl true])
            have s6 := same_upd nt4 (o := .tup [.ref l4, .int (j0 - 1)])
            have s56 := s5.trans s6
            refine ⟨dR false false false true (j0 - 1), dR false false false true (j0 - 1), dp_R (s56 _ _ ht2) (s56 _ _ hl2), dp_R upd_same (s6 _ _ upd_same), sh_R .., sh_R .., _, rfl, ?_⟩
            rw [eq_R]
            exact iteF ⟨sm.trans (s2.trans s56), _, _, _, _, _, _, rfl⟩
        · rw [decide_eq_false c1]
          refine iteT ?_
          refine ⟨_, rfl, _, rfl, _, rfl, g, 1, _, _, rfl, .inr ⟨rfl, rs, many, hgG, vg, hm, by omega, by omega, .inl ⟨fun z => c1 z.2, fun G2 t2 l2 s2 ht2 hl2 => ?_⟩⟩⟩
          refine ⟨by show 4 ≤ sizeLine; decide, fun l4 n4 => ⟨_, rfl, by show 2 ≤ sizeLine; decide, fun t4 nt4 => ?_⟩⟩
          have s5 := same_upd n4 (o := .lst [.bl false, .bl false, .bl true, .bl false])
          have s6 := same_upd nt4 (o := .tup [.ref l4, .int (i0 - 1)])
          have s56 := s5.trans s6
          refine ⟨dR false false true false (i0 - 1), dR false false true false (i0 - 1), dp_R (s56 _ _ ht2) (s56 _ _ hl2), dp_R upd_same (s6 _ _ upd_same), sh_R .., sh_R .., _, rfl, ?_⟩
          rw [eq_R]
          exact iteF ⟨sm.trans (s2.trans s56), _, _, _, _, _, _, rfl⟩
      · rw [decide_eq_false c0]
        refine iteF ?_
        refine ⟨_, rfl, iteT ?_⟩
        refine ⟨_, rfl, _, rfl, _, rfl, g, 1, _, _, rfl, .inr ⟨rfl, rs, many, hgG, vg, hm, by omega, by omega, .inl ⟨fun z => c0 z.1, fun G2 t2 l2 s2 ht2 hl2 => ?_⟩⟩⟩
        refine ⟨by show 4 ≤ sizeLine; decide, fun l4 n4 => ⟨_, rfl, by show 2 ≤ sizeLine; decide, fun t4 nt4 => ?_⟩⟩
        have s5 := same_upd n4 (o := .lst [.bl false, .bl false, .bl true, .bl false])
        have s6 := same_upd nt4 (o := .tup [.ref l4, .int (i0 - 1)])
        have s56 := s5.trans s6
        refine ⟨dR false false true false (i0 - 1), dR false false true false (i0 - 1), dp_R (s56 _ _ ht2) (s56 _ _ hl2), dp_R upd_same (s6 _ _ upd_same), sh_R .., sh_R .., _, rfl, ?_⟩
        rw [eq_R]
        exact iteF ⟨sm.trans (s2.trans s56), _, _, _, _, _, _, rfl⟩
    · obtain ⟨sm, v4, v5, v6, v7, v8, v9, rfl⟩ := hP
      exact q _ sm
end
-- X
/-! ### powers and tables as data -/
def dO : Option Int → PyData
  | none => .none
  | some k => .int k
def dOs (row : List (Option Int)) : PyData := .list (row.map dO)
def dPw (tab : List (List (Option Int))) : PyData := .list (tab.map dOs)
theorem lay_dO (o : Option Int) : (dO o).canLay0 = true := by cases o <;> rfl
theorem dep_dO (o : Option Int) : (dO o).depth ≤ 0 := by cases o <;> exact Nat.le_refl _
theorem lay_dOs (row : List (Option Int)) : (dOs row).canLay0 = true := layAll_map lay_dO row
theorem dep_dOs (row : List (Option Int)) : (dOs row).depth ≤ 1 := Nat.succ_le_succ (depAll_map dep_dO row)
theorem shaped_dPw (tab : List (List (Option Int))) : SeqAt.shaped (dPw tab) = true := by
  unfold SeqAt.shaped
  rw [show (dPw tab).canLay0 = true from layAll_map lay_dOs tab, decide_eq_true (Nat.le_trans (Nat.succ_le_succ (depAll_map dep_dOs tab)) (by decide) : (dPw tab).depth ≤ 64)]; rfl
theorem dp_os {K : PySem.W.Frag} {H : Hp} : ∀ row : List (Option Int), DpAll K H (row.map vI) (row.map dO)
  | [] => .nil
  | none :: r => .cons .non (dp_os r)
  | some k :: r => .cons (.int k) (dp_os r)
theorem dp_pws {K : PySem.W.Frag} {D : Addr} {H : Hp} : ∀ {ys : List V} {tab : List (List (Option Int))}, A2 (PRow D H) ys tab → DpAll K H ys (tab.map dOs)
  | _, _, .nil => .nil
  | _, _, .cons ⟨a, e, _, h⟩ t => by
    rw [e]
    exact .cons (.lst (.of h) (dp_os _)) (dp_pws t)
theorem dp_pw {K : PySem.W.Frag} {D p : Addr} {H : Hp} {ys : List V} {tab : List (List (Option Int))} (hp : H p = some (.lst ys)) (h : A2 (PRow D H) ys tab) : Dp K H (.ref p) (dPw tab) := .lst (.of hp) (dp_pws h)
def dTb (tab : Tb) : PyData := .list (tab.map dEls)
theorem shaped_dTb (tab : Tb) : SeqAt.shaped (dTb tab) = true := by
  unfold SeqAt.shaped
  rw [show (dTb tab).canLay0 = true from layAll_map lay_els tab, decide_eq_true (Nat.le_trans (Nat.succ_le_succ (depAll_map dep_els tab)) (by decide) : (dTb tab).depth ≤ 64)]; rfl
def pwsOf (rows : List Rw) : List (List (Option Int)) := rows.map fun r => r.2.map (pw r.1)
/-- rows as they stand, in a new list -/
def ORow (D : Addr) (H : Hp) (v : V) (row : List (List Int)) : Prop := ∃ (b : Addr) (as : List Addr), v = .ref b ∧ b ≠ D ∧ H b = some (.lst (as.map V.ref)) ∧ A2 (fun e ns => e ≠ D ∧ IL H e ns) as row
theorem ORow.up {D : Addr} (H H' : Hp) (v : V) (row : List (List Int)) (s : SameX D H H') (h : ORow D H v row) : ORow D H' v row := let ⟨b, as, e, nb, hb, hr⟩ := h; ⟨b, as, e, nb, s _ _ nb hb, hr.mono fun _ _ z => ⟨z.1, s _ _ z.1 z.2⟩⟩
theorem dp_tbs {K : PySem.W.Frag} {H : Hp} : ∀ {ys : List V} {tab : Tb}, A2 (fun v row => ∃ a, v = V.ref a ∧ RowL H a row) ys tab → DpAll K H ys (tab.map dEls)
  | _, _, .nil => .nil
  | _, _, .cons ⟨a, e, h⟩ t => by
    rw [e]
    exact .cons (dp_rowL h) (dp_tbs t)
theorem dp_tb {K : PySem.W.Frag} {p : Addr} {H : Hp} {ys : List V} {tab : Tb} (hp : H p = some (.lst ys)) (h : A2 (fun v row => ∃ a, v = V.ref a ∧ RowL H a row) ys tab) : Dp K H (.ref p) (dTb tab) := .lst (.of hp) (dp_tbs h)
theorem not_int {ns : List Int} {i : Nat} {a : Addr} (h : (ns.map V.int)[i]? = some (.ref a)) : False := by
  rw [List.getElem?_map] at h
  cases e : ns[i]? with
  | none => rw [e] at h; cases h
  | some n => rw [e] at h; cases h
/-- what was told is made longer: a row at its list -/
def BR (L : Addr) (H0 G : Hp) (n : Nat) (v : V) (_r : Rw) : Prop := ∃ (t b : Addr) (k : V) (ys : List V), v = .ref t ∧ G t = some (.tup [k, .ref b]) ∧ (b ≠ L ∧ H0 b = none) ∧ G b = some (.lst ys) ∧ ys.length ≤ n
theorem BR.step {L : Addr} {H0 G : Hp} {n : Nat} {v : V} {r : Rw} {l b2 : Addr} {ys2 : List V} {o : HO} (h : BR L H0 G n v r) (nl : G l = none) (hb2 : G b2 = some (.lst ys2)) (h2 : ys2.length ≤ n) : BR L H0 (upd (upd G l o) b2 (.lst (ys2 ++ [.ref l]))) (n + 1) v r := by
  obtain ⟨t, b, k, ys, rfl, ht, nb, hb, hl⟩ := h
  have s := same_upd nl (o := o)
  by_cases z : b = b2
  · refine ⟨t, b, k, ys2 ++ [.ref l], rfl, ?_, nb, by rw [z, upd_same], by rw [List.length_append]; exact Nat.succ_le_succ h2⟩
    rw [upd_ne fun y => by rw [y] at ht; have := ht.symm.trans hb2; cases this]; exact s _ _ ht
  · refine ⟨t, b, k, ys, rfl, ?_, nb, by rw [upd_ne z]; exact s _ _ hb, Nat.le_succ_of_le hl⟩
    rw [upd_ne fun y => by rw [y] at ht; have := ht.symm.trans hb2; cases this]; exact s _ _ ht
section
variable {P : Program} {w : World} {K : PySem.W.Frag} {mg : Str → Option Value} {base : Heap}
def sp_law (K : PySem.W.Frag) : Sp := fun vs H Q _ => ∃ (a : Addr) (ns : List Int), vs = [.ref a] ∧ SqL K H a (ns.map V.int) ∧ ns.length ≤ 63 ∧ ∀ H', Q (.bl true) H'
theorem ok_law (T : Txt K mg) (X : Errs K mg) : LG.FnG P w K mg base CX0 9 T.law.a T.law.fd ["script"] (sp_law K) := by
  refine LG.fun_okG T.law.F sc_law (fun vs H Q E h => ?_) (fun cdv A outer s H vs Q E hr gd h => ?_)
  · obtain ⟨a, ns, rfl, _⟩ := h
    rfl
  · obtain ⟨a, ns, rfl, ha, hl, q⟩ := h
    refine ⟨_, (pss_cons (ps_set (i := 1) sc_law.nd rfl (.inl rfl) (pe_call (ok_law_draws T) (hr.mono (by decide)) (by rfl) T.law_draws.g T.law_draws.F.kp T.law_draws.b .nil pass0 (pa_cons (pv 0) pa_nil)))
      (pss_cons (ps_asg (pe_call (ok_law_model T) (hr.mono (by decide)) (by rfl) T.law_model.g T.law_model.F.kp T.law_model.b .nil pass0 (pa_cons (pv 1) (pa_cons pe_int (pa_cons (pe_call (ok_law_grid T) (hr.mono (by decide)) (by rfl) T.law_grid.g T.law_grid.F.kp T.law_grid.b .nil pass0 (pa_cons (pv 1) (pa_cons pe_int (pa_cons (pe_call (ok_law_mix T) (hr.mono (by decide)) (by rfl) T.law_mix.g T.law_mix.F.kp T.law_mix.b .nil pass0 (pa_cons (pv 1) (pa_cons pe_int (pa_cons (pe_ix ix_list (pe_lst (pa_cons pe_int (pa_cons pe_int pa_nil))) (pe_callTy call_int1 (by rfl) T.m_int (by decide +kernel) (pa_cons (pe_cmpR op_eq (pe_call (ok_law_mix T) (hr.mono (by decide)) (by rfl) T.law_mix.g T.law_mix.F.kp T.law_mix.b .nil pass0 (pa_cons (pv 1) (pa_cons pe_int (pa_cons pe_int pa_nil)))) pe_int (nomark _)) pa_nil)) (fun _ _ => rfl)) pa_nil)))) pa_nil)))) pa_nil)))) (pg_tup rfl (pgs_cons (pg_name (i := 2) sc_law.nd rfl (.inl rfl)) (pgs_cons (pg_name (i := 3) sc_law.nd rfl (.inl rfl)) pgs_nil))))
      (pss_cons (ps_set (i := 4) sc_law.nd rfl (.inl rfl) (pe_callB (LG.call_reprD gd hr.units) (by rfl) T.m_repr (by decide +kernel) (pa_cons (pv 2) pa_nil)))
      (pss_cons (ps_set (i := 5) sc_law.nd rfl (.inl rfl) (pe_call (ok_grid_of T X) (hr.mono (by decide)) (by rfl) T.grid_of.g T.grid_of.F.kp T.grid_of.b .nil (passes_call takes0 fun _ _ _ _ h => h) (pa_cons (pv 2) pa_nil)))
      (pss_cons (ps_if (PW.pt (pw_or (pt_not (pt_val (pe_callB call_isi (by rfl) T.m_isinstance (by decide +kernel) (pa_cons (pv 5) (pa_cons (pe_bltn (v := .ty "list") (by rfl) T.m_list (by decide +kernel) rfl) pa_nil))))) (pw_or (pt_cmpR (op_neD hr.units) (pv 5) (pv 3) (nomark _)) (pw_or1 (pt_cmpR op_ne (pe_callB (LG.call_reprD gd hr.units) (by rfl) T.m_repr (by decide +kernel) (pa_cons (pv 2) pa_nil)) (pv 4) (nomark _))))))
        (pss_one (ps_ret pe_bl))
        pss_nil)
      (pss_cons (ps_for PassesOwn.never rfl (pi_list (pv 5)) (pg_name (i := 6) sc_law.nd rfl (.inl rfl))
        (pss_one (ps_if (pt_not (pt_val (pe_callB call_isi (by rfl) T.m_isinstance (by decide +kernel) (pa_cons (pv 6) (pa_cons (pe_bltn (v := .ty "tuple") (by rfl) T.m_tuple (by decide +kernel) rfl) pa_nil)))))
          (pss_one (ps_ret pe_bl))
          pss_nil)))
      (pss_cons (ps_setLc (i := 9) (own := [("kind", 7), ("row", 6)]) (g := gTup K 2 (gCons (gName 7) (gCons (gName 6) gNil))) rfl sc_law.nd rfl rfl (sw_true rfl rfl rfl (by decide +kernel)) (pi_list (pv 3)) (blkOk_by (N := ["script", "draws", "model", "rows", "kept", "told", "row", "kind", "element", "due", "powers", "exact", "item"]) (sc := defScope s_law) (by decide +kernel)) (fun _ _ _ _ _ => (pg_tup rfl (pgs_cons (pg_name (i := 7) sc_law.nd rfl (.inr rfl)) (pgs_cons (pg_name (i := 6) sc_law.nd rfl (.inl rfl)) pgs_nil)))) (fun _ _ _ _ _ => pts_nil) (fun _ _ _ _ _ => (pe_lc (wi := iList K _) (own := [("element", 8)]) rfl sc_law.nd (pi_list (pv 6)) (blkOk_by (N := ["script", "draws", "model", "rows", "kept", "told", "row", "kind", "element", "due", "powers", "exact", "item"]) (sc := { kind := .function, names := [(".0", .local), ("kind", .cell), ("row", .local)], isGenerator := false, isCoroutine := false, more := [] }) (by decide +kernel)) (fun _ _ _ _ _ => (pg_name (i := 8) sc_law.nd rfl (.inl rfl))) (fun _ _ _ _ _ => pts_nil) (fun _ _ _ _ _ => (pe_call (ok_law_power T) (hr.mono (by decide)) (by rfl) T.law_power.g T.law_power.F.kp T.law_power.b .nil pass0 (pa_cons (pv 7) (pa_cons (pv 8) pa_nil)))))))
      (pss_cons (ps_set (i := 10) sc_law.nd rfl (.inl rfl) (pe_call (ok_powers_of T) (hr.mono (by decide)) (by rfl) T.powers_of.g T.powers_of.F.kp T.powers_of.b .nil pass0 (pa_cons (pv 5) pa_nil)))
      (pss_cons (ps_if (PW.pt (pw_or (pt_not (pt_val (pe_callB call_isi (by rfl) T.m_isinstance (by decide +kernel) (pa_cons (pv 10) (pa_cons (pe_bltn (v := .ty "list") (by rfl) T.m_list (by decide +kernel) rfl) pa_nil))))) (pw_or1 (pt_cmpR (op_neD hr.units) (pv 10) (pv 9) (nomark _)))))
        (pss_one (ps_ret pe_bl))
        pss_nil)
      (pss_cons (ps_for PassesOwn.never rfl (pi_list (pv 10)) (pg_name (i := 6) sc_law.nd rfl (.inl rfl))
        (pss_one (ps_if (pt_cmpR (op_neD hr.units) (pe_lc (own := [("item", 12)]) rfl sc_law.nd (pi_list (pv 6)) (blkOk_by (N := ["script", "draws", "model", "rows", "kept", "told", "row", "kind", "element", "due", "powers", "exact", "item"]) (sc := defScope s_law) (by decide +kernel)) (fun _ _ _ _ _ => (pg_name (i := 12) sc_law.nd rfl (.inl rfl))) (fun _ _ _ _ _ => (pts_one (PW.pt (pw_and (pt_cmpR op_notN (pv 12) pe_non (nomark _)) (pw_and1 (pt_not (pt_val (pe_call (ok_law_is_integer T) (hr.mono (by decide)) (by rfl) T.law_is_integer.g T.law_is_integer.F.kp T.law_is_integer.b .nil pass0 (pa_cons (pv 12) pa_nil))))))))) (fun _ _ _ _ _ => (pv 12))) (pe_lst pa_nil) (nomark _))
          (pss_one (ps_ret pe_bl))
          pss_nil)))
      (pss_cons (ps_set (i := 11) sc_law.nd rfl (.inl rfl) (pe_call (ok_exact_rows T) (hr.mono (by decide)) (by rfl) T.exact_rows.g T.exact_rows.F.kp T.exact_rows.b .nil pass0 (pa_cons (pv 5) pa_nil)))
      (pss_cons (ps_if (PW.pt (pw_or (pt_not (pt_val (pe_callB call_isi (by rfl) T.m_isinstance (by decide +kernel) (pa_cons (pv 11) (pa_cons (pe_bltn (v := .ty "list") (by rfl) T.m_list (by decide +kernel) rfl) pa_nil))))) (pw_or (pt_cmpR (op_neD hr.units) (pv 11) (pe_lc (own := [("kind", 7), ("row", 6)]) (g := gTup K 2 (gCons (gName 7) (gCons (gName 6) gNil))) rfl sc_law.nd (pi_list (pv 3)) (blkOk_by (N := ["script", "draws", "model", "rows", "kept", "told", "row", "kind", "element", "due", "powers", "exact", "item"]) (sc := defScope s_law) (by decide +kernel)) (fun _ _ _ _ _ => (pg_tup rfl (pgs_cons (pg_name (i := 7) sc_law.nd rfl (.inl rfl)) (pgs_cons (pg_name (i := 6) sc_law.nd rfl (.inl rfl)) pgs_nil)))) (fun _ _ _ _ _ => (pts_one (pt_cmpR op_eq (pv 7) pe_str (nomark _)))) (fun _ _ _ _ _ => (pv 6))) (nomark _)) (pw_or1 (pt_cmpR (op_neD hr.units) (pv 5) (pv 3) (nomark _))))))
        (pss_one (ps_ret pe_bl))
        pss_nil)
      (pss_cons (ps_for PassesOwn.never rfl (pi_list (pv 11)) (pg_name (i := 6) sc_law.nd rfl (.inl rfl))
        (pss_one (ps_for PassesOwn.never rfl (pi_list (pv 6)) (pg_name (i := 8) sc_law.nd rfl (.inl rfl))
          (pss_one (ps_expr (pe_bm PySem.F.plainAttrs_list PySem.F.slot_list_append PySem.F.type_list_append mt_append (pv 8) (pa_cons pe_int pa_nil)))))))
      (pss_cons (ps_expr (pe_bm PySem.F.plainAttrs_list PySem.F.slot_list_append PySem.F.type_list_append mt_append (pv 10) (pa_cons pe_int pa_nil)))
      (pss_cons (ps_if (PW.pt (pw_or (pt_cmpR (op_neD hr.units) (pv 5) (pv 3) (nomark _)) (pw_or1 (pt_cmpR (op_neD hr.units) (pe_call (ok_powers_of T) (hr.mono (by decide)) (by rfl) T.powers_of.g T.powers_of.F.kp T.powers_of.b .nil pass0 (pa_cons (pv 5) pa_nil)) (pv 9) (nomark _)))))
        (pss_one (ps_ret pe_bl))
        pss_nil)
      (pss_cons (ps_if (pt_not (pt_val (pe_call (ok_law_left T X) (hr.mono (by decide)) (by rfl) T.law_left.g T.law_left.F.kp T.law_left.b .nil pass0 (pa_cons (pv 1) (pa_cons (pv 3) (pa_cons (pv 5) pa_nil))))))
        (pss_one (ps_ret pe_bl))
        pss_nil)
      (pss_cons (ps_for PassesOwn.never rfl (pi_list (pv 5)) (pg_tup rfl (pgs_cons (pg_name (i := 7) sc_law.nd rfl (.inl rfl)) (pgs_cons (pg_name (i := 6) sc_law.nd rfl (.inl rfl)) pgs_nil)))
        (pss_one (ps_expr (pe_bm PySem.F.plainAttrs_list PySem.F.slot_list_append PySem.F.type_list_append mt_append (pv 6) (pa_cons (pe_lst (pa_cons pe_int pa_nil)) pa_nil)))))
      (pss_one (ps_ret (pe_and (pe_cmpR (op_eqD hr.units) (pe_call (ok_grid_of T X) (hr.mono (by decide)) (by rfl) T.grid_of.g T.grid_of.F.kp T.grid_of.b .nil (passes_call takes0 fun _ _ _ _ h => h) (pa_cons (pv 2) pa_nil)) (pv 3) (nomark _)) (pe_and (pe_cmpR op_eq (pe_callB (LG.call_reprD gd hr.units) (by rfl) T.m_repr (by decide +kernel) (pa_cons (pv 2) pa_nil)) (pv 4) (nomark _)) (pe_one (pe_call (ok_law_bad T X) (hr.mono (by decide)) (by rfl) T.law_bad.g T.law_bad.F.kp T.law_bad.b .nil pass0 (pa_cons (pv 1) (pa_cons (pv 2) pa_nil))))))))))))))))))))))))), ?_⟩
    refine ⟨.ref a, rfl, a, ns, rfl, ha, hl, fun H1 d ds s1 nd hd _ => ?_⟩
    refine ⟨.ref d, rfl, .ref d, rfl, .ref d, rfl, by show 2 ≤ sizeLine; decide, fun l0 n0 => ?_⟩
    have hd2 := hd.same (same_upd n0 (o := .lst [.int 9, .int 17]))
    refine ⟨.ref d, rfl, d, ds, _, _, rfl, hd2, by decide, by decide, fun r1 p1 u1 => ⟨rfl, .inr ⟨_, rfl, ?_⟩⟩⟩
    obtain ⟨bi, eb, b0, b1⟩ : ∃ bi : Int, (if decide (V.int r1 = V.int 2) = true then (1 : Int) else 0) = bi ∧ 0 ≤ bi ∧ bi ≤ 1 := ⟨_, rfl, by split <;> omega, by split <;> omega⟩
    rw [eb]
    have hlt : bi.toNat < [(9 : Int), 17].length := by show _ < 2; omega
    refine ⟨l0, _, _, _, rfl, rfl, .of upd_same, at_map' (ns := [9, 17]) (m := bi.toNat) (by omega) hlt, ?_⟩
    obtain ⟨m0, m1⟩ := (by decide : ∀ x ∈ [(9 : Int), 17], 0 < x ∧ x ≤ 17) _ (mem_at (at_map hlt))
    refine ⟨d, ds, _, _, rfl, hd2, by decide, m0, fun r2 p2 u2 => ?_⟩
    obtain ⟨many, em, hm⟩ : ∃ m : Nat, r2 = (m : Int) ∧ m ≤ 16 := ⟨r2.toNat, by omega, by omega⟩
    subst em
    refine ⟨d, ds, _, many, rfl, hd2, by decide, hm, fun H3 g rs s3 hg vg hok => ?_⟩
    have hd3 := hd2.same s3
    refine ⟨d, ds, _, g, rs, many, rfl, hd3, by decide, hg, vg, hok, hm, fun H4 u mv p m rows s4 hu hM vm hR vgR hLR => ?_⟩
    have hd4 := hd3.same s4
    refine ⟨u, _, rfl, .inl (.inl hu), rfl, _, _, rfl, _, _, rfl, rfl, ?_⟩
    have hMM := hM
    obtain ⟨um, qa, r, xs, rfl, hum, hqa, hxs, hW⟩ := hMM
    have lx : xs.length = many := hW.len.trans vm.ls
    have lqs : (m.qs.map V.str).length = many := by rw [List.length_map]; exact vm.qs.1
    obtain ⟨xr, hxr, hAr⟩ := hR
    have hR : GR K H4 p rows := ⟨xr, hxr, hAr⟩
    have lxr := hAr.len
    have lrows := vgR.1
    have gD := gd_md vm hm
    have gd0 := PyData.hasDict_of_canLay _ gD.lay
    have gDd : (dMd m).depth ≤ 60 := Nat.le_trans gD.dep (by decide)
    have gDl : (dMd m).shown.length ≤ sizeLine := Nat.le_trans gD.len (by decide)
    have dpm : ∀ G, Same H4 G → Dp K G (.ref um) (dMd m) := fun G s => by
      obtain ⟨a', e', h'⟩ := dp_md (hM.same s).md
      cases e'
      exact h'
    refine ⟨.ref um, rfl, um, dMd m, rfl, dpm _ (Same.refl _), gD.sh, gd0, gDd, gDl, ?_⟩
    generalize hkept : (dMd m).shown = kept
    have sr : Same H4 H4 := Same.refl _
    have SeqS : ∀ {G : Hp} {a : Addr} {xs : List V}, Same H4 G → SqL K H4 a xs → SqL K G a xs := fun s h => s.seq h
    refine ⟨.ref um, rfl, um, qa, r, _, xs, rfl, Same.seqT sr hum, .of (sr _ _ hqa), SeqS sr hxs, by omega, by omega, fun z => absurd (lx.trans lqs.symm) z, fun _ z => absurd z (by omega), fun _ _ => ⟨m, rows, rfl, hW.mono fun _ _ z => z.same sr, by rw [lx]; exact vm, by rw [lx]; exact vgR, by rw [lx]; exact hLR, fun H5 L zs s5 nL hL hZ => ?_⟩⟩
    have shG := shaped_dGr rows
    have eqG := SeqAt.eqv_refl _ (SeqAt.canLay_of_shaped shG)
    have gT : GR K H5 L rows := ⟨zs, hL, hZ.mono fun _ _ z => z.row⟩
    refine ⟨.ref L, rfl, _, _, _, _, true, rfl, .ty "list", .base (.lst hL), rfl, _, rfl, iteF ?_⟩
    refine ⟨.ref L, rfl, .ref p, rfl, dGr rows, dGr rows, dp_gr gT, dp_gr (hR.lk (K46.lk s5)), shG, shG, _, rfl, ?_⟩
    rw [eqG]
    refine iteF ?_
    refine ⟨.ref um, rfl, um, dMd m, rfl, dpm _ s5, gD.sh, gd0, gDd, gDl, _, rfl, rfl, _, rfl, ?_⟩
    rw [hkept, decide_eq_true rfl]
    refine iteF ?_
    -- each row is a tuple
    refine ⟨.ref L, rfl, L, rfl, ⟨_, .of hL⟩, ?_⟩
    refine for_it (walk_list (xs := zs)) (fun i σ G => Same H5 G ∧ ∃ v6 : Option V, σ = [some (.ref a), some (.ref d), some (.ref um), some (.ref p), some (.str kept), some (.ref L), v6, none, none, none, none, none, none]) ⟨Same.refl _, none, rfl⟩ (fun i σ G _ hP => .of (hP.1 _ _ hL)) (fun i x σ G Gx hi hP y => ?_) (fun σ G hP => ?_)
    · obtain ⟨sG, v6, rfl⟩ := hP
      obtain ⟨rfl, hxi⟩ := y
      obtain ⟨r0, hr0, t, b, as, rfl, nt, nb, ht, hb, hE⟩ := hZ.get hxi
      exact ⟨.ref t, rfl, _, _, _, _, true, rfl, .ty "tuple", .base (.tup (sG _ _ ht)), rfl, _, rfl, iteF ⟨sG, _, rfl⟩⟩
    obtain ⟨sG, v6, rfl⟩ := hP
    have sA := s5.trans sG
    have hxrG := sA _ _ hxr
    have hRG := hR.lk (K46.lk sA)
    have gTG := gT.lk (K46.lk sG)
    have hLG := sG _ _ hL
    -- what the powers should be
    refine ⟨.ref p, rfl, p, rfl, ⟨_, .of hxrG⟩, fun D nD => ?_⟩
    refine lc_fm (walk_list (xs := xr)) rows (fun r => some (r.2.map (pw r.1))) (PRow D) (fun _ _ _ _ s ⟨a, e, n, h⟩ => ⟨a, e, n, s _ _ n h⟩) lxr.symm nD (fun H' s => s.seq (.of hxrG)) (small' (by omega)) (fun i x H' Hx ys r hr2 sm hD y Qt Qf qt qf => ?_) (fun G1 ys s6 hD hDue => ?_)
    · obtain ⟨rfl, hxi⟩ := y
      obtain ⟨r', hr', hV⟩ := hAr.get hxi
      obtain rfl := Option.some.inj (hr2.symm.trans hr')
      obtain ⟨t, b, rfl, ht, as, hb, hE⟩ := hV.lk (K46.lk (sA.trans sm))
      have la := hE.len
      have lrow := (vgR.2 r (mem_at hr2)).1
      refine ⟨t, _, rfl, ht, rfl, _, _, rfl, _, _, rfl, rfl, rfl, .ref b, rfl, b, rfl, ⟨_, .of hb⟩, fun D2 nD2 => ?_⟩
      refine lc_fm (walk_list (xs := as.map V.ref)) r.2 (fun e => some (pw r.1 e)) (fun _ v o => v = vI o) (fun _ _ _ _ _ z => z) (by rw [List.length_map, la]) nD2 (fun H' s => s.seq (.of hb)) (small' (by rw [List.length_map]; omega)) (fun i2 x2 H2 Hx2 ys2 e he sm2 hD2 y2 Qt2 Qf2 qt2 qf2 => ?_) (fun G2 ys2 sm2 hD2 hR2 => ?_)
      · obtain ⟨rfl, hx2⟩ := y2
        obtain ⟨c, hc, rfl⟩ := row_ref hx2
        obtain ⟨e', he', hI⟩ := hE.get hc
        obtain rfl := Option.some.inj (he.symm.trans he')
        exact ⟨rfl, _, rfl, .ref c, rfl, c, e, r.1, rfl, hI.same sm2, fun H3 s3 => qt2 _ _ _ rfl s3 rfl⟩
      · rw [a2_eq hR2, fm_some] at hD2
        exact qt _ _ _ rfl sm2 ⟨D2, rfl, (fun z => by rw [z, hD] at nD2; cases nD2), hD2⟩
    rw [fm_some] at hDue
    have hDue : A2 (PRow D G1) ys (pwsOf rows) := hDue
    have sB := sA.trans s6
    have shP := shaped_dPw (pwsOf rows)
    have eqP := SeqAt.eqv_refl _ (SeqAt.canLay_of_shaped shP)
    have gTB := gTG.lk (K46.lk s6)
    -- the powers
    refine ⟨.ref L, rfl, L, rows, many, rfl, gTB, vgR, hm, fun H7 PW pys s7 nPW hPW hPR => ?_⟩
    have duP : ∀ G, Same G1 G → Dp K G (.ref D) (dPw (pwsOf rows)) := fun G s => dp_pw (s _ _ hD) (hDue.mono fun _ _ ⟨a, e, n, h⟩ => ⟨a, e, n, s _ _ h⟩)
    have hPR : A2 (PRow PW H7) pys (pwsOf rows) := hPR
    refine ⟨.ref PW, rfl, _, _, _, _, true, rfl, .ty "list", .base (.lst hPW), rfl, _, rfl, iteF ?_⟩
    refine ⟨.ref PW, rfl, .ref D, rfl, dPw (pwsOf rows), dPw (pwsOf rows), dp_pw hPW hPR, duP _ s7, shP, shP, _, rfl, ?_⟩
    rw [eqP]
    refine iteF ?_
    have lpy : pys.length = rows.length := by rw [hPR.len]; exact List.length_map ..
    -- all of them integers, or none
    refine ⟨.ref PW, rfl, PW, rfl, ⟨_, .of hPW⟩, ?_⟩
    refine for_it (walk_list (xs := pys)) (fun i σ G => Same H7 G ∧ ∃ v6 : Option V, σ = [some (.ref a), some (.ref d), some (.ref um), some (.ref p), some (.str kept), some (.ref L), v6, none, none, some (.ref D), some (.ref PW), none, none]) ⟨Same.refl _, _, rfl⟩ (fun i σ G _ hP => .of (hP.1 _ _ hPW)) (fun i x σ G Gx hi hP y => ?_) (fun σ G hP => ?_)
    · obtain ⟨sm, v6, rfl⟩ := hP
      obtain ⟨rfl, hxi⟩ := y
      obtain ⟨row, hrow, b, rfl, nb, hb⟩ := hPR.get hxi
      have hbG := sm _ _ hb
      have lrw : row.length ≤ 16 := by
        have := mem_at hrow
        obtain ⟨r0, hr0, rfl⟩ := List.mem_map.mp this
        rw [List.length_map]
        have := (vgR.2 r0 hr0).1
        omega
      refine ⟨.ref b, rfl, b, rfl, ⟨_, .of hbG⟩, fun D2 nD2 => ?_⟩
      refine lc_fm (walk_list (xs := row.map vI)) row (fun _ => (none : Option Int)) (fun _ _ _ => True) (fun _ _ _ _ _ z => z) (by rw [List.length_map]) nD2 (fun H' s => s.seq (.of hbG)) (small' (by rw [List.length_map]; omega)) (fun i2 x2 H2 Hx2 ys2 o ho sm2 hD2 y2 Qt2 Qf2 qt2 qf2 => ?_) (fun G2 ys2 sm2 hD2 hR2 => ?_)
      · obtain ⟨rfl, hx2⟩ := y2
        rw [List.getElem?_map, ho] at hx2
        obtain rfl := Option.some.inj hx2
        have qq := qf2 rfl _ (Same.refl _)
        cases o with
        | none => exact ⟨rfl, _, rfl, rfl, _, rfl, iteF qq⟩
        | some k => exact ⟨rfl, _, rfl, rfl, _, rfl, iteT ⟨_, rfl, k, rfl, _, rfl, iteF qq⟩⟩
      · have e0 : ys2 = [] := by
          have := hR2.len
          rw [show row.filterMap (fun _ => (none : Option Int)) = [] from List.filterMap_eq_nil_iff.mpr fun _ _ => rfl] at this
          exact List.length_eq_zero_iff.mp this
        subst e0
        refine ⟨by show 0 ≤ sizeLine; decide, fun l nl => ?_⟩
        have s8 := same_upd nl (o := .lst [])
        exact ⟨.list [], .list [], .lst (.of (s8 _ _ hD2)) .nil, .lst (.of upd_same) .nil, rfl, rfl, _, rfl, iteF ⟨sm.trans (sm2.trans s8), _, rfl⟩⟩
    obtain ⟨sC, v6, rfl⟩ := hP
    have s7C := s7.trans sC
    have sD := sB.trans s7C
    have gTC := gTB.lk (K46.lk s7C)
    have hRC := hR.lk (K46.lk sD)
    have hxrC := sD _ _ hxr
    have hPWC := sC _ _ hPW
    generalize hG0 : G = G0 at *
    -- the exact rows
    refine ⟨.ref L, rfl, L, rows, rfl, gTC, by omega, fun r hr => by have := (vgR.2 r hr).1; omega, fun H8 EX eys s8 nEX hEX hER => ?_⟩
    refine ⟨.ref EX, rfl, _, _, _, _, true, rfl, .ty "list", .base (.lst hEX), rfl, _, rfl, iteF ?_⟩
    have hxr8 := s8 _ _ hxrC
    refine ⟨.ref EX, rfl, .ref p, rfl, p, rfl, ⟨_, .of hxr8⟩, fun D3 nD3 => ?_⟩
    refine lc_fm (walk_list (xs := xr)) rows (fun r => if r.1 = true then some r.2 else none) (ORow D3) ORow.up lxr.symm nD3 (fun H' s => s.seq (.of hxr8)) (small' (by omega)) (fun i x H' Hx ys r hr2 sm hD y Qt Qf qt qf => ?_) (fun G9 ys3 s9 hD3 hOR => ?_)
    · obtain ⟨rfl, hxi⟩ := y
      obtain ⟨r', hr', hV⟩ := hAr.get hxi
      obtain rfl := Option.some.inj (hr2.symm.trans hr')
      have sx8 := sD.trans s8
      obtain ⟨t, b, rfl, ht, as, hb, hE⟩ := hV
      have off : ∀ {c : Addr} {o : HO}, H4 c = some o → c ≠ D3 := fun {c o} h y => by
        have := sx8 _ _ h
        rw [y, nD3] at this
        cases this
      have sxx := sx8.trans sm
      refine ⟨t, _, rfl, Same.seqT sxx ht, rfl, _, _, rfl, _, _, rfl, rfl, rfl, _, rfl, rfl, _, rfl, ?_⟩
      rw [str_ex]
      cases e : r.1 with
      | false => exact iteF (qf (by rw [e]; rfl) _ (Same.refl _))
      | true => exact iteT ⟨_, rfl, qt _ _ r.2 (by rw [e]; rfl) (Same.refl _) ⟨b, as, rfl, off hb, sxx _ _ hb, hE.mono fun _ _ z => ⟨off z, z.same sxx⟩⟩⟩
    have hOR : A2 (ORow D3 G9) ys3 (exs rows) := hOR
    have shT := shaped_dTb (exs rows)
    have eqT := SeqAt.eqv_refl _ (SeqAt.canLay_of_shaped shT)
    have hEX9 := s9 _ _ hEX
    have hER9 : A2 (TRow EX G0 G9) eys (exs rows) := hER.mono fun _ _ z => z.up (sx s9)
    refine ⟨dTb (exs rows), dTb (exs rows), dp_tb hEX9 (hER9.mono fun _ _ z => z.rowL), dp_tb hD3 (hOR.mono fun _ _ ⟨b, as, e, _, hb, hr⟩ => ⟨b, e, as, hb, hr.mono fun _ _ z => z.2⟩), shT, shT, _, rfl, ?_⟩
    rw [eqT]
    refine iteF ?_
    have s09 := s8.trans s9
    refine ⟨.ref L, rfl, .ref p, rfl, dGr rows, dGr rows, dp_gr (gTC.lk (K46.lk s09)), dp_gr (hRC.lk (K46.lk s09)), shG, shG, _, rfl, ?_⟩
    rw [eqG]
    refine iteF ?_
    -- what was told is changed
    have lex : eys.length = (exs rows).length := hER9.len
    have lexs := exs_len rows
    have hM0 : A2 (MR G0 G9 13) eys (exs rows) := by
      have go : ∀ {ys : List V} {rr : Tb}, A2 (TRow EX G0 G9) ys rr → (∀ r ∈ rr, (0 < r.length ∧ r.length ≤ 16) ∧ ∀ e ∈ r, e.length ≤ 13) → A2 (MR G0 G9 13) ys rr := by
        intro ys rr h
        induction h with
        | nil => exact fun _ => .nil
        | @cons v r vs rs' h t ih =>
          intro f
          refine .cons ?_ (ih fun r hr2 => f r (List.mem_cons_of_mem _ hr2))
          obtain ⟨b, as, rfl, nb, hb, hE⟩ := h
          obtain ⟨⟨f1, f16⟩, f2⟩ := f r List.mem_cons_self
          have le := A2.len hE
          cases as with
          | nil =>
            have : r.length = 0 := le.symm
            omega
          | cons e0 as =>
            refine ⟨b, e0, as, rfl, hb, by rw [le]; exact f16, fun e he => ?_⟩
            obtain ⟨i, hi, rfl⟩ := List.getElem_of_mem he
            obtain ⟨ns, hns, nn, hI⟩ := A2.get hE (List.getElem?_eq_getElem hi)
            exact ⟨nn.2, ns, hI, f2 ns (mem_at hns)⟩
      refine go hER9 fun r hr2 => ?_
      obtain ⟨r0, h0, rfl⟩ := exs_mem hr2
      have v0 := vgR.2 r0 h0
      have lp : 0 < rows.length := List.length_pos_of_mem h0
      have := v0.1
      exact ⟨⟨by omega, by omega⟩, fun e he => (v0.2 e he).1⟩
    refine ⟨.ref EX, rfl, EX, rfl, ⟨_, .of hEX9⟩, ?_⟩
    refine for_it (walk_list (xs := eys)) (fun i σ G2 => Same G0 G2 ∧ G2 EX = some (.lst eys) ∧ A2 (MR G0 G2 (13 + 16 * i)) eys (exs rows) ∧ ∃ (v6 v8 : Option V), σ = [some (.ref a), some (.ref d), some (.ref um), some (.ref p), some (.str kept), some (.ref L), v6, none, v8, some (.ref D), some (.ref PW), some (.ref EX), none]) ⟨s09, hEX9, hM0, _, _, rfl⟩ (fun i σ G2 _ hP => .of hP.2.1) (fun i x σ G2 Gx hi hP y => ?_) (fun σ G2 hP => ?_)
    · obtain ⟨k2, hE2, hM2, v6, v8, rfl⟩ := hP
      obtain ⟨rfl, hxi⟩ := y
      obtain ⟨r0, hr0, b, e0, as, rfl, hb, h16, hE⟩ := hM2.get hxi
      refine ⟨.ref b, rfl, b, rfl, ⟨_, .of hb⟩, ?_⟩
      refine for_it (walk_list (xs := (e0 :: as).map V.ref)) (fun j σ G3 => Same G0 G3 ∧ G3 EX = some (.lst eys) ∧ A2 (MR G0 G3 (13 + 16 * i + j)) eys (exs rows) ∧ G3 b = some (.lst ((e0 :: as).map V.ref)) ∧ (∀ e ∈ e0 :: as, ER G0 G3 (13 + 16 * i + j) e) ∧ ∃ (v8 : Option V), σ = [some (.ref a), some (.ref d), some (.ref um), some (.ref p), some (.str kept), some (.ref L), some (.ref b), none, v8, some (.ref D), some (.ref PW), some (.ref EX), none]) ⟨k2, hE2, hM2, hb, hE, _, rfl⟩ (fun j σ G3 _ hP => .of hP.2.2.2.1) (fun j x σ G3 Gx2 hj hP y => ?_) (fun σ G3 hP => ?_)
      · obtain ⟨k3, hE3, hM3, hb3, hEr, v8, rfl⟩ := hP
        obtain ⟨rfl, hxj⟩ := y
        obtain ⟨e, he, rfl⟩ := row_ref hxj
        obtain ⟨h0, es, hI, hlen⟩ := hEr e (mem_at he)
        have hjl : j < 16 := by have := (List.getElem?_eq_some_iff.mp he).1; omega
        have hil : i < 16 := by omega
        have Ee : EX ≠ e := fun z => by
          rw [z] at hE3
          have e2 := hE3.symm.trans hI
          have e3 : eys = es.map V.int := by cases e2; rfl
          rw [e3] at hxi
          exact not_int hxi
        refine ⟨.ref e, rfl, .inl ⟨rfl, _, hI.sq⟩, e, _, _, rfl, rfl, hI, small' (by rw [List.length_map]; omega), ?_⟩
        exact ⟨same_over k3 h0, by rw [upd_ne Ee]; exact hE3, hM3.mono fun _ _ z => z.step hI hlen, by rw [upd_ne (not_refs (as := as.map V.ref) (x := e0) hb3 hI)]; exact hb3, fun e2 h2 => (hEr e2 h2).step hI hlen, _, rfl⟩
      · obtain ⟨k3, hE3, hM3, hb3, hEr, v8, rfl⟩ := hP
        exact ⟨k3, hE3, hM3.mono fun _ _ z => z.more (by rw [List.length_map]; omega), _, _, rfl⟩
    obtain ⟨k2, hE2, hM2, v6, v8, rfl⟩ := hP
    have hPW2 := k2 _ _ hPWC
    refine ⟨.ref PW, rfl, .inl ⟨rfl, _, .of hPW2⟩, PW, _, _, rfl, rfl, hPW2, small' (by omega), ?_⟩
    have kB : Same G1 (upd G2 PW (.lst (pys ++ [.int 1]))) := same_over (s7C.trans k2) nPW
    generalize upd G2 PW (.lst (pys ++ [.int 1])) = G3 at kB
    have kA := sB.trans kB
    have gT3 := gTB.lk (K46.lk kB)
    have hR3 := hR.lk (K46.lk kA)
    refine ⟨.ref L, rfl, .ref p, rfl, dGr rows, dGr rows, dp_gr gT3, dp_gr hR3, shG, shG, _, rfl, ?_⟩
    rw [eqG]
    refine iteF ?_
    refine ⟨.ref L, rfl, L, rows, many, rfl, gT3, vgR, hm, fun H11 PW2 pys2 s11 _ h11 hR11 => ?_⟩
    have hR11 : A2 (PRow PW2 H11) pys2 (pwsOf rows) := hR11
    refine ⟨.ref D, rfl, dPw (pwsOf rows), dPw (pwsOf rows), dp_pw h11 hR11, duP _ (kB.trans s11), shP, shP, _, rfl, ?_⟩
    rw [eqP]
    refine iteF ?_
    have kA11 := kA.trans s11
    refine ⟨.ref d, rfl, .ref p, rfl, .ref L, rfl, d, p, L, ds, rows, many, rfl, hd4.same kA11, hR.lk (K46.lk kA11), gT3.lk (K46.lk s11), vgR, hm, fun H12 s12 => ?_⟩
    refine ⟨_, rfl, iteF ?_⟩
    have kA12 := kA11.trans s12
    have s5_12 := ((sG.trans s6).trans kB).trans (s11.trans s12)
    have hL12 := s5_12 _ _ hL
    have lz := hZ.len
    have hB0 : A2 (BR L H4 H12 16) zs rows := by
      have go : ∀ {ys : List V} {rr : List Rw}, A2 (RFD L H4 H5) ys rr → (∀ r ∈ rr, r.2.length ≤ 16) → A2 (BR L H4 H12 16) ys rr := by
        intro ys rr h
        induction h with
        | nil => exact fun _ => .nil
        | @cons v r vs rs' h t ih =>
          intro f
          refine .cons ?_ (ih fun r hr2 => f r (List.mem_cons_of_mem _ hr2))
          obtain ⟨t, b, as, e, nt, nb, ht, hb, hE⟩ := h
          exact ⟨t, b, _, _, e, s5_12 _ _ ht, nb, s5_12 _ _ hb, by rw [List.length_map, A2.len hE]; exact f r List.mem_cons_self⟩
      exact go hZ fun r hr => by have := (vgR.2 r hr).1; omega
    refine ⟨.ref L, rfl, L, rfl, ⟨_, .of hL12⟩, ?_⟩
    refine for_it (walk_list (xs := zs)) (fun i σ G2 => Same H4 G2 ∧ G2 L = some (.lst zs) ∧ A2 (BR L H4 G2 (16 + i)) zs rows ∧ ∃ (v6 v7 v8 : Option V), σ = [some (.ref a), some (.ref d), some (.ref um), some (.ref p), some (.str kept), some (.ref L), v6, v7, v8, some (.ref D), some (.ref PW), some (.ref EX), none]) ⟨kA12, hL12, hB0, _, _, _, rfl⟩ (fun i σ G2 _ hP => .of hP.2.1) (fun i x σ G2 Gx hi hP y => ?_) (fun σ G2 hP => ?_)
    · obtain ⟨k4, hL4, hB4, v6, v7, v8, rfl⟩ := hP
      obtain ⟨rfl, hxi⟩ := y
      obtain ⟨r0, hr0, t, b, kk, ys, rfl, ht, nb, hb, hlen⟩ := hB4.get hxi
      refine ⟨t, _, rfl, .inl (.inl ht), rfl, _, _, rfl, _, _, rfl, rfl, ?_⟩
      refine ⟨.ref b, rfl, .inl ⟨rfl, _, .of hb⟩, by show 1 ≤ sizeLine; decide, fun l nl => ?_⟩
      have sl := same_upd nl (o := .lst [.int 7])
      refine ⟨b, _, _, rfl, rfl, sl _ _ hb, small' (by omega), ?_⟩
      exact ⟨same_over (k4.trans sl) nb.2, by rw [upd_ne nb.1.symm]; exact sl _ _ hL4, hB4.mono fun _ _ z => z.step nl hb hlen, _, _, _, rfl⟩
    obtain ⟨k4, hL4, hB4, v6, v7, v8, rfl⟩ := hP
    refine ⟨.ref um, rfl, um, qa, r, _, xs, rfl, Same.seqT k4 hum, .of (k4 _ _ hqa), SeqS k4 hxs, by omega, by omega, fun z => absurd (lx.trans lqs.symm) z, fun _ z => absurd z (by omega), fun _ _ => ⟨m, rows, rfl, hW.mono fun _ _ z => z.same k4, by rw [lx]; exact vm, by rw [lx]; exact vgR, by rw [lx]; exact hLR, fun H14 L2 zs2 s14 n14 h14 hZ14 => ?_⟩⟩
    have k14 := k4.trans s14
    refine ⟨.ref p, rfl, dGr rows, dGr rows, dp_gr ⟨zs2, h14, hZ14.mono fun _ _ z => z.row⟩, dp_gr (hR.lk (K46.lk k14)), shG, shG, true, congrArg V.bl eqG, iteT ?_⟩
    refine ⟨.ref um, rfl, um, dMd m, rfl, dpm _ k14, gD.sh, gd0, gDd, gDl, _, rfl, rfl, true, congrArg V.bl (by rw [hkept]; exact decide_eq_true rfl), iteT ?_⟩
    exact ⟨.ref d, rfl, .ref um, rfl, d, ds, _, m, many, rfl, hd4.same k14, hM.same k14, vm, hm, fun H' => q H'⟩
end
section
/-- the facts of the text, from what stands behind the top -/
theorem all_mk {l : PySem.W.OpenLaw} {w : World} {K : PySem.W.Frag} {h : Heap} {mg : Str → Option Value} {fa : Addr} (X : K.In h) (G : h.Ns mainGlobals mg) (hfa : mg "law" = some (.ref fa))
    {f0 : Addr} {od0 an0 : Option Addr} {sl0 : Array (Option Value)} {oc0 kV0 dc0 pm0 cd0 ct0 : Value}
    {f1 : Addr} {od1 an1 : Option Addr} {sl1 : Array (Option Value)} {oc1 kV1 dc1 pm1 cd1 ct1 : Value}
    {f2 : Addr} {od2 an2 : Option Addr} {sl2 : Array (Option Value)} {oc2 kV2 dc2 pm2 cd2 ct2 : Value}
    {f3 : Addr} {od3 an3 : Option Addr} {sl3 : Array (Option Value)} {oc3 kV3 dc3 pm3 cd3 ct3 : Value}
    {f4 : Addr} {od4 an4 : Option Addr} {sl4 : Array (Option Value)} {oc4 kV4 dc4 pm4 cd4 ct4 : Value}
    {f5 : Addr} {od5 an5 : Option Addr} {sl5 : Array (Option Value)} {oc5 kV5 dc5 pm5 cd5 ct5 : Value}
    {f6 : Addr} {od6 an6 : Option Addr} {sl6 : Array (Option Value)} {oc6 kV6 dc6 pm6 cd6 ct6 : Value}
    {f7 : Addr} {od7 an7 : Option Addr} {sl7 : Array (Option Value)} {oc7 kV7 dc7 pm7 cd7 ct7 : Value}
    {f8 : Addr} {od8 an8 : Option Addr} {sl8 : Array (Option Value)} {oc8 kV8 dc8 pm8 cd8 ct8 : Value}
    {f9 : Addr} {od9 an9 : Option Addr} {sl9 : Array (Option Value)} {oc9 kV9 dc9 pm9 cd9 ct9 : Value}
    {f10 : Addr} {od10 an10 : Option Addr} {sl10 : Array (Option Value)} {oc10 kV10 dc10 pm10 cd10 ct10 : Value}
    {f11 : Addr} {od11 an11 : Option Addr} {sl11 : Array (Option Value)} {oc11 kV11 dc11 pm11 cd11 ct11 : Value}
    {f12 : Addr} {od12 an12 : Option Addr} {sl12 : Array (Option Value)} {oc12 kV12 dc12 pm12 cd12 ct12 : Value}
    {f13 : Addr} {od13 an13 : Option Addr} {sl13 : Array (Option Value)} {oc13 kV13 dc13 pm13 cd13 ct13 : Value}
    {f14 : Addr} {od14 an14 : Option Addr} {sl14 : Array (Option Value)} {oc14 kV14 dc14 pm14 cd14 ct14 : Value}
    {f15 : Addr} {od15 an15 : Option Addr} {sl15 : Array (Option Value)} {oc15 kV15 dc15 pm15 cd15 ct15 : Value}
    {f16 : Addr} {od16 an16 : Option Addr} {sl16 : Array (Option Value)} {oc16 kV16 dc16 pm16 cd16 ct16 : Value}
    {f17 : Addr} {od17 an17 : Option Addr} {sl17 : Array (Option Value)} {oc17 kV17 dc17 pm17 cd17 ct17 : Value}
    {f18 : Addr} {od18 an18 : Option Addr} {sl18 : Array (Option Value)} {oc18 kV18 dc18 pm18 cd18 ct18 : Value}
    {f19 : Addr} {od19 an19 : Option Addr} {sl19 : Array (Option Value)} {oc19 kV19 dc19 pm19 cd19 ct19 : Value}
    {f20 : Addr} {od20 an20 : Option Addr} {sl20 : Array (Option Value)} {oc20 kV20 dc20 pm20 cd20 ct20 : Value}
    {f21 : Addr} {od21 an21 : Option Addr} {sl21 : Array (Option Value)} {oc21 kV21 dc21 pm21 cd21 ct21 : Value}
    {f22 : Addr} {od22 an22 : Option Addr} {sl22 : Array (Option Value)} {oc22 kV22 dc22 pm22 cd22 ct22 : Value}
    {f23 : Addr} {od23 an23 : Option Addr} {sl23 : Array (Option Value)} {oc23 kV23 dc23 pm23 cd23 ct23 : Value}
    {f24 : Addr} {od24 an24 : Option Addr} {sl24 : Array (Option Value)} {oc24 kV24 dc24 pm24 cd24 ct24 : Value}
    {f25 : Addr} {od25 an25 : Option Addr} {sl25 : Array (Option Value)} {oc25 kV25 dc25 pm25 cd25 ct25 : Value}
    {f26 : Addr} {od26 an26 : Option Addr} {sl26 : Array (Option Value)} {oc26 kV26 dc26 pm26 cd26 ct26 : Value}
    {f27 : Addr} {od27 an27 : Option Addr} {sl27 : Array (Option Value)} {oc27 kV27 dc27 pm27 cd27 ct27 : Value}
    {f28 : Addr} {od28 an28 : Option Addr} {sl28 : Array (Option Value)} {oc28 kV28 dc28 pm28 cd28 ct28 : Value}
    {f29 : Addr} {od29 an29 : Option Addr} {sl29 : Array (Option Value)} {oc29 kV29 dc29 pm29 cd29 ct29 : Value}
    {f30 : Addr} {od30 an30 : Option Addr} {sl30 : Array (Option Value)} {oc30 kV30 dc30 pm30 cd30 ct30 : Value}
    {f31 : Addr} {od31 an31 : Option Addr} {sl31 : Array (Option Value)} {oc31 kV31 dc31 pm31 cd31 ct31 : Value}
    {q_MOST_ROWS : Tok}
    {CM fI : Addr} {odI anI : Option Addr} {slI : Array (Option Value)} {ocI kVI dcI pmI cdI ctI : Value}
    {e0_C e0_N : Addr} {e0_nm e0_q e0_nk : Str} {e0_tk : Tok} {e0_bs : List Value} {e0_sn : List Str} {e0_sub : List Value} {e0_ab : Bool} {e0_col : Option Bool} {e0_dd : Option Addr} {e0_m0 e0_m1 e0_m3 e0_m5 : Option Value}
    {e1_C e1_N : Addr} {e1_nm e1_q e1_nk : Str} {e1_tk : Tok} {e1_bs : List Value} {e1_sn : List Str} {e1_sub : List Value} {e1_ab : Bool} {e1_col : Option Bool} {e1_dd : Option Addr} {e1_m0 e1_m1 e1_m3 e1_m5 : Option Value}
    {e2_C e2_N : Addr} {e2_nm e2_q e2_nk : Str} {e2_tk : Tok} {e2_bs : List Value} {e2_sn : List Str} {e2_sub : List Value} {e2_ab : Bool} {e2_col : Option Bool} {e2_dd : Option Addr} {e2_m0 e2_m1 e2_m3 e2_m5 : Option Value}
    {e3_C e3_N : Addr} {e3_nm e3_q e3_nk : Str} {e3_tk : Tok} {e3_bs : List Value} {e3_sn : List Str} {e3_sub : List Value} {e3_ab : Bool} {e3_col : Option Bool} {e3_dd : Option Addr} {e3_m0 e3_m1 e3_m3 e3_m5 : Option Value}
    (a0 : PySem.W.nsIn K mainGlobals "_wording" = some (some (.ref f0))) (l0 : K.lookup f0 = some ⟨oc0, od0, .func (PySem.W.fnOf "_wording" "_wording" (defArgs s_wording) (defBody s_wording) (defScope s_wording) .none kV0 dc0 pm0 an0 cd0 ct0), sl0⟩) (c0 : PySem.W.codeIn K cd0 "_wording" = true) (k0 : PySem.W.keepIn K (.ref f0) = true)
    (a1 : PySem.W.nsIn K mainGlobals "is_exact" = some (some (.ref f1))) (l1 : K.lookup f1 = some ⟨oc1, od1, .func (PySem.W.fnOf "is_exact" "is_exact" (defArgs s_is_exact) (defBody s_is_exact) (defScope s_is_exact) .none kV1 dc1 pm1 an1 cd1 ct1), sl1⟩) (c1 : PySem.W.codeIn K cd1 "is_exact" = true) (k1 : PySem.W.keepIn K (.ref f1) = true)
    (a2 : PySem.W.nsIn K mainGlobals "terms_of" = some (some (.ref f2))) (l2 : K.lookup f2 = some ⟨oc2, od2, .func (PySem.W.fnOf "terms_of" "terms_of" (defArgs s_terms_of) (defBody s_terms_of) (defScope s_terms_of) .none kV2 dc2 pm2 an2 cd2 ct2), sl2⟩) (c2 : PySem.W.codeIn K cd2 "terms_of" = true) (k2 : PySem.W.keepIn K (.ref f2) = true)
    (a3 : PySem.W.nsIn K mainGlobals "places_of" = some (some (.ref f3))) (l3 : K.lookup f3 = some ⟨oc3, od3, .func (PySem.W.fnOf "places_of" "places_of" (defArgs s_places_of) (defBody s_places_of) (defScope s_places_of) .none kV3 dc3 pm3 an3 cd3 ct3), sl3⟩) (c3 : PySem.W.codeIn K cd3 "places_of" = true) (k3 : PySem.W.keepIn K (.ref f3) = true)
    (a4 : PySem.W.nsIn K mainGlobals "_exact_row" = some (some (.ref f4))) (l4 : K.lookup f4 = some ⟨oc4, od4, .func (PySem.W.fnOf "_exact_row" "_exact_row" (defArgs s_exact_row) (defBody s_exact_row) (defScope s_exact_row) .none kV4 dc4 pm4 an4 cd4 ct4), sl4⟩) (c4 : PySem.W.codeIn K cd4 "_exact_row" = true) (k4 : PySem.W.keepIn K (.ref f4) = true)
    (a5 : PySem.W.nsIn K mainGlobals "exact_table" = some (some (.ref f5))) (l5 : K.lookup f5 = some ⟨oc5, od5, .func (PySem.W.fnOf "exact_table" "exact_table" (defArgs s_exact_table) (defBody s_exact_table) (defScope s_exact_table) .none kV5 dc5 pm5 an5 cd5 ct5), sl5⟩) (c5 : PySem.W.codeIn K cd5 "exact_table" = true) (k5 : PySem.W.keepIn K (.ref f5) = true)
    (a6 : PySem.W.nsIn K mainGlobals "orders_of" = some (some (.ref f6))) (l6 : K.lookup f6 = some ⟨oc6, od6, .func (PySem.W.fnOf "orders_of" "orders_of" (defArgs s_orders_of) (defBody s_orders_of) (defScope s_orders_of) .none kV6 dc6 pm6 an6 cd6 ct6), sl6⟩) (c6 : PySem.W.codeIn K cd6 "orders_of" = true) (k6 : PySem.W.keepIn K (.ref f6) = true)
    (a7 : PySem.W.nsIn K mainGlobals "grid_of" = some (some (.ref f7))) (l7 : K.lookup f7 = some ⟨oc7, od7, .func (PySem.W.fnOf "grid_of" "grid_of" (defArgs s_grid_of) (defBody s_grid_of) (defScope s_grid_of) .none kV7 dc7 pm7 an7 cd7 ct7), sl7⟩) (c7 : PySem.W.codeIn K cd7 "grid_of" = true) (k7 : PySem.W.keepIn K (.ref f7) = true)
    (a8 : PySem.W.nsIn K mainGlobals "exact_indexes" = some (some (.ref f8))) (l8 : K.lookup f8 = some ⟨oc8, od8, .func (PySem.W.fnOf "exact_indexes" "exact_indexes" (defArgs s_exact_indexes) (defBody s_exact_indexes) (defScope s_exact_indexes) .none kV8 dc8 pm8 an8 cd8 ct8), sl8⟩) (c8 : PySem.W.codeIn K cd8 "exact_indexes" = true) (k8 : PySem.W.keepIn K (.ref f8) = true)
    (a9 : PySem.W.nsIn K mainGlobals "copied" = some (some (.ref f9))) (l9 : K.lookup f9 = some ⟨oc9, od9, .func (PySem.W.fnOf "copied" "copied" (defArgs s_copied) (defBody s_copied) (defScope s_copied) .none kV9 dc9 pm9 an9 cd9 ct9), sl9⟩) (c9 : PySem.W.codeIn K cd9 "copied" = true) (k9 : PySem.W.keepIn K (.ref f9) = true)
    (a10 : PySem.W.nsIn K mainGlobals "with_exact" = some (some (.ref f10))) (l10 : K.lookup f10 = some ⟨oc10, od10, .func (PySem.W.fnOf "with_exact" "with_exact" (defArgs s_with_exact) (defBody s_with_exact) (defScope s_with_exact) .none kV10 dc10 pm10 an10 cd10 ct10), sl10⟩) (c10 : PySem.W.codeIn K cd10 "with_exact" = true) (k10 : PySem.W.keepIn K (.ref f10) = true)
    (a11 : PySem.W.nsIn K mainGlobals "power_of" = some (some (.ref f11))) (l11 : K.lookup f11 = some ⟨oc11, od11, .func (PySem.W.fnOf "power_of" "power_of" (defArgs s_power_of) (defBody s_power_of) (defScope s_power_of) .none kV11 dc11 pm11 an11 cd11 ct11), sl11⟩) (c11 : PySem.W.codeIn K cd11 "power_of" = true) (k11 : PySem.W.keepIn K (.ref f11) = true)
    (a12 : PySem.W.nsIn K mainGlobals "powers_of" = some (some (.ref f12))) (l12 : K.lookup f12 = some ⟨oc12, od12, .func (PySem.W.fnOf "powers_of" "powers_of" (defArgs s_powers_of) (defBody s_powers_of) (defScope s_powers_of) .none kV12 dc12 pm12 an12 cd12 ct12), sl12⟩) (c12 : PySem.W.codeIn K cd12 "powers_of" = true) (k12 : PySem.W.keepIn K (.ref f12) = true)
    (a13 : PySem.W.nsIn K mainGlobals "without" = some (some (.ref f13))) (l13 : K.lookup f13 = some ⟨oc13, od13, .func (PySem.W.fnOf "without" "without" (defArgs s_without) (defBody s_without) (defScope s_without) .none kV13 dc13 pm13 an13 cd13 ct13), sl13⟩) (c13 : PySem.W.codeIn K cd13 "without" = true) (k13 : PySem.W.keepIn K (.ref f13) = true)
    (a14 : PySem.W.nsIn K mainGlobals "exact_rows" = some (some (.ref f14))) (l14 : K.lookup f14 = some ⟨oc14, od14, .func (PySem.W.fnOf "exact_rows" "exact_rows" (defArgs s_exact_rows) (defBody s_exact_rows) (defScope s_exact_rows) .none kV14 dc14 pm14 an14 cd14 ct14), sl14⟩) (c14 : PySem.W.codeIn K cd14 "exact_rows" = true) (k14 : PySem.W.keepIn K (.ref f14) = true)
    (a15 : PySem.W.nsIn K mainGlobals "_law_draws" = some (some (.ref f15))) (l15 : K.lookup f15 = some ⟨oc15, od15, .func (PySem.W.fnOf "_law_draws" "_law_draws" (defArgs s_law_draws) (defBody s_law_draws) (defScope s_law_draws) .none kV15 dc15 pm15 an15 cd15 ct15), sl15⟩) (c15 : PySem.W.codeIn K cd15 "_law_draws" = true) (k15 : PySem.W.keepIn K (.ref f15) = true)
    (a16 : PySem.W.nsIn K mainGlobals "_law_mix" = some (some (.ref f16))) (l16 : K.lookup f16 = some ⟨oc16, od16, .func (PySem.W.fnOf "_law_mix" "_law_mix" (defArgs s_law_mix) (defBody s_law_mix) (defScope s_law_mix) .none kV16 dc16 pm16 an16 cd16 ct16), sl16⟩) (c16 : PySem.W.codeIn K cd16 "_law_mix" = true) (k16 : PySem.W.keepIn K (.ref f16) = true)
    (a17 : PySem.W.nsIn K mainGlobals "_law_trimmed" = some (some (.ref f17))) (l17 : K.lookup f17 = some ⟨oc17, od17, .func (PySem.W.fnOf "_law_trimmed" "_law_trimmed" (defArgs s_law_trimmed) (defBody s_law_trimmed) (defScope s_law_trimmed) .none kV17 dc17 pm17 an17 cd17 ct17), sl17⟩) (c17 : PySem.W.codeIn K cd17 "_law_trimmed" = true) (k17 : PySem.W.keepIn K (.ref f17) = true)
    (a18 : PySem.W.nsIn K mainGlobals "_law_number" = some (some (.ref f18))) (l18 : K.lookup f18 = some ⟨oc18, od18, .func (PySem.W.fnOf "_law_number" "_law_number" (defArgs s_law_number) (defBody s_law_number) (defScope s_law_number) .none kV18 dc18 pm18 an18 cd18 ct18), sl18⟩) (c18 : PySem.W.codeIn K cd18 "_law_number" = true) (k18 : PySem.W.keepIn K (.ref f18) = true)
    (a19 : PySem.W.nsIn K mainGlobals "_law_element" = some (some (.ref f19))) (l19 : K.lookup f19 = some ⟨oc19, od19, .func (PySem.W.fnOf "_law_element" "_law_element" (defArgs s_law_element) (defBody s_law_element) (defScope s_law_element) .none kV19 dc19 pm19 an19 cd19 ct19), sl19⟩) (c19 : PySem.W.codeIn K cd19 "_law_element" = true) (k19 : PySem.W.keepIn K (.ref f19) = true)
    (a20 : PySem.W.nsIn K mainGlobals "_law_likely" = some (some (.ref f20))) (l20 : K.lookup f20 = some ⟨oc20, od20, .func (PySem.W.fnOf "_law_likely" "_law_likely" (defArgs s_law_likely) (defBody s_law_likely) (defScope s_law_likely) .none kV20 dc20 pm20 an20 cd20 ct20), sl20⟩) (c20 : PySem.W.codeIn K cd20 "_law_likely" = true) (k20 : PySem.W.keepIn K (.ref f20) = true)
    (a21 : PySem.W.nsIn K mainGlobals "_law_orders" = some (some (.ref f21))) (l21 : K.lookup f21 = some ⟨oc21, od21, .func (PySem.W.fnOf "_law_orders" "_law_orders" (defArgs s_law_orders) (defBody s_law_orders) (defScope s_law_orders) .none kV21 dc21 pm21 an21 cd21 ct21), sl21⟩) (c21 : PySem.W.codeIn K cd21 "_law_orders" = true) (k21 : PySem.W.keepIn K (.ref f21) = true)
    (a22 : PySem.W.nsIn K mainGlobals "_law_grid" = some (some (.ref f22))) (l22 : K.lookup f22 = some ⟨oc22, od22, .func (PySem.W.fnOf "_law_grid" "_law_grid" (defArgs s_law_grid) (defBody s_law_grid) (defScope s_law_grid) .none kV22 dc22 pm22 an22 cd22 ct22), sl22⟩) (c22 : PySem.W.codeIn K cd22 "_law_grid" = true) (k22 : PySem.W.keepIn K (.ref f22) = true)
    (a23 : PySem.W.nsIn K mainGlobals "_law_places" = some (some (.ref f23))) (l23 : K.lookup f23 = some ⟨oc23, od23, .func (PySem.W.fnOf "_law_places" "_law_places" (defArgs s_law_places) (defBody s_law_places) (defScope s_law_places) .none kV23 dc23 pm23 an23 cd23 ct23), sl23⟩) (c23 : PySem.W.codeIn K cd23 "_law_places" = true) (k23 : PySem.W.keepIn K (.ref f23) = true)
    (a24 : PySem.W.nsIn K mainGlobals "_law_terms" = some (some (.ref f24))) (l24 : K.lookup f24 = some ⟨oc24, od24, .func (PySem.W.fnOf "_law_terms" "_law_terms" (defArgs s_law_terms) (defBody s_law_terms) (defScope s_law_terms) .none kV24 dc24 pm24 an24 cd24 ct24), sl24⟩) (c24 : PySem.W.codeIn K cd24 "_law_terms" = true) (k24 : PySem.W.keepIn K (.ref f24) = true)
    (a25 : PySem.W.nsIn K mainGlobals "_law_model" = some (some (.ref f25))) (l25 : K.lookup f25 = some ⟨oc25, od25, .func (PySem.W.fnOf "_law_model" "_law_model" (defArgs s_law_model) (defBody s_law_model) (defScope s_law_model) .none kV25 dc25 pm25 an25 cd25 ct25), sl25⟩) (c25 : PySem.W.codeIn K cd25 "_law_model" = true) (k25 : PySem.W.keepIn K (.ref f25) = true)
    (a26 : PySem.W.nsIn K mainGlobals "_law_is_integer" = some (some (.ref f26))) (l26 : K.lookup f26 = some ⟨oc26, od26, .func (PySem.W.fnOf "_law_is_integer" "_law_is_integer" (defArgs s_law_is_integer) (defBody s_law_is_integer) (defScope s_law_is_integer) .none kV26 dc26 pm26 an26 cd26 ct26), sl26⟩) (c26 : PySem.W.codeIn K cd26 "_law_is_integer" = true) (k26 : PySem.W.keepIn K (.ref f26) = true)
    (a27 : PySem.W.nsIn K mainGlobals "_law_refused" = some (some (.ref f27))) (l27 : K.lookup f27 = some ⟨oc27, od27, .func (PySem.W.fnOf "_law_refused" "_law_refused" (defArgs s_law_refused) (defBody s_law_refused) (defScope s_law_refused) .none kV27 dc27 pm27 an27 cd27 ct27), sl27⟩) (c27 : PySem.W.codeIn K cd27 "_law_refused" = true) (k27 : PySem.W.keepIn K (.ref f27) = true)
    (a28 : PySem.W.nsIn K mainGlobals "_law_power" = some (some (.ref f28))) (l28 : K.lookup f28 = some ⟨oc28, od28, .func (PySem.W.fnOf "_law_power" "_law_power" (defArgs s_law_power) (defBody s_law_power) (defScope s_law_power) .none kV28 dc28 pm28 an28 cd28 ct28), sl28⟩) (c28 : PySem.W.codeIn K cd28 "_law_power" = true) (k28 : PySem.W.keepIn K (.ref f28) = true)
    (a29 : PySem.W.nsIn K mainGlobals "_law_bad" = some (some (.ref f29))) (l29 : K.lookup f29 = some ⟨oc29, od29, .func (PySem.W.fnOf "_law_bad" "_law_bad" (defArgs s_law_bad) (defBody s_law_bad) (defScope s_law_bad) .none kV29 dc29 pm29 an29 cd29 ct29), sl29⟩) (c29 : PySem.W.codeIn K cd29 "_law_bad" = true) (k29 : PySem.W.keepIn K (.ref f29) = true)
    (a30 : PySem.W.nsIn K mainGlobals "_law_left" = some (some (.ref f30))) (l30 : K.lookup f30 = some ⟨oc30, od30, .func (PySem.W.fnOf "_law_left" "_law_left" (defArgs s_law_left) (defBody s_law_left) (defScope s_law_left) .none kV30 dc30 pm30 an30 cd30 ct30), sl30⟩) (c30 : PySem.W.codeIn K cd30 "_law_left" = true) (k30 : PySem.W.keepIn K (.ref f30) = true)
    (a31 : PySem.W.nsIn K mainGlobals "law" = some (some (.ref f31))) (l31 : K.lookup f31 = some ⟨oc31, od31, .func (PySem.W.fnOf "law" "law" (defArgs s_law) (defBody s_law) (defScope s_law) .none kV31 dc31 pm31 an31 cd31 ct31), sl31⟩) (c31 : PySem.W.codeIn K cd31 "law" = true) (k31 : PySem.W.keepIn K (.ref f31) = true)
    (z_abs : PySem.W.nsIn K mainGlobals "abs" = some none)
    (z_bool : PySem.W.nsIn K mainGlobals "bool" = some none)
    (z_enumerate : PySem.W.nsIn K mainGlobals "enumerate" = some none)
    (z_int : PySem.W.nsIn K mainGlobals "int" = some none)
    (z_isinstance : PySem.W.nsIn K mainGlobals "isinstance" = some none)
    (z_len : PySem.W.nsIn K mainGlobals "len" = some none)
    (z_list : PySem.W.nsIn K mainGlobals "list" = some none)
    (z_max : PySem.W.nsIn K mainGlobals "max" = some none)
    (z_min : PySem.W.nsIn K mainGlobals "min" = some none)
    (z_range : PySem.W.nsIn K mainGlobals "range" = some none)
    (z_repr : PySem.W.nsIn K mainGlobals "repr" = some none)
    (z_sorted : PySem.W.nsIn K mainGlobals "sorted" = some none)
    (z_str : PySem.W.nsIn K mainGlobals "str" = some none)
    (z_sum : PySem.W.nsIn K mainGlobals "sum" = some none)
    (z_tuple : PySem.W.nsIn K mainGlobals "tuple" = some none)
    (z_zip : PySem.W.nsIn K mainGlobals "zip" = some none)
    (w_MOST_ROWS : PySem.W.nsIn K mainGlobals "MOST_ROWS" = some (some (.int 16 q_MOST_ROWS)))
    (aM : PySem.W.nsIn K mainGlobals "ModelError" = some (some (.ref CM)))
    (zV : PySem.W.nsIn K mainGlobals "ValueError" = some none)
    (vV : PySem.W.findCls K (.type "ValueError") (.type "type") "__init__" = some (.val (.builtin "ValueError.__init__")))
    (iM : PySem.W.isClsIn K CM = true)
    (tM : PySem.W.typeIn K (.ref CM) = some (.type "type"))
    (bM : PySem.W.subIn K (.ref CM) (.type "BaseException") = some true)
    (iI : PySem.W.findIn K (.ref CM) "__init__" = some (some (.ref fI)))
    (lI : K.lookup fI = some ⟨ocI, odI, .func (PySem.W.fnOf "__init__" "ModelError.__init__" (defArgs s_init) (defBody s_init) (defScope s_init) .none kVI dcI pmI anI cdI ctI), slI⟩)
    (cI : PySem.W.codeIn K cdI "ModelError.__init__" = true)
    (kI : PySem.W.keepIn K (.ref fI) = true)
    (tI : PySem.W.typeIn K (.ref fI) = some (.type "function"))
    (xsp : PySem.W.specialIn K (.builtin "object.__class__") "__get__" = some (some (.builtin "getset_descriptor.__get__")))
    (xtk : PySem.W.takesIn K (.builtin "object.__class__") = some true)
    (e0_a : PySem.W.nsIn K mainGlobals "NotSquare" = some (some (.ref e0_C)))
    (e0_x : K.lookup e0_C = some (excClassObj e0_nm e0_q e0_C e0_N e0_bs [.ref CM, .type "ValueError", .type "Exception", .type "BaseException", .type "object"] true e0_sn e0_sub e0_ab e0_col e0_dd e0_m0 e0_m1 (some (.str e0_nk e0_tk)) e0_m3 e0_m5 "ValueError.__new__"))
    (e0_sz : e0_nk.length ≤ 1000)
    (e0_sa : PySem.W.findIn K (.ref e0_C) "__setattr__" = some (some (.builtin "object.__setattr__")))
    (e0_ga : PySem.W.findIn K (.ref e0_C) "__getattribute__" = some (some (.builtin "BaseException.__getattribute__")))
    (e0_gg : PySem.W.findIn K (.ref e0_C) "__getattr__" = some none)
    (e0_no : PySem.W.findIn K (.ref e0_C) "at" = some none)
    (e0_in : PySem.W.findIn K (.ref e0_C) "__init__" = some (some (.ref fI)))
    (e0_be : PySem.W.subIn K (.ref e0_C) (.type "BaseException") = some true)
    (e0_ty : PySem.W.typeIn K (.ref e0_C) = some (.type "type"))
    (e0_ke : PySem.W.keepIn K (.ref e0_C) = true)
    (e0_hd : PySem.W.hasDictIn K e0_C = true)
    (e0_cl : PySem.W.isClsIn K e0_C = true)
    (e0_at : PySem.W.findIn K (.ref e0_C) "__class__" = some (some (.builtin "object.__class__")))
    (e0_mr : PySem.W.mroIn K e0_C (.type "object") = some true)
    (e0_rd : PySem.W.readsIn K e0_C (.type "type") = true)
    (e0_fc : PySem.W.findCls K (.ref e0_C) (.type "type") "__name__" = some (.get (.builtin "getset_descriptor.__get__") (.builtin "type.__name__") (.ref e0_C) (.type "type")))
    (e0_sM : PySem.W.subIn K (.ref e0_C) (.ref CM) = some true)
    (e1_a : PySem.W.nsIn K mainGlobals "TooLarge" = some (some (.ref e1_C)))
    (e1_x : K.lookup e1_C = some (excClassObj e1_nm e1_q e1_C e1_N e1_bs [.ref CM, .type "ValueError", .type "Exception", .type "BaseException", .type "object"] true e1_sn e1_sub e1_ab e1_col e1_dd e1_m0 e1_m1 (some (.str e1_nk e1_tk)) e1_m3 e1_m5 "ValueError.__new__"))
    (e1_sz : e1_nk.length ≤ 1000)
    (e1_sa : PySem.W.findIn K (.ref e1_C) "__setattr__" = some (some (.builtin "object.__setattr__")))
    (e1_ga : PySem.W.findIn K (.ref e1_C) "__getattribute__" = some (some (.builtin "BaseException.__getattribute__")))
    (e1_gg : PySem.W.findIn K (.ref e1_C) "__getattr__" = some none)
    (e1_no : PySem.W.findIn K (.ref e1_C) "at" = some none)
    (e1_in : PySem.W.findIn K (.ref e1_C) "__init__" = some (some (.ref fI)))
    (e1_be : PySem.W.subIn K (.ref e1_C) (.type "BaseException") = some true)
    (e1_ty : PySem.W.typeIn K (.ref e1_C) = some (.type "type"))
    (e1_ke : PySem.W.keepIn K (.ref e1_C) = true)
    (e1_hd : PySem.W.hasDictIn K e1_C = true)
    (e1_cl : PySem.W.isClsIn K e1_C = true)
    (e1_at : PySem.W.findIn K (.ref e1_C) "__class__" = some (some (.builtin "object.__class__")))
    (e1_mr : PySem.W.mroIn K e1_C (.type "object") = some true)
    (e1_rd : PySem.W.readsIn K e1_C (.type "type") = true)
    (e1_fc : PySem.W.findCls K (.ref e1_C) (.type "type") "__name__" = some (.get (.builtin "getset_descriptor.__get__") (.builtin "type.__name__") (.ref e1_C) (.type "type")))
    (e1_sM : PySem.W.subIn K (.ref e1_C) (.ref CM) = some true)
    (e2_a : PySem.W.nsIn K mainGlobals "NoLaw" = some (some (.ref e2_C)))
    (e2_x : K.lookup e2_C = some (excClassObj e2_nm e2_q e2_C e2_N e2_bs [.ref CM, .type "ValueError", .type "Exception", .type "BaseException", .type "object"] true e2_sn e2_sub e2_ab e2_col e2_dd e2_m0 e2_m1 (some (.str e2_nk e2_tk)) e2_m3 e2_m5 "ValueError.__new__"))
    (e2_sz : e2_nk.length ≤ 1000)
    (e2_sa : PySem.W.findIn K (.ref e2_C) "__setattr__" = some (some (.builtin "object.__setattr__")))
    (e2_ga : PySem.W.findIn K (.ref e2_C) "__getattribute__" = some (some (.builtin "BaseException.__getattribute__")))
    (e2_gg : PySem.W.findIn K (.ref e2_C) "__getattr__" = some none)
    (e2_no : PySem.W.findIn K (.ref e2_C) "at" = some none)
    (e2_in : PySem.W.findIn K (.ref e2_C) "__init__" = some (some (.ref fI)))
    (e2_be : PySem.W.subIn K (.ref e2_C) (.type "BaseException") = some true)
    (e2_ty : PySem.W.typeIn K (.ref e2_C) = some (.type "type"))
    (e2_ke : PySem.W.keepIn K (.ref e2_C) = true)
    (e2_hd : PySem.W.hasDictIn K e2_C = true)
    (e2_cl : PySem.W.isClsIn K e2_C = true)
    (e2_at : PySem.W.findIn K (.ref e2_C) "__class__" = some (some (.builtin "object.__class__")))
    (e2_mr : PySem.W.mroIn K e2_C (.type "object") = some true)
    (e2_rd : PySem.W.readsIn K e2_C (.type "type") = true)
    (e2_fc : PySem.W.findCls K (.ref e2_C) (.type "type") "__name__" = some (.get (.builtin "getset_descriptor.__get__") (.builtin "type.__name__") (.ref e2_C) (.type "type")))
    (e2_sM : PySem.W.subIn K (.ref e2_C) (.ref CM) = some true)
    (e3_a : PySem.W.nsIn K mainGlobals "NoQuantity" = some (some (.ref e3_C)))
    (e3_x : K.lookup e3_C = some (excClassObj e3_nm e3_q e3_C e3_N e3_bs [.ref CM, .type "ValueError", .type "Exception", .type "BaseException", .type "object"] true e3_sn e3_sub e3_ab e3_col e3_dd e3_m0 e3_m1 (some (.str e3_nk e3_tk)) e3_m3 e3_m5 "ValueError.__new__"))
    (e3_sz : e3_nk.length ≤ 1000)
    (e3_sa : PySem.W.findIn K (.ref e3_C) "__setattr__" = some (some (.builtin "object.__setattr__")))
    (e3_ga : PySem.W.findIn K (.ref e3_C) "__getattribute__" = some (some (.builtin "BaseException.__getattribute__")))
    (e3_gg : PySem.W.findIn K (.ref e3_C) "__getattr__" = some none)
    (e3_no : PySem.W.findIn K (.ref e3_C) "at" = some none)
    (e3_in : PySem.W.findIn K (.ref e3_C) "__init__" = some (some (.ref fI)))
    (e3_be : PySem.W.subIn K (.ref e3_C) (.type "BaseException") = some true)
    (e3_ty : PySem.W.typeIn K (.ref e3_C) = some (.type "type"))
    (e3_ke : PySem.W.keepIn K (.ref e3_C) = true)
    (e3_hd : PySem.W.hasDictIn K e3_C = true)
    (e3_cl : PySem.W.isClsIn K e3_C = true)
    (e3_at : PySem.W.findIn K (.ref e3_C) "__class__" = some (some (.builtin "object.__class__")))
    (e3_mr : PySem.W.mroIn K e3_C (.type "object") = some true)
    (e3_rd : PySem.W.readsIn K e3_C (.type "type") = true)
    (e3_fc : PySem.W.findCls K (.ref e3_C) (.type "type") "__name__" = some (.get (.builtin "getset_descriptor.__get__") (.builtin "type.__name__") (.ref e3_C) (.type "type")))
    (e3_sM : PySem.W.subIn K (.ref e3_C) (.ref CM) = some true)
    (kp0_1 : PySem.W.kitOne K (.ref e0_C) (.ref e1_C) = some false)
    (kp0_2 : PySem.W.kitOne K (.ref e0_C) (.ref e2_C) = some false)
    (kp0_3 : PySem.W.kitOne K (.ref e0_C) (.ref e3_C) = some false)
    (kp1_0 : PySem.W.kitOne K (.ref e1_C) (.ref e0_C) = some false)
    (kp1_2 : PySem.W.kitOne K (.ref e1_C) (.ref e2_C) = some false)
    (kp1_3 : PySem.W.kitOne K (.ref e1_C) (.ref e3_C) = some false)
    (kp2_0 : PySem.W.kitOne K (.ref e2_C) (.ref e0_C) = some false)
    (kp2_1 : PySem.W.kitOne K (.ref e2_C) (.ref e1_C) = some false)
    (kp2_3 : PySem.W.kitOne K (.ref e2_C) (.ref e3_C) = some false)
    (kp3_0 : PySem.W.kitOne K (.ref e3_C) (.ref e0_C) = some false)
    (kp3_1 : PySem.W.kitOne K (.ref e3_C) (.ref e1_C) = some false)
    (kp3_2 : PySem.W.kitOne K (.ref e3_C) (.ref e2_C) = some false)
    : ∃ fd : FuncData, (∀ (s : Shared) (v : Value), BindsTo s fd ⟨[v], []⟩ [("script", v)]) ∧ ∀ base : Heap, K.In base → base.Ns mainGlobals mg → LG.FnG l.prog w K mg base CX0 9 fa fd ["script"] (sp_law K) := by
  have e := hfa.symm.trans (PySem.W.mg_of X G a31)
  cases e
  let T : Txt K mg := {
    wording := ⟨_, _, fun_mk (st := s_wording) l0 c0 k0, (fun_mk (st := s_wording) l0 c0 k0).binds (ps := ["name", "at"]) (fun _ _ _ _ _ _ us hl => match us, hl with | [_, _], _ => rfl), PySem.W.mg_of X G a0⟩
    is_exact := ⟨_, _, fun_mk (st := s_is_exact) l1 c1 k1, (fun_mk (st := s_is_exact) l1 c1 k1).binds (ps := ["told"]) (fun _ _ _ _ _ _ us hl => match us, hl with | [_], _ => rfl), PySem.W.mg_of X G a1⟩
    terms_of := ⟨_, _, fun_mk (st := s_terms_of) l2 c2 k2, (fun_mk (st := s_terms_of) l2 c2 k2).binds (ps := ["told"]) (fun _ _ _ _ _ _ us hl => match us, hl with | [_], _ => rfl), PySem.W.mg_of X G a2⟩
    places_of := ⟨_, _, fun_mk (st := s_places_of) l3 c3 k3, (fun_mk (st := s_places_of) l3 c3 k3).binds (ps := ["told"]) (fun _ _ _ _ _ _ us hl => match us, hl with | [_], _ => rfl), PySem.W.mg_of X G a3⟩
    exact_row := ⟨_, _, fun_mk (st := s_exact_row) l4 c4 k4, (fun_mk (st := s_exact_row) l4 c4 k4).binds (ps := ["told", "many"]) (fun _ _ _ _ _ _ us hl => match us, hl with | [_, _], _ => rfl), PySem.W.mg_of X G a4⟩
    exact_table := ⟨_, _, fun_mk (st := s_exact_table) l5 c5 k5, (fun_mk (st := s_exact_table) l5 c5 k5).binds (ps := ["model"]) (fun _ _ _ _ _ _ us hl => match us, hl with | [_], _ => rfl), PySem.W.mg_of X G a5⟩
    orders_of := ⟨_, _, fun_mk (st := s_orders_of) l6 c6 k6, (fun_mk (st := s_orders_of) l6 c6 k6).binds (ps := ["told", "many"]) (fun _ _ _ _ _ _ us hl => match us, hl with | [_, _], _ => rfl), PySem.W.mg_of X G a6⟩
    grid_of := ⟨_, _, fun_mk (st := s_grid_of) l7 c7 k7, (fun_mk (st := s_grid_of) l7 c7 k7).binds (ps := ["model"]) (fun _ _ _ _ _ _ us hl => match us, hl with | [_], _ => rfl), PySem.W.mg_of X G a7⟩
    exact_indexes := ⟨_, _, fun_mk (st := s_exact_indexes) l8 c8 k8, (fun_mk (st := s_exact_indexes) l8 c8 k8).binds (ps := ["grid"]) (fun _ _ _ _ _ _ us hl => match us, hl with | [_], _ => rfl), PySem.W.mg_of X G a8⟩
    copied := ⟨_, _, fun_mk (st := s_copied) l9 c9 k9, (fun_mk (st := s_copied) l9 c9 k9).binds (ps := ["told"]) (fun _ _ _ _ _ _ us hl => match us, hl with | [_], _ => rfl), PySem.W.mg_of X G a9⟩
    with_exact := ⟨_, _, fun_mk (st := s_with_exact) l10 c10 k10, (fun_mk (st := s_with_exact) l10 c10 k10).binds (ps := ["grid", "table"]) (fun _ _ _ _ _ _ us hl => match us, hl with | [_, _], _ => rfl), PySem.W.mg_of X G a10⟩
    power_of := ⟨_, _, fun_mk (st := s_power_of) l11 c11 k11, (fun_mk (st := s_power_of) l11 c11 k11).binds (ps := ["told", "j"]) (fun _ _ _ _ _ _ us hl => match us, hl with | [_, _], _ => rfl), PySem.W.mg_of X G a11⟩
    powers_of := ⟨_, _, fun_mk (st := s_powers_of) l12 c12 k12, (fun_mk (st := s_powers_of) l12 c12 k12).binds (ps := ["grid"]) (fun _ _ _ _ _ _ us hl => match us, hl with | [_], _ => rfl), PySem.W.mg_of X G a12⟩
    without := ⟨_, _, fun_mk (st := s_without) l13 c13 k13, (fun_mk (st := s_without) l13 c13 k13).binds (ps := ["grid", "i", "j"]) (fun _ _ _ _ _ _ us hl => match us, hl with | [_, _, _], _ => rfl), PySem.W.mg_of X G a13⟩
    exact_rows := ⟨_, _, fun_mk (st := s_exact_rows) l14 c14 k14, (fun_mk (st := s_exact_rows) l14 c14 k14).binds (ps := ["grid"]) (fun _ _ _ _ _ _ us hl => match us, hl with | [_], _ => rfl), PySem.W.mg_of X G a14⟩
    law_draws := ⟨_, _, fun_mk (st := s_law_draws) l15 c15 k15, (fun_mk (st := s_law_draws) l15 c15 k15).binds (ps := ["script"]) (fun _ _ _ _ _ _ us hl => match us, hl with | [_], _ => rfl), PySem.W.mg_of X G a15⟩
    law_mix := ⟨_, _, fun_mk (st := s_law_mix) l16 c16 k16, (fun_mk (st := s_law_mix) l16 c16 k16).binds (ps := ["draws", "k", "many"]) (fun _ _ _ _ _ _ us hl => match us, hl with | [_, _, _], _ => rfl), PySem.W.mg_of X G a16⟩
    law_trimmed := ⟨_, _, fun_mk (st := s_law_trimmed) l17 c17 k17, (fun_mk (st := s_law_trimmed) l17 c17 k17).binds (ps := ["numbers"]) (fun _ _ _ _ _ _ us hl => match us, hl with | [_], _ => rfl), PySem.W.mg_of X G a17⟩
    law_number := ⟨_, _, fun_mk (st := s_law_number) l18 c18 k18, (fun_mk (st := s_law_number) l18 c18 k18).binds (ps := ["draws", "k"]) (fun _ _ _ _ _ _ us hl => match us, hl with | [_, _], _ => rfl), PySem.W.mg_of X G a18⟩
    law_element := ⟨_, _, fun_mk (st := s_law_element) l19 c19 k19, (fun_mk (st := s_law_element) l19 c19 k19).binds (ps := ["draws", "k", "shares"]) (fun _ _ _ _ _ _ us hl => match us, hl with | [_, _, _], _ => rfl), PySem.W.mg_of X G a19⟩
    law_likely := ⟨_, _, fun_mk (st := s_law_likely) l20 c20 k20, (fun_mk (st := s_law_likely) l20 c20 k20).binds (ps := ["draws", "k", "row"]) (fun _ _ _ _ _ _ us hl => match us, hl with | [_, _, _], _ => rfl), PySem.W.mg_of X G a20⟩
    law_orders := ⟨_, _, fun_mk (st := s_law_orders) l21 c21 k21, (fun_mk (st := s_law_orders) l21 c21 k21).binds (ps := ["draws", "k", "shares"]) (fun _ _ _ _ _ _ us hl => match us, hl with | [_, _, _], _ => rfl), PySem.W.mg_of X G a21⟩
    law_grid := ⟨_, _, fun_mk (st := s_law_grid) l22 c22 k22, (fun_mk (st := s_law_grid) l22 c22 k22).binds (ps := ["draws", "k", "many"]) (fun _ _ _ _ _ _ us hl => match us, hl with | [_, _, _], _ => rfl), PySem.W.mg_of X G a22⟩
    law_places := ⟨_, _, fun_mk (st := s_law_places) l23 c23 k23, (fun_mk (st := s_law_places) l23 c23 k23).binds (ps := ["row"]) (fun _ _ _ _ _ _ us hl => match us, hl with | [_], _ => rfl), PySem.W.mg_of X G a23⟩
    law_terms := ⟨_, _, fun_mk (st := s_law_terms) l24 c24 k24, (fun_mk (st := s_law_terms) l24 c24 k24).binds (ps := ["row"]) (fun _ _ _ _ _ _ us hl => match us, hl with | [_], _ => rfl), PySem.W.mg_of X G a24⟩
    law_model := ⟨_, _, fun_mk (st := s_law_model) l25 c25 k25, (fun_mk (st := s_law_model) l25 c25 k25).binds (ps := ["draws", "k", "grid"]) (fun _ _ _ _ _ _ us hl => match us, hl with | [_, _, _], _ => rfl), PySem.W.mg_of X G a25⟩
    law_is_integer := ⟨_, _, fun_mk (st := s_law_is_integer) l26 c26 k26, (fun_mk (st := s_law_is_integer) l26 c26 k26).binds (ps := ["actual"]) (fun _ _ _ _ _ _ us hl => match us, hl with | [_], _ => rfl), PySem.W.mg_of X G a26⟩
    law_refused := ⟨_, _, fun_mk (st := s_law_refused) l27 c27 k27, (fun_mk (st := s_law_refused) l27 c27 k27).binds (ps := ["way", "grid", "i", "j"]) (fun _ _ _ _ _ _ us hl => match us, hl with | [_, _, _, _], _ => rfl), PySem.W.mg_of X G a27⟩
    law_power := ⟨_, _, fun_mk (st := s_law_power) l28 c28 k28, (fun_mk (st := s_law_power) l28 c28 k28).binds (ps := ["kind", "element"]) (fun _ _ _ _ _ _ us hl => match us, hl with | [_, _], _ => rfl), PySem.W.mg_of X G a28⟩
    law_bad := ⟨_, _, fun_mk (st := s_law_bad) l29 c29 k29, (fun_mk (st := s_law_bad) l29 c29 k29).binds (ps := ["draws", "model"]) (fun _ _ _ _ _ _ us hl => match us, hl with | [_, _], _ => rfl), PySem.W.mg_of X G a29⟩
    law_left := ⟨_, _, fun_mk (st := s_law_left) l30 c30 k30, (fun_mk (st := s_law_left) l30 c30 k30).binds (ps := ["draws", "rows", "told"]) (fun _ _ _ _ _ _ us hl => match us, hl with | [_, _, _], _ => rfl), PySem.W.mg_of X G a30⟩
    law := ⟨_, _, fun_mk (st := s_law) l31 c31 k31, (fun_mk (st := s_law) l31 c31 k31).binds (ps := ["script"]) (fun _ _ _ _ _ _ us hl => match us, hl with | [_], _ => rfl), PySem.W.mg_of X G a31⟩
    m_abs := PySem.W.mg_none_of X G z_abs
    m_bool := PySem.W.mg_none_of X G z_bool
    m_enumerate := PySem.W.mg_none_of X G z_enumerate
    m_int := PySem.W.mg_none_of X G z_int
    m_isinstance := PySem.W.mg_none_of X G z_isinstance
    m_len := PySem.W.mg_none_of X G z_len
    m_list := PySem.W.mg_none_of X G z_list
    m_max := PySem.W.mg_none_of X G z_max
    m_min := PySem.W.mg_none_of X G z_min
    m_range := PySem.W.mg_none_of X G z_range
    m_repr := PySem.W.mg_none_of X G z_repr
    m_sorted := PySem.W.mg_none_of X G z_sorted
    m_str := PySem.W.mg_none_of X G z_str
    m_sum := PySem.W.mg_none_of X G z_sum
    m_tuple := PySem.W.mg_none_of X G z_tuple
    m_zip := PySem.W.mg_none_of X G z_zip
    k_MOST_ROWS := q_MOST_ROWS
    c_MOST_ROWS := PySem.W.mg_of X G w_MOST_ROWS
  }
  let E : Errs K mg := {
    e0 := ⟨CM, fI, _, fun_mk (st := s_init) lI cI kI, (fun_mk (st := s_init) lI cI kI).binds (ps := ["self", "at"]) (fun _ _ _ _ _ _ us hl => match us, hl with | [_, _], _ => rfl), tI, PySem.W.mg_of X G aM, PySem.W.mg_none_of X G zV, vV⟩
    NotSquare := { C := e0_C, nm := e0_nk, named := ⟨⟨e0_cl, e0_ga, e0_gg, e0_be, e0_at, xsp, xtk, e0_mr⟩, e0_rd, e0_fc, e0_ty, ⟨_, _, e0_x, rfl⟩, e0_sz⟩, oex := ⟨⟨_, _, _, _, _, _, _, _, _, _, _, _, _, _, _, e0_x, LX.refs_one _⟩, e0_sa, e0_be, e0_ty, e0_ke⟩, noAt := e0_no, iC := e0_in, g := PySem.W.mg_of X G e0_a, exm := LX.exm_is bM iM tM e0_sM, kit := LX.kit_self _ _, xf := ⟨e0_ga, e0_gg, e0_be, e0_hd⟩ }
    TooLarge := { C := e1_C, nm := e1_nk, named := ⟨⟨e1_cl, e1_ga, e1_gg, e1_be, e1_at, xsp, xtk, e1_mr⟩, e1_rd, e1_fc, e1_ty, ⟨_, _, e1_x, rfl⟩, e1_sz⟩, oex := ⟨⟨_, _, _, _, _, _, _, _, _, _, _, _, _, _, _, e1_x, LX.refs_one _⟩, e1_sa, e1_be, e1_ty, e1_ke⟩, noAt := e1_no, iC := e1_in, g := PySem.W.mg_of X G e1_a, exm := LX.exm_is bM iM tM e1_sM, kit := LX.kit_self _ _, xf := ⟨e1_ga, e1_gg, e1_be, e1_hd⟩ }
    NoLaw := { C := e2_C, nm := e2_nk, named := ⟨⟨e2_cl, e2_ga, e2_gg, e2_be, e2_at, xsp, xtk, e2_mr⟩, e2_rd, e2_fc, e2_ty, ⟨_, _, e2_x, rfl⟩, e2_sz⟩, oex := ⟨⟨_, _, _, _, _, _, _, _, _, _, _, _, _, _, _, e2_x, LX.refs_one _⟩, e2_sa, e2_be, e2_ty, e2_ke⟩, noAt := e2_no, iC := e2_in, g := PySem.W.mg_of X G e2_a, exm := LX.exm_is bM iM tM e2_sM, kit := LX.kit_self _ _, xf := ⟨e2_ga, e2_gg, e2_be, e2_hd⟩ }
    NoQuantity := { C := e3_C, nm := e3_nk, named := ⟨⟨e3_cl, e3_ga, e3_gg, e3_be, e3_at, xsp, xtk, e3_mr⟩, e3_rd, e3_fc, e3_ty, ⟨_, _, e3_x, rfl⟩, e3_sz⟩, oex := ⟨⟨_, _, _, _, _, _, _, _, _, _, _, _, _, _, _, e3_x, LX.refs_one _⟩, e3_sa, e3_be, e3_ty, e3_ke⟩, noAt := e3_no, iC := e3_in, g := PySem.W.mg_of X G e3_a, exm := LX.exm_is bM iM tM e3_sM, kit := LX.kit_self _ _, xf := ⟨e3_ga, e3_gg, e3_be, e3_hd⟩ }
    n_NotSquare_TooLarge := kp0_1
    n_NotSquare_NoLaw := kp0_2
    n_NotSquare_NoQuantity := kp0_3
    n_TooLarge_NotSquare := kp1_0
    n_TooLarge_NoLaw := kp1_2
    n_TooLarge_NoQuantity := kp1_3
    n_NoLaw_NotSquare := kp2_0
    n_NoLaw_TooLarge := kp2_1
    n_NoLaw_NoQuantity := kp2_3
    n_NoQuantity_NotSquare := kp3_0
    n_NoQuantity_TooLarge := kp3_1
    n_NoQuantity_NoLaw := kp3_2
  }
  exact ⟨PySem.W.fnOf "law" "law" (defArgs s_law) (defBody s_law) (defScope s_law) .none kV31 dc31 pm31 an31 cd31 ct31, fun s v => .of_eq rfl, fun base _ _ => ok_law T E⟩
theorem walk {l : PySem.W.OpenLaw} {q : Program} {loose : List Str} {XP : (Str → Option Value) → Heap → Prop} {YP : World → Heap → Prop} {d : DefRec} {K : Params → PySem.W.Frag} (hn : l.most = some 63) (hdf : d.params.defaults = [])
    (hY : ∀ (w : World) (h : Heap), YP w h → (K w.params).In h)
    (F : ∀ (w : World) (mg : Str → Option Value) (fa : Addr) (h : Heap), (K w.params).In h → h.Ns mainGlobals mg → mg d.name = some (.ref fa) →
      ∃ fd : FuncData, (∀ (s : Shared) (u : Value), BindsTo s fd ⟨[u], []⟩ [("script", u)]) ∧ ∀ base : Heap, (K w.params).In base → base.Ns mainGlobals mg → LG.FnG l.prog w (K w.params) mg base CX0 9 fa fd ["script"] (sp_law (K w.params))) :
    PySem.W.WalkO q loose XP YP l.row.toRowW d [] (fun f vs => PySem.call f vs) :=
  LG.walkG (n := 63) (k := 9) (x := "script") (sp := fun K => sp_law K) hn (by decide) hdf ⟨rfl, by decide, by decide⟩ hY F (fun _ _ a ns hl _ hS => ⟨a, ns, rfl, hS, hl, fun _ => rfl⟩)
end
end K46

open PySem PySem.W PyProof.Rows in
set_option maxRecDepth 100000 in
set_option maxHeartbeats 0 in
theorem PySem.Challenge.cw_unsaidsizes_k46_grids_of_models_holds : PySem.Challenge.rw_unsaidsizes_k46_grids_of_models.Holds := by
  w_on; o_law; k_head; (case hw => w_witness2)
  k_fill
  refine K46.walk (l := PySem.Challenge.rw_unsaidsizes_k46_grids_of_models) rfl rfl (fun w h Y => PySem.W.kIn_of Y) ?F
  case F =>
    intro w mg fa h KX G hmg
    refine' K46.all_mk KX G hmg ?a0 ?l0 ?c0 ?k0 ?a1 ?l1 ?c1 ?k1 ?a2 ?l2 ?c2 ?k2 ?a3 ?l3 ?c3 ?k3 ?a4 ?l4 ?c4 ?k4 ?a5 ?l5 ?c5 ?k5 ?a6 ?l6 ?c6 ?k6 ?a7 ?l7 ?c7 ?k7 ?a8 ?l8 ?c8 ?k8 ?a9 ?l9 ?c9 ?k9 ?a10 ?l10 ?c10 ?k10 ?a11 ?l11 ?c11 ?k11 ?a12 ?l12 ?c12 ?k12 ?a13 ?l13 ?c13 ?k13 ?a14 ?l14 ?c14 ?k14 ?a15 ?l15 ?c15 ?k15 ?a16 ?l16 ?c16 ?k16 ?a17 ?l17 ?c17 ?k17 ?a18 ?l18 ?c18 ?k18 ?a19 ?l19 ?c19 ?k19 ?a20 ?l20 ?c20 ?k20 ?a21 ?l21 ?c21 ?k21 ?a22 ?l22 ?c22 ?k22 ?a23 ?l23 ?c23 ?k23 ?a24 ?l24 ?c24 ?k24 ?a25 ?l25 ?c25 ?k25 ?a26 ?l26 ?c26 ?k26 ?a27 ?l27 ?c27 ?k27 ?a28 ?l28 ?c28 ?k28 ?a29 ?l29 ?c29 ?k29 ?a30 ?l30 ?c30 ?k30 ?a31 ?l31 ?c31 ?k31 ?z_abs ?z_bool ?z_enumerate ?z_int ?z_isinstance ?z_len ?z_list ?z_max ?z_min ?z_range ?z_repr ?z_sorted ?z_str ?z_sum ?z_tuple ?z_zip ?w_MOST_ROWS ?aM ?zV ?vV ?iM ?tM ?bM ?iI ?lI ?cI ?kI ?tI ?xsp ?xtk ?e0_a ?e0_x ?e0_sz ?e0_sa ?e0_ga ?e0_gg ?e0_no ?e0_in ?e0_be ?e0_ty ?e0_ke ?e0_hd ?e0_cl ?e0_at ?e0_mr ?e0_rd ?e0_fc ?e0_sM ?e1_a ?e1_x ?e1_sz ?e1_sa ?e1_ga ?e1_gg ?e1_no ?e1_in ?e1_be ?e1_ty ?e1_ke ?e1_hd ?e1_cl ?e1_at ?e1_mr ?e1_rd ?e1_fc ?e1_sM ?e2_a ?e2_x ?e2_sz ?e2_sa ?e2_ga ?e2_gg ?e2_no ?e2_in ?e2_be ?e2_ty ?e2_ke ?e2_hd ?e2_cl ?e2_at ?e2_mr ?e2_rd ?e2_fc ?e2_sM ?e3_a ?e3_x ?e3_sz ?e3_sa ?e3_ga ?e3_gg ?e3_no ?e3_in ?e3_be ?e3_ty ?e3_ke ?e3_hd ?e3_cl ?e3_at ?e3_mr ?e3_rd ?e3_fc ?e3_sM ?kp0_1 ?kp0_2 ?kp0_3 ?kp1_0 ?kp1_2 ?kp1_3 ?kp2_0 ?kp2_1 ?kp2_3 ?kp3_0 ?kp3_1 ?kp3_2
    (case a0 => k_is)
    (case l0 => k_is)
    (case c0 => k_is)
    (case k0 => k_is)
    (case a1 => k_is)
    (case l1 => k_is)
    (case c1 => k_is)
    (case k1 => k_is)
    (case a2 => k_is)
    (case l2 => k_is)
    (case c2 => k_is)
    (case k2 => k_is)
    (case a3 => k_is)
    (case l3 => k_is)
    (case c3 => k_is)
    (case k3 => k_is)
    (case a4 => k_is)
    (case l4 => k_is)
    (case c4 => k_is)
    (case k4 => k_is)
    (case a5 => k_is)
    (case l5 => k_is)
    (case c5 => k_is)
    (case k5 => k_is)
    (case a6 => k_is)
    (case l6 => k_is)
    (case c6 => k_is)
    (case k6 => k_is)
    (case a7 => k_is)
    (case l7 => k_is)
    (case c7 => k_is)
    (case k7 => k_is)
    (case a8 => k_is)
    (case l8 => k_is)
    (case c8 => k_is)
    (case k8 => k_is)
    (case a9 => k_is)
    (case l9 => k_is)
    (case c9 => k_is)
    (case k9 => k_is)
    (case a10 => k_is)
    (case l10 => k_is)
    (case c10 => k_is)
    (case k10 => k_is)
    (case a11 => k_is)
    (case l11 => k_is)
    (case c11 => k_is)
    (case k11 => k_is)
    (case a12 => k_is)
    (case l12 => k_is)
    (case c12 => k_is)
    (case k12 => k_is)
    (case a13 => k_is)
    (case l13 => k_is)
    (case c13 => k_is)
    (case k13 => k_is)
    (case a14 => k_is)
    (case l14 => k_is)
    (case c14 => k_is)
    (case k14 => k_is)
    (case a15 => k_is)
    (case l15 => k_is)
    (case c15 => k_is)
    (case k15 => k_is)
    (case a16 => k_is)
    (case l16 => k_is)
    (case c16 => k_is)
    (case k16 => k_is)
    (case a17 => k_is)
    (case l17 => k_is)
    (case c17 => k_is)
    (case k17 => k_is)
    (case a18 => k_is)
    (case l18 => k_is)
    (case c18 => k_is)
    (case k18 => k_is)
    (case a19 => k_is)
    (case l19 => k_is)
    (case c19 => k_is)
    (case k19 => k_is)
    (case a20 => k_is)
    (case l20 => k_is)
    (case c20 => k_is)
    (case k20 => k_is)
    (case a21 => k_is)
    (case l21 => k_is)
    (case c21 => k_is)
    (case k21 => k_is)
    (case a22 => k_is)
    (case l22 => k_is)
    (case c22 => k_is)
    (case k22 => k_is)
    (case a23 => k_is)
    (case l23 => k_is)
    (case c23 => k_is)
    (case k23 => k_is)
    (case a24 => k_is)
    (case l24 => k_is)
    (case c24 => k_is)
    (case k24 => k_is)
    (case a25 => k_is)
    (case l25 => k_is)
    (case c25 => k_is)
    (case k25 => k_is)
    (case a26 => k_is)
    (case l26 => k_is)
    (case c26 => k_is)
    (case k26 => k_is)
    (case a27 => k_is)
    (case l27 => k_is)
    (case c27 => k_is)
    (case k27 => k_is)
    (case a28 => k_is)
    (case l28 => k_is)
    (case c28 => k_is)
    (case k28 => k_is)
    (case a29 => k_is)
    (case l29 => k_is)
    (case c29 => k_is)
    (case k29 => k_is)
    (case a30 => k_is)
    (case l30 => k_is)
    (case c30 => k_is)
    (case k30 => k_is)
    (case a31 => k_is)
    (case l31 => k_is)
    (case c31 => k_is)
    (case k31 => k_is)
    (case z_abs => k_is)
    (case z_bool => k_is)
    (case z_enumerate => k_is)
    (case z_int => k_is)
    (case z_isinstance => k_is)
    (case z_len => k_is)
    (case z_list => k_is)
    (case z_max => k_is)
    (case z_min => k_is)
    (case z_range => k_is)
    (case z_repr => k_is)
    (case z_sorted => k_is)
    (case z_str => k_is)
    (case z_sum => k_is)
    (case z_tuple => k_is)
    (case z_zip => k_is)
    (case w_MOST_ROWS => k_is)
    (case aM => k_is)
    (case zV => k_is)
    (case vV => k_is)
    (case iM => k_is)
    (case tM => k_is)
    (case bM => k_is)
    (case iI => k_is)
    (case lI => k_is)
    (case cI => k_is)
    (case kI => k_is)
    (case tI => k_is)
    (case xsp => k_is)
    (case xtk => k_is)
    (case e0_a => k_is)
    (case e0_x => k_is)
    (case e0_sz => decide +kernel)
    (case e0_sa => k_is)
    (case e0_ga => k_is)
    (case e0_gg => k_is)
    (case e0_no => k_is)
    (case e0_in => k_is)
    (case e0_be => k_is)
    (case e0_ty => k_is)
    (case e0_ke => k_is)
    (case e0_hd => k_is)
    (case e0_cl => k_is)
    (case e0_at => k_is)
    (case e0_mr => k_is)
    (case e0_rd => k_is)
    (case e0_fc => k_is)
    (case e0_sM => k_is)
    (case e1_a => k_is)
    (case e1_x => k_is)
    (case e1_sz => decide +kernel)
    (case e1_sa => k_is)
    (case e1_ga => k_is)
    (case e1_gg => k_is)
    (case e1_no => k_is)
    (case e1_in => k_is)
    (case e1_be => k_is)
    (case e1_ty => k_is)
    (case e1_ke => k_is)
    (case e1_hd => k_is)
    (case e1_cl => k_is)
    (case e1_at => k_is)
    (case e1_mr => k_is)
    (case e1_rd => k_is)
    (case e1_fc => k_is)
    (case e1_sM => k_is)
    (case e2_a => k_is)
    (case e2_x => k_is)
    (case e2_sz => decide +kernel)
    (case e2_sa => k_is)
    (case e2_ga => k_is)
    (case e2_gg => k_is)
    (case e2_no => k_is)
    (case e2_in => k_is)
    (case e2_be => k_is)
    (case e2_ty => k_is)
    (case e2_ke => k_is)
    (case e2_hd => k_is)
    (case e2_cl => k_is)
    (case e2_at => k_is)
    (case e2_mr => k_is)
    (case e2_rd => k_is)
    (case e2_fc => k_is)
    (case e2_sM => k_is)
    (case e3_a => k_is)
    (case e3_x => k_is)
    (case e3_sz => decide +kernel)
    (case e3_sa => k_is)
    (case e3_ga => k_is)
    (case e3_gg => k_is)
    (case e3_no => k_is)
    (case e3_in => k_is)
    (case e3_be => k_is)
    (case e3_ty => k_is)
    (case e3_ke => k_is)
    (case e3_hd => k_is)
    (case e3_cl => k_is)
    (case e3_at => k_is)
    (case e3_mr => k_is)
    (case e3_rd => k_is)
    (case e3_fc => k_is)
    (case e3_sM => k_is)
    (case kp0_1 => kit_is)
    (case kp0_2 => kit_is)
    (case kp0_3 => kit_is)
    (case kp1_0 => kit_is)
    (case kp1_2 => kit_is)
    (case kp1_3 => kit_is)
    (case kp2_0 => kit_is)
    (case kp2_1 => kit_is)
    (case kp2_3 => kit_is)
    (case kp3_0 => kit_is)
    (case kp3_1 => kit_is)
    (case kp3_2 => kit_is)
