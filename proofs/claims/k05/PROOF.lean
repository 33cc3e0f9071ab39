import PyProof.Rows.All
import Wide.All
import OpenK.AllK
import Wide.FinOn
import PyProof.ReprRoads
import PyProof.StrLawsRepr
import PyProof.FitsInt
import PyProof.StrBlock2
import PyProof.Rows.StrMul
import HandS.Base
import HandS.Call
import HandS.List
import HandS.Comp
import HandS.Ends
import HandS.Iter
import HandS.Wide
import HandS.Words
import HandS.WordsList
import HandS.IsInst
import HandS.TupLe
import HandS.Strs
import HandS.SetBool
import HandS.Deep
import HandS.Walk
import KE.KNest
import HandS.Nested
import HandS.AnyAll
import HandS.EndBits
import HandS.Text
import HandS.Dict
import HandS.GenOver
import PyProof.Rows.StrJoinRep
import PyProof.StrLawsIn
import PySem.Challenge.RW_unsaidsizes_k05_what_is_a_model
set_option Elab.async false
set_option linter.all false
set_option maxRecDepth 100000
set_option maxHeartbeats 4000000
-- G
/-! calls under which no text of a list is being made (for repr of lists) -/
namespace LG
open PySem PySem.Spec PyProof.Rows L2
/-- as FnOk, for callers of which it is known that no guard stands -/
structure FnG (P : Program) (w : World) (K : PySem.W.Frag) (mg : Str → Option Value) (base : Heap) (CX : CXT) (k : Nat) (f : Addr) (fd : FuncData) (ps : List Str) (sp : Sp) : Prop where
  len : ∀ vs H Q E, sp vs H Q E → vs.length = ps.length
  run : ∀ (A : Around) (ou : List Env) (s : Shared) (H : Hp) (ar : Args) (us : List Value) (vs : List V) (Q : VK) (E : XK), Room k A → A.guards = some [] → Env0 P w K mg base A ou s H →
    BindsTo s fd ar (ps.zip us) → Vals vs us → sp vs H Q E → codeAny (model P w) A (.call (.ref f) ar) (CR CX ou P w H s Q E) s
section
variable {P : Program} {w : World} {K : PySem.W.Frag} {mg : Str → Option Value} {base : Heap} {CX : CXT} {k : Nat} {f : Addr} {fd : FuncData} {ps : List Str} {sp : Sp}
theorem deeper_guards {A : Around} (e : Env) (h : A.guards = some []) : (A.deeper e).guards = some [] := h
theorem g_of_ok (F : FnOk P w K mg base CX k f fd ps sp) : FnG P w K mg base CX k f fd ps sp := ⟨F.len, fun A ou s H ar us vs Q E hr _ => F.run A ou s H ar us vs Q E hr⟩

/-- a def's body keeps its promise, under known guards -/
theorem fnG_of {nm qu : Str} {pa : Arguments} {bo : List Stmt} {sc : Scope} {dv kv dc pm cd ct oc : Value} {an od : Option Addr} {sl : Array (Option Value)} {N : List Str}
    (hf : K.lookup f = some ⟨oc, od, .func (PySem.W.fnOf nm qu pa bo sc dv kv dc pm an cd ct), sl⟩) (hq : PySem.W.codeIn K cd qu = true) (S : FnScope N ps sc) (ln : ∀ vs H Q E, sp vs H Q E → vs.length = ps.length)
    (hb : ∀ (A : Around) (ou : List Env) (s : Shared) (H : Hp) (vs : List V) (Q : VK) (E : XK), Room k (A.deeper (envOfC qu sc s.heap.objs.size f cd)) → A.guards = some [] → sp vs H Q E →
      ∃ t, PSs (cxOf CX P w K mg base N qu sc f cd A ou s H E) bo t ∧ t { nx := fun _ G => Q .non G, rt := Q } (L2.start N vs) H) :
    FnG P w K mg base CX (k + 1) f (PySem.W.fnOf nm qu pa bo sc dv kv dc pm an cd ct) ps sp := by
  refine ⟨ln, fun A ou s H ar us vs Q E room gd en bd rel want => ?_⟩
  have there : K.In s.heap := en.mod.kin.keeps fun b o z => (en.bs b o z).1
  have nl : s.heap.NoLimit := en.mod.nolimit.keeps fun b o z => (en.bs b o z).1
  refine codeAny_call_function room.depth (there _ _ hf) rfl S.co S.gen rfl (PySem.W.codeRec_of there hq) (bd _ _ _ _ ?_)
  refine wpAny_newFunctionEnv_cells S.kind (fun y hy => ?_) fun env eenv s1 x => ?_
  · obtain ⟨n, v⟩ := y
    exact (S.par n (List.of_mem_zip hy).1).imp id fun q => ⟨q, PySem.W.cellsFrom_some _ _ _ (.inl q)⟩
  subst eenv
  refine ⟨nl.keeps x.toInCall.keep, codeAny_func ?_⟩
  obtain ⟨t, ht, hw⟩ := hb A ou s H vs Q E (room.deeper _) gd want
  have J0 := inv_start (CX := CX) (E := E) S room.hd en (ln _ _ _ _ want) rel x
  refine wpAny_mono (ht.run [] s1 (L2.start N vs) H _ J0 hw) (fun fl s' hs => ?_) fun e s' hs => hs
  cases fl with
  | brk => exact False.elim hs.choose_spec.choose_spec.2
  | cont => exact False.elim hs.choose_spec.choose_spec.2
  | ret u =>
    obtain ⟨v, _, G, J, rv, q⟩ := hs
    exact ⟨v, G, J.os, J.bare, J.base, J.hok, rv, q⟩
  | next =>
    obtain ⟨_, G, J, q⟩ := hs
    exact ⟨V.non, G, J.os, J.bare, J.base, J.hok, rfl, q⟩
/-- .. by the text -/
theorem fun_okG {x qual : Str} {st : Stmt} {N : List Str} (F : Fun K x qual st f fd) (S : FnScope N ps (defScope st)) (ln : ∀ vs H Q E, sp vs H Q E → vs.length = ps.length)
    (hb : ∀ (cd : Value) (A : Around) (ou : List Env) (s : Shared) (H : Hp) (vs : List V) (Q : VK) (E : XK), Room k (A.deeper (envOfC qual (defScope st) s.heap.objs.size f cd)) → A.guards = some [] → sp vs H Q E →
      ∃ t, PSs (cxOf CX0 P w K mg base N qual (defScope st) f cd A ou s H E).nox (defBody st) t ∧ t { nx := fun _ G => Q .non G, rt := Q } (L2.start N vs) H) : FnG P w K mg base CX0 (k + 1) f fd ps sp := by
  obtain ⟨oc, od, kV, doc, pm, an, cd, ct, osl, rfl, lk, hc⟩ := F.ex
  refine fnG_of lk hc S ln fun A ou s H vs Q E hr hg want => ?_
  obtain ⟨t, h, q⟩ := hb cd A ou s H vs Q E hr hg want
  exact ⟨t, h.nox, q⟩
end
section
variable {X : Cx} {CX : CXT} {k : Nat} {f : Addr} {fd : FuncData} {ps : List Str} {sp : Sp} {dvs : List V} {ds : List Value} {E : XK} {x : Str} {p pos : Pos} {e : Expr} {es : List Expr} {t : TA}
theorem pe_callG (F : FnG X.prog X.w X.K X.mg X.base CX k f fd ps sp) (hr : Room k X.A) (gd : X.A.guards = some []) (hg : Gl X x) (hm : X.mg x = some (.ref f)) (hk : PySem.W.keepIn X.K (.ref f) = true) (hb : Binds X.K fd ps ds) (hd : Vals dvs ds) (hx : Passes CX X E)
    (ha : PA X (e :: es) t) (hdb : (x == ("__debug__" : Str)) = false := by decide) (he : starEach (e :: es) X.env = (false, eval e X.env) :: starEach es X.env := by rfl) (hpl : (backTo pos (starEach es X.env)).any (·.1) = false := by rfl) :
    PE X (.Call (.Name x p) (e :: es) [] pos) (tCall sp dvs E t) := by
  refine ⟨fun pins s σ H Q I h => wpAny_Call_Name_kw (ld_glob I hg hm ?_ hdb)⟩
  refine PySem.W.callWith_K (h₀ := X.base) I.ok.mod.kin hk (thn (ha.run pos pins s σ H _ I h) fun us s1 ⟨vs, H1, J, r, q⟩ => ⟨J.kIn, ?_⟩) he hpl
  have r2 : Vals (vs ++ dvs) (us ++ ds) := r.append hd
  have ll : (us ++ ds).length = ps.length := by
    rw [← r2.length]
    exact F.len _ _ _ _ q
  refine wpAny_call (codeAny_mono (F.run X.A X.stack s1 H1 ⟨us, []⟩ (us ++ ds) (vs ++ dvs) Q E hr gd J.env0 (hb s1 us J.kIn ll) r2 q) fun r s' z => ?_)
  cases r with
  | error er => exact hx pins σ H1 s1 er s' J z
  | ok fl =>
    cases fl with
    | ret u => exact J.after z
    | next => exact False.elim z
    | brk => exact False.elim z
    | cont => exact False.elim z
/-- repr of nested data -/
theorem call_reprD (gd : X.A.guards = some []) (hu : X.A.units + 64 < cLine) : CallR X (.builtin "repr") (fun xs H Q => ∃ (a : Addr) (d : PyData), xs = [.ref a] ∧ Dp X.K H (.ref a) d ∧ d.showable = true ∧ d.hasDict = false ∧ d.depth ≤ 60 ∧ d.shown.length ≤ sizeLine ∧ Q (.str d.shown) H) := by
  intro pins s σ H xs us Q I r h
  obtain ⟨a, d, rfl, hd, h1, h2, h3, h4, q⟩ := h
  obtain ⟨u, rfl, e⟩ := vals1 r
  cases (show u = Value.ref a from e)
  obtain ⟨as, rd⟩ := Dp.reads I d (.ref a) (.ref a) hd rfl
  refine PySem.repr_of_reads' rd h1 (fun z => by rw [h2] at z; cases z) gd (by omega) (fun _ _ z => z) (fun h' u tk k => ?_) h4
  exact ⟨.str _, H, I.kept (t' := tk) k, ⟨u, rfl⟩, q⟩
end

/-! the law's own call -/
section
variable {P : Program} {w : World} {K : PySem.W.Frag} {mg mb : Str → Option Value} {k : Nat} {fa a : Addr} {fd : FuncData} {x : Str} {sp : Sp} {s₁ : Shared} {vs : List Value} {ns : List Int}
/-- from one abstract heap, in which the script alone may stand -/
theorem enter (KX : K.In s₁.heap) (gl : s₁.heap.Ns mainGlobals mg) (bl : s₁.heap.Ns builtinsNs mb) (bb : ∀ y : Str, y ≠ "__name__" → mb y = bootBuiltins y) (nl : s₁.heap.NoLimit) (g0 : s₁.gens = #[])
    (at_ : s₁.heap.get? a = some { cls := .type "list", data := .seq vs.toArray }) (room : Room k callerA) (bind : ∀ (s : Shared) (u : Value), BindsTo s fd ⟨[u], []⟩ [(x, u)])
    (F : ∀ base : Heap, K.In base → base.Ns mainGlobals mg → FnG P w K mg base CX0 k fa fd [x] sp) {H : Hp} (only : Only H) (ok : HOk P w H s₁.heap) (alone : ∀ b, H b ≠ none → b = a) (notK : H a ≠ none → K.lookup a = none)
    (want : sp [.ref a] H (fun v _ => v = .bl true) fun _ _ _ => False) :
    codeAny (model P w) callerA (.call (.ref fa) ⟨[.ref a], []⟩) (fun r s' => r = .ok (.ret (.bool true)) ∧ OldK s₁.heap s'.heap ∧ s'.os = s₁.os ∧ AllBare s'.gens) s₁ := by
  have free : ∀ {b : Addr} {o : Obj}, s₁.heap.get? b = some o → (∀ it n, o.data ≠ .seq it n) → H b = none := fun {b o} z nd => by
    cases q : H b with
    | none => rfl
    | some u =>
      obtain rfl := alone b (by rw [q]; exact fun y => nomatch y)
      rw [at_] at z
      cases z
      exact absurd rfl (nd vs.toArray _)
  have nsOf : ∀ {b : Addr} {m : Str → Option Value}, s₁.heap.Ns b m → (hidT s₁.heap H).Ns b m := fun {b m} ⟨o, es, ep, z, d, r⟩ =>
    ⟨o, es, ep, hidT_get z (free z fun it n y => by rw [d] at y; exact nomatch y), d, r⟩
  have inB : K.In (hidT s₁.heap H) := fun b o z => by
    refine hidT_get (KX b o z) ?_
    cases q : H b with
    | none => rfl
    | some u =>
      obtain rfl := alone b (by rw [q]; exact fun y => nomatch y)
      rw [notK (by rw [q]; exact fun y => nomatch y)] at z
      cases z
  have md : Mod K mg (hidT s₁.heap H) := ⟨inB, nsOf gl, ⟨mb, nsOf bl, bb⟩, let ⟨mc, y1, y2⟩ := nl; ⟨mc, nsOf y1, y2⟩⟩
  have en : Env0 P w K mg (hidT s₁.heap H) callerA [] s₁ H := ⟨rfl, md, fun b o z => of_hidT z, Nat.le_of_eq (hidT_size _ _), trivial, fun b z => absurd (show b ∈ ([] : List Addr) from z) (List.not_mem_nil), ok, .of_eq g0⟩
  refine codeAny_mono ((F _ inB (nsOf gl)).run callerA [] s₁ H ⟨[.ref a], []⟩ [.ref a] [.ref a] _ _ room rfl en (bind s₁ (.ref a)) (.cons rfl .nil) want) fun r s' h => ?_
  cases r with
  | error e => exact False.elim h
  | ok fl =>
    cases fl with
    | next => exact False.elim h
    | brk => exact False.elim h
    | cont => exact False.elim h
    | ret u =>
      obtain ⟨v, G, e1, e2, un, okG, rel, q⟩ := h
      obtain rfl : v = V.bl true := q
      obtain rfl : u = Value.bool true := rel
      refine ⟨rfl, OldK.of_keep fun b o z => ?_, e1, e2⟩
      cases q : H b with
      | none => exact un.keep b o z q (fun y => nomatch y) (fun y => nomatch y)
      | some u =>
        rcases only b with y | ⟨ob, xs, y⟩
        · rw [q] at y
          cases y
        · have z1 := (ok b _ y).1
          have z2 := (okG b _ (un.frzs b ob _ y)).1
          rw [z] at z1
          cases z1
          exact z2

theorem enter_all (KX : K.In s₁.heap) (gl : s₁.heap.Ns mainGlobals mg) (bl : s₁.heap.Ns builtinsNs mb) (bb : ∀ y : Str, y ≠ "__name__" → mb y = bootBuiltins y) (nl : s₁.heap.NoLimit) (g0 : s₁.gens = #[])
    (at_ : s₁.heap.get? a = some { cls := .type "list", data := .seq vs.toArray }) (ia : IntsAre vs ns) (small : ns.length ≤ sizeLine) (room : Room k callerA) (bind : ∀ (s : Shared) (u : Value), BindsTo s fd ⟨[u], []⟩ [(x, u)])
    (F : ∀ base : Heap, K.In base → base.Ns mainGlobals mg → FnG P w K mg base CX0 k fa fd [x] sp) (want : ∀ H : Hp, Only H → SqL K H a (ns.map V.int) → sp [.ref a] H (fun v _ => v = .bl true) fun _ _ _ => False) :
    codeAny (model P w) callerA (.call (.ref fa) ⟨[.ref a], []⟩) (fun r s' => r = .ok (.ret (.bool true)) ∧ OldK s₁.heap s'.heap ∧ s'.os = s₁.os ∧ AllBare s'.gens) s₁ := by
  have rel := vals_ints ia
  cases hk : K.lookup a with
  | some o =>
    have z := KX a o hk
    rw [at_] at z
    cases z
    have only : Only (fun _ => none) := fun _ => .inl rfl
    have len := ia.length
    exact enter KX gl bl bb nl g0 at_ room bind F only (fun b u z => by cases z) (fun b z => absurd rfl z) (fun z => absurd rfl z)
      (want _ only (.inr ⟨_, vs.toArray, _, hk, rfl, rfl, rfl, by rw [List.size_toArray, len]; exact small, by simpa using rel⟩))
  | none =>
    let ob : Obj := { cls := .type "list", data := .seq vs.toArray }
    let H : Hp := fun b => if b = a then some (.frz ob (.lst (ns.map V.int))) else none
    have hit : H a = some (.frz ob (.lst (ns.map V.int))) := if_pos rfl
    have one : ∀ b, H b ≠ none → b = a := fun b z => by
      by_cases e : b = a
      · exact e
      · exact absurd (if_neg e) z
    have only : Only H := fun b => by
      by_cases e : b = a
      · exact .inr ⟨ob, ns.map V.int, if_pos e⟩
      · exact .inl (if_neg e)
    refine enter KX gl bl bb nl g0 at_ room bind F only (fun b u z => ?_) one (fun _ => hk) (want H only (.inl (.inr ⟨ob, hit⟩)))
    obtain rfl := one b (by rw [z]; exact fun y => nomatch y)
    rw [hit] at z
    cases z
    exact ⟨at_, by rw [List.length_map]; exact small, vs, _, rel, at_⟩
end
/-- what k_head leaves, from the law's promise -/
theorem walkG {l : PySem.W.OpenLaw} {n k : Nat} {q : Program} {loose : List Str} {XP : (Str → Option Value) → Heap → Prop} {YP : World → Heap → Prop} {d : DefRec} {K : Params → PySem.W.Frag} {sp : PySem.W.Frag → Sp} {x : Str}
    (hn : l.most = some n) (hz : n ≤ sizeLine) (hdf : d.params.defaults = []) (room : Room k callerA) (hY : ∀ (w : World) (h : Heap), YP w h → (K w.params).In h)
    (F : ∀ (w : World) (mg : Str → Option Value) (fa : Addr) (h : Heap), (K w.params).In h → h.Ns mainGlobals mg → mg d.name = some (.ref fa) →
      ∃ fd : FuncData, (∀ (s : Shared) (u : Value), BindsTo s fd ⟨[u], []⟩ [(x, u)]) ∧ ∀ base : Heap, (K w.params).In base → base.Ns mainGlobals mg → FnG l.prog w (K w.params) mg base CX0 k fa fd [x] (sp (K w.params)))
    (want : ∀ (K : PySem.W.Frag) (H : Hp) (a : Addr) (ns : List Int), ns.length ≤ n → Only H → SqL K H a (ns.map V.int) → sp K [.ref a] H (fun v _ => v = .bl true) fun _ _ _ => False) :
    PySem.W.WalkO q loose XP YP l.row.toRowW d [] (fun f vs => PySem.call f vs) := by
  refine Att.attach_call hn hdf fun w s0 s1 mg mb fa o pm cd doc a vs ns G Y ho hd hcd hmg hobj ia len g0 => ?_
  obtain ⟨fd, bi, FF⟩ := F w mg fa _ (hY w _ Y) G.T.g hmg
  exact enter_all (hY w _ Y) G.T.g G.T.b G.T.builtins G.T.nolimit g0 hobj ia (Nat.le_trans len hz) room bi FF fun H only hs => want _ H a ns len only hs
end LG
-- GL
/-! elements of generator expressions that call nothing of the text: values by names, under whatever frames -/
namespace LE
open PySem PySem.Spec PyProof.Rows L2
/-- where such an element is reckoned: the names that it sees, what stands as the def that holds it had it -/
structure Site (X : Cx) (sc : Scope) (H : Hp) (Γ : List (Str × V)) (ce : Env) (t : Shared) : Prop where
  fn : sc.kind = .function
  eqs : ce.scope = sc
  gl : ce.globals = mainGlobals
  bl : ce.builtins = builtinsNs
  mod : Mod X.K X.mg X.base
  bs : ∀ b o, X.base.get? b = some o → t.heap.get? b = some o
  obj : ∀ b u, H b = some u → (∀ q, u ≠ .tbl q) → ObjOk X.prog X.w H t.heap b u
  var : ∀ y v, Γ.lookup y = some v → ∃ u, RelV v u ∧ ((sc.names.lookup y = some .local ∧ ∃ m, t.heap.Ns ce.locals m ∧ m y = some u) ∨ (sc.names.lookup y = some .free ∧ ∃ c, ce.cells.lookup y = some c ∧ t.heap.IsCell c (some u)))
section
variable {X : Cx} {sc : Scope} {H : Hp} {Γ : List (Str × V)} {ce : Env} {t t' : Shared}
theorem Site.keeps (S : Site X sc H Γ ce t) (k : Keeps t t') : Site X sc H Γ ce t' := by
  obtain ⟨h', n, rfl, kk⟩ := k
  refine ⟨S.fn, S.eqs, S.gl, S.bl, S.mod, fun b o e => kk _ _ (S.bs b o e), fun b u e n => (S.obj b u e n).stay (fun c v _ y => kk c v y) (fun _ y => y) fun _ _ y => y, fun y v e => ?_⟩
  obtain ⟨u, r, l⟩ := S.var y v e
  refine ⟨u, r, l.imp (fun ⟨a, m, hn, hm⟩ => ⟨a, m, hn.keeps kk, hm⟩) fun ⟨a, c, hc, o, ho, hd⟩ => ⟨a, c, hc, o, kk _ _ ho, hd⟩⟩
theorem Site.list {p : Addr} {xs : List V} (S : Site X sc H Γ ce t) (h : SqL X.K H p xs) : ∃ its : List Value, Vals xs its ∧ PlainL t.heap p its.toArray ∧ xs.length ≤ sizeLine := by
  rcases h with (h | ⟨o, h⟩) | ⟨o, its, n, hk, hc, hd, hs, hz, r⟩
  · obtain ⟨z, its, n, r, e⟩ := S.obj p _ h fun _ y => nomatch y
    exact ⟨its, r, ⟨_, n, e, rfl, rfl, rfl⟩, z⟩
  · obtain ⟨_, z, its, n, r, e⟩ := S.obj p _ h fun _ y => nomatch y
    exact ⟨its, r, ⟨_, n, e, rfl, rfl, rfl⟩, z⟩
  · refine ⟨its.toList, r, ⟨o, n, S.bs _ _ (S.mod.kin p o hk), hc, hd, by simpa using hs⟩, ?_⟩
    have e := r.length
    simp only [Array.length_toList] at e
    omega
end
/-- e is v there, and nothing is changed -/
def PU (X : Cx) (sc : Scope) (H : Hp) (Γ : List (Str × V)) (e : Expr) (v : V) : Prop :=
  ∀ (ce : Env) (B : Around) (t : Shared) (F R : Value → Shared → Prop), Site X sc H Γ ce t → (∀ u t', RelV v u → Keeps t t' → R u t') → wpAny (model X.prog X.w) B (eval e ce) R F t
theorem kt (s : Shared) (k : Nat) : Keeps s { s with toks := k } := ⟨s.heap, k, rfl, fun _ _ e => e⟩
theorem k0 (s : Shared) : Keeps s s := kt s s.toks
theorem Keeps.on {a b c : Shared} (h : Keeps a b) (h' : Keeps b c) : Keeps a c := by
  obtain ⟨x, n, rfl, k⟩ := h
  obtain ⟨y, m, rfl, k'⟩ := h'
  exact ⟨y, m, rfl, fun i o e => k' i o (k i o e)⟩
section
variable {X : Cx} {sc : Scope} {H : Hp} {Γ : List (Str × V)} {a b : Expr} {pos : Pos}
theorem pu_var {y : Str} {v : V} (h : Γ.lookup y = some v) (hd : (y == ("__debug__" : Str)) = false := by decide) (hcd : (y == ("__classdict__" : Str)) = false := by decide) : PU X sc H Γ (.Name y pos) v := by
  intro ce B t F R S q
  obtain ⟨u, r, l⟩ := S.var y v h
  have fk : ce.scope.kind = .function := by rw [S.eqs]; exact S.fn
  rcases l with ⟨hl, m, hn, hm⟩ | ⟨hl, c, hc, ho⟩
  · exact wpAny_Name (wpAny_loadName_local fk (show ce.scope.names.lookup y = some .local by rw [S.eqs]; exact hl) hn hm (q u t r (k0 t))) hd
  · exact wpAny_Name (wpAny_loadName_free fk (show ce.scope.names.lookup y = some .free by rw [S.eqs]; exact hl) hc ho (q u t r (k0 t)) hcd) hd
theorem pu_int {i : Int} {j : Nat} : PU X sc H Γ (.Constant (.int i) j pos) (.int i) := fun ce B t F R S q => wpAny_Constant_int (q _ _ ⟨_, rfl⟩ (kt t _))
/-- two ints are compared -/
theorem pu_cmp {op : CmpOp} {g : Int → Int → Bool} {i j : Int} (rule : ∀ (B : Around) (i j : Int) (t u : Tok) (s : Shared) (Q : Value → Shared → Prop) (E : Value → Shared → Prop), Q (.bool (g i j)) s → wpAny (model X.prog X.w) B (compareOp op (.int i t) (.int j u)) Q E s)
    (ha : PU X sc H Γ a (.int i)) (hb : PU X sc H Γ b (.int j)) (hm : behindInMarks op b = false := by rfl) : PU X sc H Γ (.Compare a [op] [b] pos) (.bl (g i j)) := by
  intro ce B t F R S q
  refine wpAny_Compare1 (ha ce B t F _ S fun u t1 r1 k1 => hb ce B t1 F _ (S.keeps k1) fun w t2 r2 k2 => ?_) hm
  obtain ⟨_, rfl⟩ := r1
  obtain ⟨_, rfl⟩ := r2
  exact rule _ _ _ _ _ _ _ _ (q _ _ rfl (Keeps.on k1 k2))
theorem pu_lt {i j : Int} (ha : PU X sc H Γ a (.int i)) (hb : PU X sc H Γ b (.int j)) : PU X sc H Γ (.Compare a [.Lt] [b] pos) (.bl (decide (i < j))) := pu_cmp (g := fun i j => decide (i < j)) (fun _ _ _ _ _ _ _ _ q => lt_int q) ha hb (nomark _)
theorem pu_eqI {i j : Int} (ha : PU X sc H Γ a (.int i)) (hb : PU X sc H Γ b (.int j)) : PU X sc H Γ (.Compare a [.Eq] [b] pos) (.bl (decide (i = j))) := by
  intro ce B t F R S q
  refine wpAny_Compare1 (ha ce B t F _ S fun u t1 r1 k1 => hb ce B t1 F _ (S.keeps k1) fun w t2 r2 k2 => ?_) (nomark _)
  obtain ⟨_, rfl⟩ := r1
  obtain ⟨_, rfl⟩ := r2
  exact eq_int (q _ _ (by show _ = _; congr 1) (Keeps.on k1 k2))
theorem pu_sub {i j : Int} (ha : PU X sc H Γ a (.int i)) (hb : PU X sc H Γ b (.int j)) : PU X sc H Γ (.BinOp a .Sub b pos) (.int (i - j)) := by
  intro ce B t F R S q
  refine wpAny_BinOp (ha ce B t F _ S fun u t1 r1 k1 => hb ce B t1 F _ (S.keeps k1) fun w t2 r2 k2 => ?_)
  obtain ⟨_, rfl⟩ := r1
  obtain ⟨_, rfl⟩ := r2
  exact sub_int (q _ _ ⟨_, rfl⟩ (Keeps.on (Keeps.on k1 k2) (kt t2 _)))
theorem pu_non {j : Nat} : PU X sc H Γ (.Constant .none j pos) .non := fun ce B t F R S q => Constant_none (q _ _ rfl (k0 t))
/-- a is not None -/
theorem pu_notN {v : V} {j : Nat} {p : Pos} (ha : PU X sc H Γ a v) : PU X sc H Γ (.Compare a [.IsNot] [.Constant .none j p] pos) (.bl (!decide (v = .non))) := by
  intro ce B t F R S q
  refine wpAny_Compare1 (ha ce B t F _ S fun u t1 r1 k1 => Constant_none (isnot_none_gen (q _ _ ?_ k1))) rfl
  cases v <;> first
    | (cases r1; rfl)
    | (obtain ⟨t, rfl⟩ := r1; rfl)
theorem pu_one {op : BoolOp} {v : V} (ha : PU X sc H Γ a v) : PU X sc H Γ (.BoolOp op [a] pos) v := fun ce B t F R S q => BoolOp_one (ha ce B t F R S q)
theorem pu_and {rest : List Expr} {c r : Bool} (ha : PU X sc H Γ a (.bl c)) (hb : c = true → PU X sc H Γ (.BoolOp .And (b :: rest) pos) (.bl r)) : PU X sc H Γ (.BoolOp .And (a :: b :: rest) pos) (.bl (c && r)) := by
  intro ce B t F R S q
  refine BoolOp_and (ha ce B t F _ S fun u t1 r1 k1 => ?_)
  cases r1
  refine wpAny_truthy_bool ?_
  cases c with
  | true => exact hb rfl ce B t1 F R (S.keeps k1) fun u t2 r2 k2 => q u t2 r2 (Keeps.on k1 k2)
  | false => exact q _ _ rfl k1
/-- an item of a list, by a place from 0 on -/
theorem pu_ix {p : Addr} {xs : List V} {i : Nat} {v : V} (ha : PU X sc H Γ a (.ref p)) (hb : PU X sc H Γ b (.int (i : Int))) (hl : SqL X.K H p xs) (hi : xs[i]? = some v) (hs : PlainIx b := by exact fun _ _ => rfl) : PU X sc H Γ (.Subscript a b pos) v := by
  intro ce B t F R S q
  refine Subscript_ (ha ce B t F _ S fun u t1 r1 k1 => hb ce B t1 F _ (S.keeps k1) fun w t2 r2 k2 => ?_)
  cases r1
  obtain ⟨_, rfl⟩ := r2
  have S2 := (S.keeps k1).keeps k2
  obtain ⟨its, r, pl, hz⟩ := S2.list hl
  obtain ⟨x, ex, rx⟩ := r.get hi
  have hn := line63
  have hlt : i < xs.length := (List.getElem?_eq_some_iff.mp hi).1
  exact item_listR pl.isList (by omega) (by omega) (by simpa using ex) (q _ _ rx (Keeps.on k1 k2)) (hs _ _)
/-- len of a list -/
theorem pu_len {p : Addr} {xs : List V} {np : Pos} (ha : PU X sc H Γ a (.ref p)) (hl : SqL X.K H p xs) (hg : sc.names.lookup ("len" : Str) = some .globalImplicit) (hm : X.mg "len" = none)
    (he : ∀ ce : Env, starEach [a] ce = (false, eval a ce) :: starEach [] ce := by exact fun _ => rfl) : PU X sc H Γ (.Call (.Name "len" np) [a] [] pos) (.int xs.length) := by
  intro ce B t F R S q
  obtain ⟨mb, h1, h2⟩ := S.mod.blt
  refine wpAny_Call_Name_kw (Calls.Name_function_global (by rw [S.eqs]; exact S.fn) (show ce.scope.names.lookup ("len" : Str) = some .globalImplicit by rw [S.eqs]; exact hg)
    (Calls.loadGlobal_builtin (by rw [S.gl]; exact S.mod.glob.keeps S.bs) hm (by rw [S.bl]; exact h1.keeps S.bs) ((h2 "len" (by decide)).trans boot_len) ?_) (by decide))
  refine PyProof.Rows.callWith_builtin1 ?_ (he ce) rfl
  rw [he ce]
  refine Calls.spliced_cons (ha ce B t F _ S fun u t1 r1 k1 => Calls.spliced_nil ?_)
  cases r1
  obtain ⟨its, r, pl, hz⟩ := (S.keeps k1).list hl
  have hn := line63
  have e := r.length
  exact Calls.call_len_list pl.isList (by simp only [List.size_toArray] <;> omega) (q _ _ ⟨_, by rw [List.size_toArray, e]⟩ (Keeps.on k1 (kt t1 _)))
end
end LE
-- GA
/-! any and all of a generator expression over a list, its element reckoned by GL -/
namespace LE
open PySem PySem.Spec PyProof.Rows L2
open GxR (TabB TabG Tabbed GenS)
theorem pair_of_lookup {α : Type} : ∀ {l : List (Str × α)} {y : Str} {v : α}, l.lookup y = some v → (y, v) ∈ l
  | (k, w) :: r, y, v, h => by
    rw [List.lookup_cons] at h
    cases e : y == k with
    | true =>
      rw [e] at h
      have e2 : y = k := by simpa using e
      cases h
      rw [e2]
      exact List.mem_cons_self
    | false =>
      rw [e] at h
      exact List.mem_cons_of_mem _ (pair_of_lookup h)
/-- what is asked of the expression's scope, to be seen by looking -/
structure GOK (ds sc : Scope) (x : Str) : Prop where
  kind : sc.kind = .function
  co : sc.isCoroutine = false
  cell : ∀ y ∈ sc.names, y.2 ≠ .cell
  dot : sc.names.lookup (".0" : Str) = some NameKind.local
  loc : sc.names.lookup x = some .local
  kin : ∀ y ∈ sc.names, y.2 = .free → ds.names.lookup y.1 = some .cell ∨ ds.names.lookup y.1 = some .free
instance {ds sc : Scope} {x : Str} : Decidable (GOK ds sc x) :=
  decidable_of_iff (sc.kind = .function ∧ sc.isCoroutine = false ∧ (∀ y ∈ sc.names, y.2 ≠ .cell) ∧ sc.names.lookup (".0" : Str) = some NameKind.local ∧ sc.names.lookup x = some .local ∧ ∀ y ∈ sc.names, y.2 = .free → ds.names.lookup y.1 = some .cell ∨ ds.names.lookup y.1 = some .free)
    ⟨fun ⟨a, b, c, d, e, f⟩ => ⟨a, b, c, d, e, f⟩, fun ⟨a, b, c, d, e, f⟩ => ⟨a, b, c, d, e, f⟩⟩
def Gsc (X : Cx) (sc : Scope) (x : Str) : Prop := ∃ ds, X.env.scope = ds ∧ GOK ds sc x
theorem Gsc.gens {X : Cx} {sc : Scope} {x : Str} (g : Gsc X sc x) (ok : X.Ok) : GenS X.env sc x := by
  obtain ⟨ds, rfl, h⟩ := g
  exact ⟨h.kind, h.co, h.cell, h.dot, h.loc, fun y hy e => ok.has _ (h.kin y hy e)⟩
/-- the names of the def that the element sees, and what they hold -/
def Seen (X : Cx) (σ : L2.St) (sc : Scope) (Γ : List (Str × V)) : Prop :=
  ∀ y v, Γ.lookup y = some v → ∃ i : Nat, X.N[i]? = some y ∧ σ[i]? = some (some v) ∧ (X.env.scope.names.lookup y = some .cell ∨ X.env.scope.names.lookup y = some .free) ∧ sc.names.lookup y = some .free
theorem seen_nil {X : Cx} {σ : L2.St} {sc : Scope} : Seen X σ sc [] := fun _ _ h => nomatch h
theorem seen_cons {X : Cx} {σ : L2.St} {sc : Scope} {Γ : List (Str × V)} {y : Str} {v : V} (i : Nat) (hN : X.N[i]? = some y) (hσ : σ[i]? = some (some v)) (hk : X.env.scope.names.lookup y = some .cell ∨ X.env.scope.names.lookup y = some .free) (hf : sc.names.lookup y = some .free)
    (r : Seen X σ sc Γ) : Seen X σ sc ((y, v) :: Γ) := fun z w h => by
  rw [List.lookup_cons] at h
  cases e : z == y with
  | true =>
    rw [e] at h
    cases h
    rw [show z = y by simpa using e]
    exact ⟨i, hN, hσ, hk, hf⟩
  | false =>
    rw [e] at h
    exact r z w h
/-- a generator that is ready, of n turns, the j-th one true as tr says -/
def Rdy (X : Cx) (pins : List (Addr × Obj)) (σ : L2.St) (H1 : Hp) (P : Addr) (n : Nat) (tr : Nat → Bool) (g : Addr) (s5 : Shared) : Prop :=
  ∃ (fp wr : List Addr) (G : Array GenState → Array GenState → Prop) (F : Nat → Value → Prop) (St : Nat → Shared → Prop),
    WalksS X.prog X.w X.A.in1 g fp wr G n F St ∧ St 0 s5 ∧ TruthOf X.prog X.w X.A.in1 F tr ∧ ∀ s', Moved wr G s5 s' → ∃ H2, Tabbed P H1 H2 ∧ Inv X pins σ H2 s'
section
variable {X : Cx} {pins : List (Addr × Obj)} {σ : L2.St} {H : Hp} {s : Shared}
/-- the expression's code object: found, or made and put behind the table -/
theorem code_step {c P : Addr} {pos : Pos} {q : Str} {sc : Scope} {ps : Array Value} {R : Value → Shared → Prop} {E : Value → Shared → Prop} {A : Around} {M : Model} {t : Shared} (hcode : X.env.code = .ref c) (cd : PySem.W.CodeHd t.heap c P)
    (hP : t.heap.get? P = some { cls := .none, data := .fields ps }) (ht : TriplesOk ps.toList)
    (go : ∀ (code : Value) (h3 : Heap) (tk : Nat) (more : Array Value), Heap.ExtBut P t.heap h3 → t.heap.objs.size ≤ h3.objs.size → h3.get? P = some { cls := .none, data := .fields (ps ++ more) } → TriplesOk (ps ++ more).toList → R code { t with heap := h3, toks := tk }) :
    wpAny M A (genexprCode X.env pos q sc) R E t := by
  cases e : codeAmong pos ps.toList with
  | some v =>
    refine PySem.wpAny_genexprCode_hit hcode (cd.code hP ht) e ?_
    have z := go v t.heap t.toks #[] (Heap.ExtBut.refl _ _) (Nat.le_refl _) (by rw [Array.append_empty]; exact hP) (by rw [Array.append_empty]; exact ht)
    exact z
  | none =>
    refine PySem.wpAny_genexprCodeX hcode (cd.code hP ht) (cd.tab hP) e fun d h3 tk x ge lt ic _ it _ => go _ h3 tk _ x (Nat.le_trans ge (Nat.le_of_lt lt)) it.2 ?_
    obtain ⟨_, _, _, _, _, _, _, _, _, _, _, _, _, _, _, _, _, _, _, tr, _⟩ := ic
    exact tr
/-- .. for x in a list -/
theorem gen_list {c P : Addr} {elt iter : Expr} {x : Str} {px gpos : Pos} {sc : Scope} {te : TE} {k : Nat} {Q' : Value → Shared → Prop} {R : Nat → (Nat → Bool) → Hp → Prop}
    (hr : Room k X.A) (TB : TabB X.base X.mg c P) (hcode : X.env.code = .ref c) (S : GenS X.env sc x) (hi : PE X iter te) (hs : ∀ v, genFold iter X.env v = pure v) (I : Inv X pins σ H s)
    (h : te σ H fun v H1 => ∃ (a : Addr) (xs : List V) (tr : Nat → Bool) (Γ : List (Str × V)), v = .ref a ∧ SqL X.K H1 a xs ∧ TabG H1 P ∧ Seen X σ sc Γ ∧ (∀ j w, xs[j]? = some w → PU X sc H1 ((x, w) :: Γ) elt (.bl (tr j))) ∧ R xs.length tr H1)
    (hQ : ∀ n tr H1 g s5, R n tr H1 → Rdy X pins σ H1 P n tr g s5 → Q' (.ref g) s5) :
    wpAny (model X.prog X.w) X.A (eval (.GeneratorExp elt [⟨.Name x px, iter, [], 0⟩] sc gpos) X.env) Q' X.xe s := by
  refine wpAny_GeneratorExp_walksQ hr.hd S.co (closure_ok S.free) S.cell S.dot S.loc S.kind (by have := hr.dp; omega) ?_ hs
  refine thn (hi.run pins s σ H _ I h) fun u s1 ⟨v, H1, I1, r1, a, xs, tr, Γ, ev, hl, ⟨ps, hP, ht⟩, sn, hel, hR⟩ => ?_
  subst ev
  cases (show u = Value.ref a from r1)
  obtain ⟨its, rv, pl, hz⟩ := I1.list hl
  have nlen := rv.length
  refine wpAny_pyIter_list pl.isList ?_
  -- the iterator stands behind all else
  have kp : ∀ b o, s1.heap.get? b = some o → (s1.heap.push { cls := .type "list_iterator", data := .fields #[.ref a, .int 0 0] }).get? b = some o := fun b o e => Heap.get?_push_of_some _ e
  have oP : s1.heap.get? P = some { cls := .none, data := .fields ps } := I1.hok P _ hP
  have nl2 : (s1.heap.push { cls := .type "list_iterator", data := .fields #[.ref a, .int 0 0] }).NoLimit := I1.nolimit.push _
  have hsz2 : (s1.heap.push { cls := .type "list_iterator", data := .fields #[.ref a, .int 0 0] }).objs.size = s1.heap.objs.size + 1 := Heap.size_push ..
  have itA : (s1.heap.push { cls := .type "list_iterator", data := .fields #[.ref a, .int 0 0] }).IsListIter s1.heap.objs.size a 0 := ⟨_, Heap.get?_push_size _ rfl, rfl, rfl⟩
  have hal : a < s1.heap.objs.size := by
    obtain ⟨o, e, _⟩ := pl.isList
    exact Heap.lt_size e
  refine ⟨nl2, code_step (ps := ps) hcode (TB.code.keeps fun b o e => kp b o (I1.bk b o e)) (kp _ _ oP) ht fun code h3 tk more ex ge hP3 ht3 => ?_⟩
  have ge : s1.heap.objs.size + 1 ≤ h3.objs.size := by
    rw [← hsz2]
    exact ge
  obtain ⟨bm, ob, e1, e2, e3, e4, e5, e6, e7, e8⟩ := TB.bm
  have k3 : ∀ b o, b ≠ P → s1.heap.get? b = some o → h3.get? b = some o := fun b o n e => ex b o n (kp b o e)
  refine wpAny_builtinsFor (m := X.mg) (by rw [I1.ok.glob]; exact ((I1.mod.glob.keeps I1.bk).keeps kp).extBut ex TB.gP) e1 e2 (k3 _ _ e4 (I1.bk _ _ e5)) e6 e7 e8 ?_
  have aP : a ≠ P := fun z => by
    obtain ⟨o, e, d, n, e'⟩ := pl.isList
    rw [z, oP] at e
    cases e
    cases e'
  have iP : s1.heap.objs.size ≠ P := fun z => by
    have := Heap.lt_size oP
    rw [← z] at this
    exact Nat.lt_irrefl _ this
  have cP : cStatics ≠ P := fun z => by
    obtain ⟨_, ⟨o, es, ep, ho, hd, _⟩, _⟩ := I1.nolimit
    rw [z, oP] at ho
    cases ho
    cases hd
  have cl : cStatics < s1.heap.objs.size := let ⟨_, q, _⟩ := I1.nolimit; q.lt
  refine ⟨s1.heap.objs.size, [s1.heap.objs.size, a], [s1.heap.objs.size], its.toArray.size, fun i v => its.toArray[i]? = some v, fun i h => h.IsListIter s1.heap.objs.size a i ∧ h.IsList a its.toArray, fun _ => true, fun i y => y = .bool (tr i), rfl,
    fun A' hA => Walks.list hA _ _ (Nat.ne_of_lt hal) _, ⟨itA.at fun o e => ex _ o iP e, ?_⟩, fun b hb => ?_, nl2.extBut ex cP, fun z => ?_, fun href hk => ⟨fun A' E' i v t m _ _ _ _ _ => ?_, fun A' E' i v t m hA hv _ hn hm kk => ?_⟩, fun g h5 tk5 gs bare lt5 sz5 k5 W at5 => ?_⟩
  · obtain ⟨o, e, r⟩ := pl.isList
    exact ⟨o, k3 a o aP e, r⟩
  · show b < h3.objs.size
    rcases List.mem_cons.mp hb with z | z
    · rw [z]
      exact Nat.lt_of_lt_of_le (Nat.lt_succ_self _) ge
    · rw [List.mem_singleton.mp z]
      exact Nat.lt_of_lt_of_le (Nat.lt_succ_of_lt hal) ge
  · have z2 := List.mem_singleton.mp z
    rw [z2] at cl
    exact Nat.lt_irrefl _ cl
  · rw [List.forIn_nil]
    exact wpAny_pure ⟨rfl, k0 t⟩
  · -- one element
    have up : ∀ b o, b ≠ P → s1.heap.get? b = some o → t.heap.get? b = some o := fun b o n e => by
      have lb := Heap.lt_size e
      refine kk b (List.mem_range.mpr (show b < h3.objs.size from Nat.lt_of_lt_of_le (Nat.lt_succ_of_lt lb) ge)) (fun y => ?_) o (hk b o (k3 b o n e))
      rw [List.mem_singleton.mp y] at lb
      exact Nat.lt_irrefl _ lb
    have hv' : its[i]? = some v := by simpa using hv
    obtain ⟨w, ew, rw'⟩ : ∃ w, xs[i]? = some w ∧ RelV w v := by
      have lt : i < xs.length := by
        rw [nlen]
        exact (List.getElem?_eq_some_iff.mp hv').1
      obtain ⟨y, ey, ry⟩ := rv.get (List.getElem?_eq_getElem lt)
      rw [hv'] at ey
      cases ey
      exact ⟨_, List.getElem?_eq_getElem lt, ry⟩
    refine hel i w ew _ A' t E' _ ?_ fun u t' ru ku => ⟨ru, ku⟩
    refine ⟨S.kind, rfl, I1.ok.glob, rfl, I1.mod, fun b o e => up b o (fun z => ?_) (I1.bk b o e), fun b o e n => (I1.hok b o e).stay (fun d y hd ey => up d y (fun z => ?_) ey) (fun _ y => y) fun _ _ y => y, fun y v' e => ?_⟩
    · have := (I1.bs b o e).2
      rw [z, hP] at this
      cases this
    · rcases hd with q | q
      · rw [← q, z, hP] at e
        exact n ps (Option.some.inj e).symm
      · rw [z, hP] at q
        cases q
    · rw [List.lookup_cons] at e
      cases b : y == x with
      | true =>
        rw [b] at e
        have e' : y = x := by simpa using b
        cases e
        exact ⟨v, rw', .inl ⟨by rw [e']; exact S.loc, m, hn, by rw [e']; exact hm⟩⟩
      | false =>
        rw [b] at e
        obtain ⟨j, hN, hσ, hv2, hf⟩ := sn y v' e
        obtain ⟨m1, _, hl1⟩ := I1.loc
        obtain ⟨u, ru, lk⟩ := hl1 j y v' hN hσ (.inr hv2)
        rcases lk with ⟨q1, _⟩ | ⟨_, cc, hc, hcell⟩
        · have q1' : X.env.scope.names.lookup y = some .local := q1
          rcases hv2 with q2 | q2 <;> (rw [q1'] at q2; cases q2)
        · obtain ⟨oc, ec, dc⟩ := hcell
          refine ⟨u, ru, .inr ⟨hf, cc, NdefX.clo_has S.free (pair_of_lookup hf) hc, oc, up cc oc (fun z => ?_) ec, dc⟩⟩
          rw [z, oP] at ec
          cases ec
          cases dc
  · -- behind its making
    simp only [GxR.passing_true, List.length_range] at W
    have en : its.toArray.size = xs.length := by rw [List.size_toArray, nlen]
    refine hQ its.toArray.size tr H1 g _ (by rw [en]; exact hR) ⟨_, _, _, _, _, W.in4_1, at5, fun j y sj Qj Ej hy hq => ?_, fun s' mv => ?_⟩
    · obtain ⟨i, hij, rfl⟩ := hy
      obtain ⟨_, ej⟩ := List.getElem?_eq_some_iff.mp hij
      rw [List.getElem_range] at ej
      rw [← ej]
      exact wpAny_truthy_bool hq
    · have out : ∀ b o, s1.heap.get? b = some o → b ∉ h3.objs.size :: [s1.heap.objs.size] := fun b o e y => by
        have lb := Heap.lt_size e
        rcases List.mem_cons.mp y with z | z
        · rw [z] at lb
          have : (h3.objs.size : Nat) < s1.heap.objs.size := lb
          omega
        · rw [List.mem_singleton.mp z] at lb
          exact Nat.lt_irrefl _ lb
      have J := GxR.inv_tab (more := more) (h' := s'.heap) (g' := s'.gens) (d' := s'.drawn) (t' := s'.toks) I1 hP (fun b o n e => mv.heap b o (out b o e) (k5 b o (k3 b o n e))) (mv.heap P _ (out P _ oP) (k5 P _ hP3)) (AllBare.movedS (I1.bare.push bare) mv)
      rw [GxR.sh_eta s1 s' mv.os] at J
      exact ⟨_, ⟨⟨_, upd_same, ht3⟩, fun b n => upd_ne n⟩, J⟩
/-- any(test for x in a list), all(..) -/
def tGenL (X : Cx) (P : Addr) (x : Str) (sc : Scope) (elt : Expr) (fold : Nat → (Nat → Bool) → Bool) (te : TE) : TE := fun σ H Q => te σ H fun v H1 => ∃ (a : Addr) (xs : List V) (tr : Nat → Bool) (Γ : List (Str × V)), v = .ref a ∧ SqL X.K H1 a xs ∧ TabG H1 P ∧
  Seen X σ sc Γ ∧ (∀ j w, xs[j]? = some w → PU X sc H1 ((x, w) :: Γ) elt (.bl (tr j))) ∧ ∀ H2, Tabbed P H1 H2 → Q (.bl (fold xs.length tr)) H2
def anyTo (n : Nat) (tr : Nat → Bool) : Bool := (List.range n).any tr
def allTo (n : Nat) (tr : Nat → Bool) : Bool := (List.range n).all tr
section
variable {c P : Addr} {elt iter : Expr} {x : Str} {px p pos gpos : Pos} {sc : Scope} {te : TE} {k : Nat}
theorem pe_anyL (hr : Room k X.A) (hg : Gl X "any") (hm : X.mg "any" = none) (TB : TabB X.base X.mg c P) (hcode : X.env.code = .ref c) (S : Gsc X sc x) (hi : PE X iter te) (hs : ∀ v, genFold iter X.env v = pure v)
    (he : starEach [.GeneratorExp elt [⟨.Name x px, iter, [], 0⟩] sc gpos] X.env = (false, eval (.GeneratorExp elt [⟨.Name x px, iter, [], 0⟩] sc gpos) X.env) :: starEach [] X.env := by rfl) :
    PE X (.Call (.Name "any" p) [.GeneratorExp elt [⟨.Name x px, iter, [], 0⟩] sc gpos] [] pos) (tGenL X P x sc elt anyTo te) := by
  refine ⟨fun pins s σ H Q I h => wpAny_Call_Name_kw (ld_blt I hg hm boot_any (PyProof.Rows.callWith_builtin1 ?_ he (by rfl)))⟩
  rw [he]
  refine Calls.spliced_cons (gen_list (R := fun n tr H1 => ∀ H2, Tabbed P H1 H2 → Q (.bl (anyTo n tr)) H2) hr TB hcode (S.gens I.ok) hi hs I h fun n tr H1 g s5 hR ⟨fp, wr, G, F, sq, W, h0, tt, aft⟩ => Calls.spliced_nil ?_)
  refine call_any_walkS (W.self 0 _ _ _ h0 ⟨g, fp, wr, G, _, F, sq, _, rfl, W, h0, tt, fun s' mv => ?_⟩)
  obtain ⟨H2, T, J⟩ := aft s' mv
  exact ⟨.bl _, H2, J, rfl, hR H2 T⟩
theorem pe_allL (hr : Room k X.A) (hg : Gl X "all") (hm : X.mg "all" = none) (TB : TabB X.base X.mg c P) (hcode : X.env.code = .ref c) (S : Gsc X sc x) (hi : PE X iter te) (hs : ∀ v, genFold iter X.env v = pure v)
    (he : starEach [.GeneratorExp elt [⟨.Name x px, iter, [], 0⟩] sc gpos] X.env = (false, eval (.GeneratorExp elt [⟨.Name x px, iter, [], 0⟩] sc gpos) X.env) :: starEach [] X.env := by rfl) :
    PE X (.Call (.Name "all" p) [.GeneratorExp elt [⟨.Name x px, iter, [], 0⟩] sc gpos] [] pos) (tGenL X P x sc elt allTo te) := by
  refine ⟨fun pins s σ H Q I h => wpAny_Call_Name_kw (ld_blt I hg hm (by decide +kernel : bootBuiltins "all" = some (.builtin "all")) (PyProof.Rows.callWith_builtin1 ?_ he (by rfl)))⟩
  rw [he]
  refine Calls.spliced_cons (gen_list (R := fun n tr H1 => ∀ H2, Tabbed P H1 H2 → Q (.bl (allTo n tr)) H2) hr TB hcode (S.gens I.ok) hi hs I h fun n tr H1 g s5 hR ⟨fp, wr, G, F, sq, W, h0, tt, aft⟩ => Calls.spliced_nil ?_)
  refine call_all_walkS (W.self 0 _ _ _ h0 ⟨g, fp, wr, G, _, F, sq, _, rfl, W, h0, tt, fun s' mv => ?_⟩)
  obtain ⟨H2, T, J⟩ := aft s' mv
  exact ⟨.bl _, H2, J, rfl, hR H2 T⟩
end
end
end LE
-- GN
/-! any and all of a generator expression: whatever a for may walk, whatever target, the element by any judgement (it may call defs) -/
namespace GN
open PySem PySem.Spec PyProof.Rows L2 GenW
open GxR (TabB TabG Tabbed)
/-- the context in which such an element is reckoned; the expression's frame was made at s, over the around A -/
abbrev inGen (X : Cx) (s : Shared) (H : Hp) (A : Around) (ce : Env) (fp : List Addr) : Cx :=
  { X with s_0 := s, H_0 := H, env := ce, outer := X.stack, stack := ce :: X.stack, A := A.deeper ce, ex := fp, fn := fun _ => false, calm := true, pn := [], xe := fun _ _ => False }
/-- the names: the expression's own ones with their slots, or captured ones; none that a further one captures -/
structure NmOk (N : List Str) (ds sc : Scope) (own : List (Str × Nat)) : Prop where
  blk : BlkOk N ds sc own
  co : sc.isCoroutine = false
  cell : ∀ y ∈ sc.names, y.2 ≠ .cell
  dot : sc.names.lookup (".0" : Str) = some NameKind.local
theorem nmOk_by {N : List Str} {ds sc : Scope} {own : List (Str × Nat)} (b : BlkOk N ds sc own) (c : sc.isCoroutine = false := by rfl) (d : ∀ y ∈ sc.names, y.2 ≠ .cell := by decide +kernel) (e : sc.names.lookup (".0" : Str) = some NameKind.local := by decide +kernel) : NmOk N ds sc own := ⟨b, c, d, e⟩
section
variable {X : Cx} {pins : List (Addr × Obj)} {σ : L2.St} {H : Hp} {s s5 : Shared}
/-- only the table of generators, the marks and the count of texts are others -/
theorem inv_gens {s' : Shared} (I : Inv X pins σ H s) (ho : s'.os = s.os) (hh : s'.heap = s.heap) (hb : AllBare s'.gens) : Inv X pins σ H s' := by
  obtain ⟨a1, a2, a3, a4, a5, a6, a7, a8, a9, b1, b2⟩ := I
  refine ⟨a1, ho.trans a2, hb, ?_, ?_, ?_, a7, a8, ?_, ?_, b2⟩ <;> rw [hh] <;> assumption
theorem gen_start {sc : Scope} {own : List (Str × Nat)} {fp : List Addr} {A : Around} {code : Value} {m : Str → Option Value} (I : Inv X pins σ H s) (ok : NmOk X.N X.env.scope sc own) (hN : X.N.Nodup)
    (hfp : ∀ b ∈ fp, FpOk X pins H b ∧ b < s.heap.objs.size) (fr : A.frames = some X.stack) (hd : A.handled = none) (ho : s5.os = s.os) (hb : AllBare s5.gens)
    (kp : ∀ b o, s.heap.get? b = some o → s5.heap.get? b = some o) (ns : s5.heap.Ns s.heap.objs.size m) :
    Inv (inGen X s H A (genEnv sc (cloFrom X.env.cells sc.names []) s.heap.objs.size code builtinsNs X.env) fp) [] (wipe σ (own.map (·.2))) H s5 := by
  have hfree : ∀ y ∈ sc.names, y.2 = .free → ∃ c, X.env.cells.lookup y.1 = some c := fun y hy e => I.ok.has _ (ok.blk.free y hy e)
  have cm : ∀ {y c}, (cloFrom X.env.cells sc.names []).lookup y = some c → X.env.cells.lookup y = some c ∧ c < s.heap.objs.size := fun {y c} e => by
    rcases cloFrom_mem (PySem.mem_of_lookup e) with hm | ⟨h1, rfl⟩
    · cases hm
    · obtain ⟨c, hc⟩ := hfree _ h1 rfl
      rw [hc]
      obtain ⟨w, z⟩ := I.cell _ _ hc
      exact ⟨rfl, z.lt⟩
  have look : ∀ {y}, sc.names.lookup y = some .free → ∃ c, (cloFrom X.env.cells sc.names []).lookup y = some c ∧ X.env.cells.lookup y = some c := fun {y} hl => by
    obtain ⟨c', e'⟩ := mem_lookup (cloFrom_has (cells := X.env.cells) (acc := []) (PySem.mem_of_lookup hl))
    exact ⟨c', e', (cm e').1⟩
  have okG : (inGen X s H A (genEnv sc (cloFrom X.env.cells sc.names []) s.heap.objs.size code builtinsNs X.env) fp).Ok := by
    refine ⟨I.ok.mod, ok.blk.kind, I.ok.glob, rfl, Nat.le_refl _, fun y z c e1 e2 => I.ok.inj y z c (cm e1).1 (cm e2).1, fun y hy => ?_, fun y c z _ => absurd z Bool.false_ne_true, fun _ => hd, Around.frames_deeper fr, .inr ⟨rfl, rfl⟩,
      fun b hb => ⟨Nat.ne_of_lt (hfp b hb).2, fun y c e z => (hfp b hb).1.2.2.2.2.1 y c (cm e).1 z⟩, I.bs, Nat.le_trans I.ok.bsz I.sz, fun b o e hb => ?_, fun b hb z => ?_, I.stack, I.stkFree⟩
    · have hy' : sc.names.lookup y = some .cell ∨ sc.names.lookup y = some .free := hy
      rcases hy' with hy' | hy'
      · exact absurd rfl (ok.cell _ (PySem.mem_of_lookup hy'))
      · obtain ⟨c, h1, _⟩ := look hy'
        exact ⟨c, h1⟩
    · rcases (hfp b hb).1.2.2.2.1 with z | z
      · exact I.ok.noex b o e z
      · exact absurd (Nat.lt_of_lt_of_le (Heap.lt_size e) (Nat.le_trans I.ok.bsz z)) (Nat.lt_irrefl _)
    · rcases List.mem_cons.mp (I.stkSub b z) with z | z
      · exact (hfp b hb).1.2.1 z
      · exact (hfp b hb).1.2.2.1 z
  refine ⟨okG, ho, hb, Un.kept kp, ⟨m, ns, fun i y v e1 e2 e3 => ?_⟩, fun y c e => ?_, I.hok.fresh (Nat.le_refl _), fun y c e => I.freeC y c (cm e).1, fun p hp => absurd (show p ∈ ([] : List (Addr × Obj)) ++ [] from hp) (by simp), I.hok.kept kp, by rw [wipe_length]; exact I.len⟩
  · obtain ⟨e2, hne⟩ := wipe_some e2
    have e3 : Vis sc y := e3
    have fr : sc.names.lookup y = some .free := by
      rcases e3 with e | e | e
      · rcases ok.blk.own _ (PySem.mem_of_lookup e) (.inl rfl) with e' | e'
        · obtain ⟨p, hp, hpy⟩ := List.mem_map.mp e'
          have e5 := ok.blk.ix p hp
          have : p.1 = y := hpy
          rw [this] at e5
          exact absurd (List.mem_map.mpr ⟨p, hp, nodup_ix hN e5 e1⟩) hne
        · exact absurd (List.mem_of_getElem? e1) e'
      · exact absurd rfl (ok.cell _ (PySem.mem_of_lookup e))
      · exact e
    obtain ⟨m1, _, hl⟩ := I.loc
    have hvis : Vis X.env.scope y := .inr (ok.blk.free _ (PySem.mem_of_lookup fr) rfl)
    obtain ⟨w, r, q⟩ := hl i y v e1 e2 hvis
    obtain ⟨c, h1, h2⟩ := look fr
    refine ⟨w, r, .inr ⟨.inr fr, c, h1, ?_⟩⟩
    rcases q with ⟨k, _⟩ | ⟨_, c', e', z⟩
    · have k : X.env.scope.names.lookup y = some .local := k
      rcases ok.blk.free _ (PySem.mem_of_lookup fr) rfl with k' | k' <;> rw [show X.env.scope.names.lookup y = _ from k'] at k <;> cases k
    · rw [h2] at e'
      cases e'
      exact z.keeps kp
  · obtain ⟨w, z⟩ := I.cell y c (cm e).1
    exact ⟨w, z.keeps kp⟩
end
/-! ### one segment of the generator -/
/-- all goes well as long as W says so; vs: the expression's own slots, forgotten ahead of each turn -/
structure Way (J : It) (g : TG) (te : TE) (stop : Bool) (vs : List Nat) (σ : L2.St) (Q : VK) (W : Nat → Nat → Hp → Prop) : Prop where
  turn : ∀ i m H, W i m H → (J.stop i H ∧ Q (.bl (!stop)) H) ∨ (J.go i H ∧ ∀ x H2, J.yld i H x H2 → g x (wipe σ vs) H2 fun σ2 H3 => wipe σ2 vs = wipe σ vs ∧ te σ2 H3 fun v H4 => ∃ b, v = .bl b ∧ if b = stop then Q (.bl stop) H4 else ∃ m', m' < m ∧ W (i + 1) m' H4)
theorem inv_wipe {X : Cx} {pins : List (Addr × Obj)} {σ : L2.St} {H : Hp} {s : Shared} (vs : List Nat) (I : Inv X pins σ H s) : Inv X pins (wipe σ vs) H s := I.weak (wipe_length σ vs) fun _ _ e => (wipe_some e).1
/-- a state that looks the same to the generator -/
def Like (s s' : Shared) : Prop := s'.os = s.os ∧ s'.heap = s.heap ∧ AllBare s'.gens
def GEnd (Y : Cx) (ps : List (Addr × Obj)) (stop : Bool) (Q : VK) (s : Shared) : Prop := ∃ σ H, Inv Y ps σ H s ∧ Q (.bl (!stop)) H
def GPro (Y : Cx) (ps : List (Addr × Obj)) (stop : Bool) (Q : VK) : Protocol := fun _ _ v s kap =>
  ∃ b σ H, v = Value.bool b ∧ Inv Y ps σ H s ∧ if b = stop then Q (.bl stop) H else ∀ s', Like s s' → kap (.send .none) s'
theorem over_gen {A : Around} {elt tg iter : Expr} {ifs : List Expr} {sc : Scope} {pos : Pos} {it acc : Value} {ce : Env} : A.over (.compLoop (.GeneratorExp elt [⟨tg, iter, ifs, 0⟩] sc pos) 0 it acc ce) [] = A.deeper ce := by
  first
    | rfl
    | (obtain ⟨hd, d, fr, gs, u⟩ := A; simp [Around.over, Around.deeper, marksOver, frameCount, unitsOf, envsOf, guardsOf, pushEnvs, pushGuards, Code.envs, Code.env?, Code.isFrame, Code.guards, Code.isGuard, Code.weight, Code.frames, Code.isCreation, Code.isCaller, Code.cUnits])
theorem over_gen0 {A : Around} {elt tg iter : Expr} {ifs : List Expr} {sc : Scope} {pos : Pos} {it acc : Value} {ce : Env} : A.over (.compStart (.GeneratorExp elt [⟨tg, iter, ifs, 0⟩] sc pos) 0 it acc ce) [] = A.deeper ce := by
  first
    | rfl
    | (obtain ⟨hd, d, fr, gs, u⟩ := A; simp [Around.over, Around.deeper, marksOver, frameCount, unitsOf, envsOf, guardsOf, pushEnvs, pushGuards, Code.envs, Code.env?, Code.isFrame, Code.guards, Code.isGuard, Code.weight, Code.frames, Code.isCreation, Code.isCaller, Code.cUnits])
section
variable {Y : Cx} {A : Around} {ps : List (Addr × Obj)} {elt tg iter : Expr} {sc : Scope} {pos : Pos} {it : Addr} {fp : List Addr} {tn : Nat → Heap → Prop} {J : It} {g : TG} {te : TE} {stop : Bool} {Q : VK} {W : Nat → Nat → Hp → Prop} {vs : List Nat} {σ₀ : L2.St}
abbrev Rg (Y : Cx) (ps : List (Addr × Obj)) (stop : Bool) (Q : VK) : GenEnd := fun n s₀ r s₁ => r = .ok .next ∧ (fun (_ : Nat) (_ s : Shared) => GEnd Y ps stop Q s) n s₀ s₁
theorem seg_turns (hA : A.deeper Y.env = Y.A) (hx : ∀ e s, ¬ Y.xe e s) (hc : Y.calm = true) (hco : Y.env.scope.isCoroutine = false) (T : Turn Y.prog Y.w Y.K tg J fp it tn) (hg : PG Y tg g) (he : PE Y elt te) (hW : Way J g te stop vs σ₀ Q W)
    (fo : ∀ (H : Hp), (∀ b ∈ fp, H b = none) → ∀ b ∈ fp, FpOk Y ps H b) :
    ∀ (m n i : Nat) (H : Hp) (s₀ s : Shared), m < n → W i m H → Inv Y ps (wipe σ₀ vs) H s → tn i s.heap → (∀ b ∈ fp, H b = none) →
      Seg (model Y.prog Y.w) A (Rg Y ps stop Q) (GPro Y ps stop Q) n s₀ (.compLoop (.GeneratorExp elt [⟨tg, iter, [], 0⟩] sc pos) 0 (.ref it) .none Y.env)
        ((model Y.prog Y.w).den (.compLoop (.GeneratorExp elt [⟨tg, iter, [], 0⟩] sc pos) 0 (.ref it) .none Y.env)) [] s := by
  intro m
  induction m using Nat.strongRecOn with
  | ind m ih =>
    intro n i H s₀ s hmn hw I st fr
    generalize hσ : wipe σ₀ vs = σ at I
    have oA : A.over (.compLoop (.GeneratorExp elt [⟨tg, iter, [], 0⟩] sc pos) 0 (.ref it) .none Y.env) [] = Y.A := over_gen.trans hA
    show Seg _ A _ _ _ s₀ _ ((compTurn (.GeneratorExp elt [⟨tg, iter, [], 0⟩] sc pos) 0 (.ref it) .none Y.env).onRaise (leaving Y.env)) [] s
    rw [compTurn_gen, Sem.onRaise_eq_wrap]
    refine seg_bind_wrap (wpAny_standAt ?_)
    rcases hW.turn i m H hw with ⟨hs, q⟩ | ⟨hgo, step⟩
    · refine seg_bind_wrap ?_
      rw [oA]
      refine thn (T.done Y rfl rfl rfl hc i ps s σ H _ I (fo H fr) st hs) fun r s1 ⟨er, I1⟩ => ?_
      subst er
      exact seg_end (.ok .next) ⟨rfl, σ, H, I1, q⟩
    · refine seg_bind_wrap ?_
      rw [oA]
      refine thn (T.item Y rfl rfl rfl hc i ps s σ H _ I (fo H fr) st hgo) fun r s1 ⟨u, er, h1⟩ => ?_
      subst er
      refine seg_bind_wrap ?_
      rw [oA]
      refine thn h1 fun _ s2 ⟨x, H2, I2, rx, hy, st2, fr2⟩ => ?_
      have I2' := I2.pinned (fo H2 fr2) (T.obj _ _ st2)
      refine seg_bind_wrap ?_
      rw [oA]
      refine wpAny_mono (hg.run _ s2 σ H2 x u _ I2' rx (by have q := step x H2 hy; rw [hσ] at q; exact q)) (fun _ s3 h3 => ?_) fun e s' z => absurd z (hx e s')
      obtain ⟨σ3, H3, I3, hw3, q3⟩ := h3
      refine seg_bind_wrap ?_
      rw [oA]
      refine wpAny_tests_nil ?_
      obtain ⟨n, rfl⟩ : ∃ k, n = k + 1 := ⟨n - 1, by omega⟩
      simp only [if_true]
      have hy : ∀ v, yieldOut Y.env v = yieldValue v := fun v => by simp only [yieldOut, hco, Bool.false_eq_true, if_false]
      simp only [hy]
      rw [Sem.bind_eq_wrap', Sem.bind_eq_wrap', Sem.wrap_wrap, Sem.wrap_wrap]
      refine seg_wrap ?_
      rw [oA]
      refine wpAny_mono (he.run _ s3 σ3 H3 _ I3 q3) (fun y s4 h4 => ?_) fun e s' z => absurd z (hx e s')
      obtain ⟨v, H4, I4, ry, b, ev, q4⟩ := h4
      subst ev
      cases (show y = Value.bool b from ry)
      have st4 : tn (i + 1) s4.heap := T.keep _ _ _ st2 fun c hc o e => (I4.pin (c, o) (List.mem_append_right _ (List.mem_append_right _ (mem_pinsAt hc e)))).1
      have fr4 : ∀ c ∈ fp, H4 c = none := fun c hc => by
        obtain ⟨o, e, _⟩ := T.obj _ _ st2 c hc
        exact (I4.pin (c, o) (List.mem_append_right _ (List.mem_append_right _ (mem_pinsAt hc e)))).2.1
      refine seg_at (seg_yield rfl rfl rfl ⟨b, σ3, H4, rfl, I4.unpinned, ?_⟩)
      by_cases hb : b = stop
      · rw [if_pos hb] at q4 ⊢
        exact q4
      · rw [if_neg hb] at q4 ⊢
        obtain ⟨m', hm, w4⟩ := q4
        intro s5 lk
        refine seg_again rfl (ih m' hm n (i + 1) H4 s5 s5 (by omega) w4 (inv_gens (by rw [hσ, ← hw3]; exact inv_wipe vs I4.unpinned) lk.1 lk.2.1 lk.2.2) ?_ fr4)
        rw [lk.2.1]
        exact st4
theorem seg_first (hA : A.deeper Y.env = Y.A) (hx : ∀ e s, ¬ Y.xe e s) (hc : Y.calm = true) (hco : Y.env.scope.isCoroutine = false) (T : Turn Y.prog Y.w Y.K tg J fp it tn) (hg : PG Y tg g) (he : PE Y elt te) (hW : Way J g te stop vs σ₀ Q W)
    (fo : ∀ (H : Hp), (∀ b ∈ fp, H b = none) → ∀ b ∈ fp, FpOk Y ps H b) {m n : Nat} {H : Hp} {s₀ s : Shared} (hmn : m < n) (hw : W 0 m H) (I : Inv Y ps (wipe σ₀ vs) H s) (st : tn 0 s.heap) (fr : ∀ b ∈ fp, H b = none) :
    Seg (model Y.prog Y.w) A (Rg Y ps stop Q) (GPro Y ps stop Q) n s₀ (.compStart (.GeneratorExp elt [⟨tg, iter, [], 0⟩] sc pos) 0 (.ref it) .none Y.env)
        ((model Y.prog Y.w).den (.compStart (.GeneratorExp elt [⟨tg, iter, [], 0⟩] sc pos) 0 (.ref it) .none Y.env)) [] s := by
  have loop := seg_turns (iter := iter) (sc := sc) (pos := pos) hA hx hc hco T hg he hW fo m n 0 H s₀ s hmn hw I st fr
  show Seg _ A _ _ _ s₀ _ ((compStart (.GeneratorExp elt [⟨tg, iter, [], 0⟩] sc pos) 0 (.ref it) .none Y.env).onRaise (leaving Y.env)) [] s
  unfold compStart
  rw [Sem.onRaise_eq_wrap]
  show Seg _ A _ _ _ s₀ _ ((ask >>= _).wrap _ _ _ _) [] s
  refine seg_bind_wrap (wpAny_askSetting ?_)
  split
  · exact seg_again rfl loop
  · first
      | exact seg_bind_wrap (wpAny_rule (seg_bind_wrap (wpAny_standAt (seg_bind_wrap (T.self _ 0 s _ _ st (seg_again rfl loop))))))
      | (refine seg_bind_wrap (wpAny_rule ?_); show Seg _ A _ _ _ s₀ _ ((standAt iter.pos >>= _).wrap _ _ _ _) [] s; exact seg_bind_wrap (wpAny_standAt (seg_bind_wrap (T.self _ 0 s _ _ st (seg_again rfl loop)))))
end
/-! ### what consumes it -/
/-- the generator sleeps, n wakings at most are left -/
def Ready (Y : Cx) (A : Around) (ps : List (Addr × Obj)) (g : Nat) (stop : Bool) (Q : VK) (n : Nat) (s : Shared) : Prop :=
  (∃ (σ : L2.St) (H : Hp), Inv Y ps σ H s) ∧ ∃ gs, s.gens[g]? = some gs ∧ ∀ s', Like s s' → gs.Goes (model Y.prog Y.w) A (Rg Y ps stop Q) (GPro Y ps stop Q) n (.send .none) s'
/-- what a waking hands out -/
def Woke (Y : Cx) (A : Around) (ps : List (Addr × Obj)) (g : Nat) (stop : Bool) (Q : VK) (n : Nat) (r : Option Value) (s : Shared) : Prop :=
  match r with
  | none => GEnd Y ps stop Q s
  | some v => ∃ b, v = Value.bool b ∧ if b = stop then ∃ σ H, Inv Y ps σ H s ∧ Q (.bl stop) H else ∃ k, k < n ∧ Ready Y A ps g stop Q k s
theorem bare_set {gens : Array GenState} {g : Nat} {x : GenState} (h : AllBare gens) (hx : x.bare = true) : AllBare (gens.setIfInBounds g x) := fun y hy => by
  rcases Array.mem_or_eq_of_mem_setIfInBounds hy with z | z
  · exact h y z
  · rw [z]
    exact hx
theorem set_there {s : Shared} {g : Nat} {x : GenState} (h : g + 1 ≤ (s.setGen g x).gens.size) : (s.setGen g x).gens[g]? = some x := by
  rw [setGen_size] at h
  have : g < s.gens.size := h
  simp [Shared.setGen, this]
section
variable {Y : Cx} {A : Around} {ps : List (Addr × Obj)} {a : Addr} {ao : Obj} {g : Nat} {stop : Bool} {Q : VK}
theorem woken {n : Nat} {s : Shared} {E : Value → Shared → Prop} (hh : A.handled = none) (hroom : A.depth < recursionLimit) (ha : (a, ao) ∈ ps) (hao : ∃ nm qn, ao.cls = .type "generator" ∧ ao.data = .fields #[.int g 0, nm, qn] ∧ ao.slots = #[])
    (h : Ready Y A.in1 ps g stop Q n s) : wpAny (model Y.prog Y.w) A (pyNext (.ref a)) (Woke Y A.in1 ps g stop Q n) E s := by
  obtain ⟨⟨σ, H, I⟩, gs, hgs, go⟩ := h
  obtain ⟨nm, qn, c1, c2, c3⟩ := hao
  have ge : s.heap.IsGen a g := ⟨ao, nm, qn, (I.pin (a, ao) (List.mem_append_right _ ha)).1, c1, c2, c3⟩
  have glt : g + 1 ≤ s.gens.size := by
    obtain ⟨z, _⟩ := Array.getElem?_eq_some_iff.mp hgs
    exact z
  have b0 : AllBare (s.setGen g .running).gens := bare_set I.bare rfl
  refine wpAny_gsz glt (wpAny_mono (wpAny_pyNext_genexpQ (P := fun _ _ s => GEnd Y ps stop Q s) hh I.nolimit hroom ge hgs (go _ ⟨rfl, rfl, b0⟩) (fun v s1 gs' hb hv => ?_) (fun s1 hp h' hk => ?_)) (fun r s' z => z) fun e s' (z : False) => False.elim z)
  · intro hsz
    obtain ⟨b, σ1, H1, rfl, I1, q⟩ := hv
    have b1 : AllBare (s1.setGen g gs').gens := bare_set I1.bare hb
    have I2 : Inv Y ps σ1 H1 (s1.setGen g gs') := inv_gens I1 rfl rfl b1
    refine ⟨b, rfl, ?_⟩
    by_cases e : b = stop
    · rw [if_pos e] at q ⊢
      exact ⟨σ1, H1, I2, q⟩
    · rw [if_neg e] at q ⊢
      cases n with
      | zero => exact (q s1 ⟨rfl, rfl, I1.bare⟩).elim
      | succ k => exact ⟨k, Nat.lt_succ_self k, ⟨σ1, H1, I2⟩, gs', set_there hsz, fun s' lk => q s' ⟨lk.1, lk.2.1, lk.2.2⟩⟩
  · intro _
    obtain ⟨σ1, H1, I1, q⟩ := hp
    have I2 : Inv Y ps σ1 H1 { s1 with heap := h', toks := s1.toks } := I1.kept hk
    exact ⟨σ1, H1, inv_gens I2 rfl rfl (bare_set I1.bare rfl), q⟩
/-- how the builtin ends -/
def Told (Y : Cx) (ps : List (Addr × Obj)) (Q : VK) (r : Result) (s : Shared) : Prop := ∃ b σ H, r = .ok (.ret (.bool b)) ∧ Inv Y ps σ H s ∧ Q (.bl b) H
theorem loop_all (hh : A.handled = none) (hroom : A.depth < recursionLimit) (ha : (a, ao) ∈ ps) (hao : ∃ nm qn, ao.cls = .type "generator" ∧ ao.data = .fields #[.int g 0, nm, qn] ∧ ao.slots = #[]) :
    ∀ (n : Nat) (s : Shared), Ready Y A.in1.in1 ps g false Q n s → codeAny (model Y.prog Y.w) A (.builtin "all.loop" ⟨[.ref a], []⟩) (Told Y ps Q) s := by
  intro n
  induction n using Nat.strongRecOn with
  | ind n ih =>
    intro s h
    refine codeAny_builtin F.entry_all_loop ?_
    rw [Around.under_plainId F.plain_all_loop _]
    show wpAny _ A.in1 (pyNext (.ref a) >>= _) _ _ s
    refine wpAny_bind (wpAny_mono (woken (A := A.in1) hh hroom ha hao h) (fun r s' w => ?_) fun _ _ z => z)
    cases r with
    | none =>
      obtain ⟨σ, H, I, q⟩ := w
      exact wpAny_bind (wpAny_rule (wpAny_pure ⟨true, σ, H, rfl, I, q⟩))
    | some v =>
      obtain ⟨b, rfl, w⟩ := w
      refine wpAny_bind (wpAny_holding (wpAny_truthy_bool ?_))
      refine wpAny_bind (wpAny_letGo ?_)
      cases b with
      | true =>
        rw [if_neg (by decide)] at w
        obtain ⟨k, hk, w⟩ := w
        simp only [if_true]
        exact wpAny_pure ⟨plainId_quiet F.plain_all_loop _, ih k hk s' w⟩
      | false =>
        rw [if_pos rfl] at w
        obtain ⟨σ, H, I, q⟩ := w
        simp only [Bool.false_eq_true, if_false]
        exact wpAny_bind (wpAny_rule (wpAny_pure ⟨false, σ, H, rfl, I, q⟩))
theorem loop_any (hh : A.handled = none) (hroom : A.depth < recursionLimit) (ha : (a, ao) ∈ ps) (hao : ∃ nm qn, ao.cls = .type "generator" ∧ ao.data = .fields #[.int g 0, nm, qn] ∧ ao.slots = #[]) :
    ∀ (n : Nat) (s : Shared), Ready Y A.in1.in1 ps g true Q n s → codeAny (model Y.prog Y.w) A (.builtin "any.loop" ⟨[.ref a], []⟩) (Told Y ps Q) s := by
  intro n
  induction n using Nat.strongRecOn with
  | ind n ih =>
    intro s h
    refine codeAny_builtin F.entry_any_loop ?_
    rw [Around.under_plainId F.plain_any_loop _]
    show wpAny _ A.in1 (pyNext (.ref a) >>= _) _ _ s
    refine wpAny_bind (wpAny_mono (woken (A := A.in1) hh hroom ha hao h) (fun r s' w => ?_) fun _ _ z => z)
    cases r with
    | none =>
      obtain ⟨σ, H, I, q⟩ := w
      exact wpAny_bind (wpAny_rule (wpAny_pure ⟨false, σ, H, rfl, I, q⟩))
    | some v =>
      obtain ⟨b, rfl, w⟩ := w
      refine wpAny_bind (wpAny_holding (wpAny_truthy_bool ?_))
      refine wpAny_bind (wpAny_letGo ?_)
      cases b with
      | false =>
        rw [if_neg (by decide)] at w
        obtain ⟨k, hk, w⟩ := w
        simp only [Bool.false_eq_true, if_false]
        exact wpAny_pure ⟨plainId_quiet F.plain_any_loop _, ih k hk s' w⟩
      | true =>
        rw [if_pos rfl] at w
        obtain ⟨σ, H, I, q⟩ := w
        simp only [if_true]
        exact wpAny_bind (wpAny_rule (wpAny_pure ⟨true, σ, H, rfl, I, q⟩))
end
/-! ### its making -/
/-- .. over iter, P the def's own table of code -/
def tGn (P : Addr) (own : List Nat) (stop : Bool) (wi : TI) (g : TG) (te : TE) : TE := fun σ H Q => wi σ H fun J H1 => TabG H1 P ∧ ∃ W : Nat → Nat → Hp → Prop, (∀ H2, Tabbed P H1 H2 → ∃ m, W 0 m H2) ∧ Way J g te stop own σ Q W
/-- it is made, nothing has been woken -/
def Fresh (X : Cx) (pins : List (Addr × Obj)) (σ : L2.St) (stop : Bool) (Q : VK) (a : Addr) (s : Shared) : Prop :=
  ∃ (Y : Cx) (ao : Obj) (g n : Nat), Y.prog = X.prog ∧ Y.w = X.w ∧ (∃ nm qn, ao.cls = .type "generator" ∧ ao.data = .fields #[.int g 0, nm, qn] ∧ ao.slots = #[]) ∧ Ready Y X.A.in1.in1 [(a, ao)] g stop Q n s ∧
    ∀ σ' H' s', Inv Y [(a, ao)] σ' H' s' → Inv X pins σ H' s'
section
variable {X : Cx} {pins : List (Addr × Obj)} {σ : L2.St} {H : Hp} {s : Shared} {c P : Addr} {elt tg iter : Expr} {sc : Scope} {own : List (Str × Nat)} {wi : TI} {g : TG} {te : TE} {k : Nat} {stop : Bool} {gpos : Pos}
theorem gen_made {Q : VK} {Q' : Value → Shared → Prop} (hr : Room (k + 1) X.A) (hN : X.N.Nodup) (TB : TabB X.base X.mg c P) (hcode : X.env.code = .ref c) (ok : NmOk X.N X.env.scope sc own) (hi : PI X tg iter wi) (hs : ∀ v, genFold iter X.env v = pure v)
    (hg : ∀ (s : Shared) (H : Hp) (A : Around) (C : Addr) (cd : Value) (fp : List Addr), PG (inGen X s H A (genEnv sc (cloFrom X.env.cells sc.names []) C cd builtinsNs X.env) fp) tg g)
    (he : ∀ (s : Shared) (H : Hp) (A : Around) (C : Addr) (cd : Value) (fp : List Addr), Room k (A.deeper (genEnv sc (cloFrom X.env.cells sc.names []) C cd builtinsNs X.env)) → A.guards = X.A.guards → PE (inGen X s H A (genEnv sc (cloFrom X.env.cells sc.names []) C cd builtinsNs X.env) fp) elt te)
    (I : Inv X pins σ H s) (h : tGn P (own.map (·.2)) stop wi g te σ H Q) (hQ : ∀ a s', Fresh X pins σ stop Q a s' → Q' (.ref a) s') :
    wpAny (model X.prog X.w) X.A (eval (.GeneratorExp elt [⟨tg, iter, [], 0⟩] sc gpos) X.env) Q' X.xe s := by
  have hfree : ∀ y ∈ sc.names, y.2 = .free → ∃ c, X.env.cells.lookup y.1 = some c := fun y hy e => I.ok.has _ (ok.blk.free y hy e)
  refine wpAny_GeneratorExp_make ok.co (closure_ok hfree) ok.cell ok.dot ok.blk.kind (by have := hr.dp; omega) ?_ hs
  refine thn (hi.run pins s σ H _ I h) fun xv s1 hx => thn hx fun itv s2 h2 => ?_
  obtain ⟨it, fp, tn, J, H2, rfl, I2, T, st2, f2, ⟨qs, hP, ht⟩, W, w0, way⟩ := h2
  have oP : s2.heap.get? P = some { cls := .none, data := .fields qs } := I2.hok P _ hP
  have nP : ∀ b ∈ fp, b ≠ P := fun b hb z => by
    have := (f2 b hb).1
    rw [z, hP] at this
    cases this
  refine ⟨I2.nolimit, LE.code_step (ps := qs) hcode (TB.code.keeps I2.bk) oP ht fun code h3 tk more ex ge hP3 ht3 => ?_⟩
  have I4 : Inv X pins σ (upd H2 P (.tbl (qs ++ more))) { s2 with heap := h3, toks := tk } := GxR.inv_tab (g' := s2.gens) (d' := s2.drawn) (t' := tk) I2 hP (fun b o n e => ex b o n e) hP3 I2.bare
  have tab : Tabbed P H2 (upd H2 P (.tbl (qs ++ more))) := ⟨⟨_, upd_same, ht3⟩, fun b n => upd_ne n⟩
  have st4 : tn 0 h3 := T.keep _ _ _ st2 fun b hb o e => ex b o (nP b hb) e
  have f4 : ∀ b ∈ fp, FpOk X pins (upd H2 P (.tbl (qs ++ more))) b := fun b hb => ⟨by rw [upd_ne (nP b hb)]; exact (f2 b hb).1, (f2 b hb).2⟩
  have lt4 : ∀ b ∈ fp, b < h3.objs.size := fun b hb => by
    obtain ⟨o, e, _⟩ := T.obj _ _ st4 b hb
    exact Heap.lt_size e
  obtain ⟨m0, w0⟩ := w0 _ tab
  generalize hH4 : upd H2 P (.tbl (qs ++ more)) = H4 at I4 tab f4 w0
  generalize hs4 : ({ s2 with heap := h3, toks := tk } : Shared) = s4 at I4
  have e4 : s4.heap = h3 := by rw [← hs4]
  rw [← e4] at st4 lt4
  obtain ⟨bm, ob, e1, e2, e3, e4', e5, e6, e7, e8⟩ := TB.bm
  refine wpAny_builtinsFor (m := X.mg) (by rw [I4.ok.glob]; exact I4.mod.glob.keeps I4.bk) e1 e2 (I4.bk _ _ e5) e6 e7 e8 ?_
  intro h' hn' hs'
  have hsz : h'.objs.size = s4.heap.objs.size + 1 := by rw [hs'.1, Heap.size_push]
  have keep' : ∀ b o, s4.heap.get? b = some o → h'.get? b = some o := fun b o e => hs'.extBut b o (Nat.ne_of_lt (Heap.lt_size e)) (Heap.get?_push_of_some _ e)
  generalize hce : genEnv sc (cloFrom X.env.cells sc.names []) s4.heap.objs.size code builtinsNs X.env = ce
  generalize hs5 : ({ s4 with gens := s4.gens.push (.fresh (.compStart (.GeneratorExp elt [⟨tg, iter, [], 0⟩] sc gpos) 0 (.ref it) .none ce)), toks := s4.toks + 1 + 1 + 1, heap := h'.push { cls := .type "generator", data := .fields #[.int s4.gens.size 0, .str "<genexpr>" (s4.toks + 1), .str (X.env.qual ++ "<genexpr>") (s4.toks + 1 + 1)] } } : Shared) = s5
  have h5 : s5.heap = h'.push { cls := .type "generator", data := .fields #[.int s4.gens.size 0, .str "<genexpr>" (s4.toks + 1), .str (X.env.qual ++ "<genexpr>") (s4.toks + 1 + 1)] } := by rw [← hs5]
  have g5 : s5.gens = s4.gens.push (.fresh (.compStart (.GeneratorExp elt [⟨tg, iter, [], 0⟩] sc gpos) 0 (.ref it) .none ce)) := by rw [← hs5]
  have o5 : s5.os = s4.os := by rw [← hs5]
  have kp : ∀ b o, s4.heap.get? b = some o → s5.heap.get? b = some o := fun b o e => by
    rw [h5]
    exact Heap.get?_push_of_some _ (keep' b o e)
  have hA : X.A.in1.in1.handled = none := hr.hd
  have J5 := gen_start (A := X.A.in1.in1) (code := code) (s5 := s5) (m := fun y => if y = (".0" : Str) then some (.ref it) else none) I4 ok hN (fun b hb => ⟨f4 b hb, lt4 b hb⟩) (show X.A.in1.in1.frames = _ from I4.ok.frames) hA o5
    (by rw [g5]; exact I4.bare.push rfl) kp (by rw [h5]; exact hn'.push _)
  have pg := hg s4 H4 X.A.in1.in1 s4.heap.objs.size code fp
  have pe := he s4 H4 X.A.in1.in1 s4.heap.objs.size code fp ⟨hr.hd, by have := hr.dp; show X.A.depth + 1 + 3 * k + 5 < _; omega, by have := hr.un; show X.A.units + 1 + 1 + 3 + 16 * k + 200 < _; omega⟩ rfl
  rw [hce] at J5 pg pe
  have hcl : ce.locals = s4.heap.objs.size := by rw [← hce]; rfl
  have hcs : ce.scope = sc := by rw [← hce]; rfl
  have hcc : ce.cells = cloFrom X.env.cells sc.names [] := by rw [← hce]; rfl
  have ae : h'.objs.size = s4.heap.objs.size + 1 := hsz
  have fsS : ∀ b ∈ frs X.stack, b < s4.heap.objs.size := fun b hb => by
    rcases List.mem_cons.mp (I4.stkSub b hb) with z | z
    · rw [z]
      exact I4.lt
    · rcases Nat.lt_or_ge b s4.heap.objs.size with y | y
      · exact y
      · exact absurd z (I4.nofs y)
  refine hQ _ _ ⟨inGen X s4 H4 X.A.in1.in1 ce fp, { cls := .type "generator", data := .fields #[.int s4.gens.size 0, .str "<genexpr>" (s4.toks + 1), .str (X.env.qual ++ "<genexpr>") (s4.toks + 1 + 1)] }, s4.gens.size, m0 + 1, rfl, rfl, ⟨_, _, rfl, rfl, rfl⟩, ?_, fun σ' H' s' J' => ?_⟩
  · have J6 : Inv (inGen X s4 H4 X.A.in1.in1 ce fp) [(h'.objs.size, { cls := .type "generator", data := .fields #[.int s4.gens.size 0, .str "<genexpr>" (s4.toks + 1), .str (X.env.qual ++ "<genexpr>") (s4.toks + 1 + 1)] })] (wipe σ (own.map (·.2))) H4 s5 := by
      refine J5.pins_of fun p hp => ?_
      rw [List.mem_singleton.mp hp]
      refine ⟨by rw [h5]; exact Heap.get?_push_size _ rfl, I4.hok.fresh (by rw [ae]; exact Nat.le_succ _), by show h'.objs.size ≠ ce.locals; rw [hcl, ae]; exact Nat.succ_ne_self _, fun z => ?_, fun v z => nomatch z⟩
      have lz : h'.objs.size < s4.heap.objs.size := fsS _ z
      rw [ae] at lz
      exact absurd lz (Nat.not_lt.mpr (Nat.le_succ _))
    refine ⟨⟨_, _, J6⟩, .fresh (.compStart (.GeneratorExp elt [⟨tg, iter, [], 0⟩] sc gpos) 0 (.ref it) .none ce), (by rw [g5]; exact Array.getElem?_push_size ..), fun s6 lk => ⟨rfl, ?_⟩⟩
    refine seg_first (Y := inGen X s4 H4 X.A.in1.in1 ce fp) (A := X.A.in1.in1) (T := T) (W := W) (J := J) rfl (fun _ _ z => z) rfl (by show ce.scope.isCoroutine = false; rw [hcs]; exact ok.co) pg pe way (fun Hx hn b hb => ?_) (Nat.lt_succ_self m0) w0 (inv_gens J6 lk.1 lk.2.1 lk.2.2) (by rw [lk.2.1]; exact T.keep _ _ _ st4 fun b _ o e => kp b o e) fun b hb => (f4 b hb).1
    have lb := lt4 b hb
    refine ⟨hn b hb, by show b ≠ ce.locals; rw [hcl]; exact Nat.ne_of_lt lb, fun z => ?_, .inl hb, fun y cc e z => ?_, fun p hp z => ?_⟩
    · rcases List.mem_cons.mp (I4.stkSub b z) with y | y
      · exact (f4 b hb).2.1 y
      · exact (f4 b hb).2.2.1 y
    · have e : ce.cells.lookup y = some cc := e
      rw [hcc] at e
      rcases cloFrom_mem (PySem.mem_of_lookup e) with hm | ⟨h1, h2⟩
      · cases hm
      · obtain ⟨c2, e2⟩ := hfree _ h1 rfl
        have e2' : X.env.cells.lookup y = some c2 := e2
        rw [e2'] at h2
        exact (f4 b hb).2.2.2.2.1 y c2 e2 (by rw [← z]; exact h2.symm)
    · have hp' : p ∈ [(h'.objs.size, ({ cls := .type "generator", data := .fields #[.int s4.gens.size 0, .str "<genexpr>" (s4.toks + 1), .str (X.env.qual ++ "<genexpr>") (s4.toks + 1 + 1)] } : Obj))] := hp
      rw [List.mem_singleton.mp hp'] at z
      have z' : h'.objs.size = b := z
      rw [← z', ae] at lb
      exact absurd lb (Nat.not_lt.mpr (Nat.le_succ _))
  · refine I4.call' (ch := fp) J'.os J'.base J'.hok J'.bare fun b hb => ?_
    have := f4 b hb
    exact ⟨this.2.2.2.1, this.2.1, this.2.2.2.2.1, this.2.2.2.2.2⟩
section
variable {p pos : Pos}
theorem pe_allG (hr : Room (k + 1) X.A) (hN : X.N.Nodup) (hgl : Gl X "all") (hm : X.mg "all" = none) (TB : TabB X.base X.mg c P) (hcode : X.env.code = .ref c) (ok : NmOk X.N X.env.scope sc own) (hi : PI X tg iter wi)
    (hg : ∀ (s : Shared) (H : Hp) (A : Around) (C : Addr) (cd : Value) (fp : List Addr), PG (inGen X s H A (genEnv sc (cloFrom X.env.cells sc.names []) C cd builtinsNs X.env) fp) tg g)
    (he : ∀ (s : Shared) (H : Hp) (A : Around) (C : Addr) (cd : Value) (fp : List Addr), Room k (A.deeper (genEnv sc (cloFrom X.env.cells sc.names []) C cd builtinsNs X.env)) → A.guards = X.A.guards → PE (inGen X s H A (genEnv sc (cloFrom X.env.cells sc.names []) C cd builtinsNs X.env) fp) elt te)
    (hs : ∀ v, genFold iter X.env v = pure v := by intro _; rfl) (hst : starEach [.GeneratorExp elt [⟨tg, iter, [], 0⟩] sc gpos] X.env = (false, eval (.GeneratorExp elt [⟨tg, iter, [], 0⟩] sc gpos) X.env) :: starEach [] X.env := by rfl) :
    PE X (.Call (.Name "all" p) [.GeneratorExp elt [⟨tg, iter, [], 0⟩] sc gpos] [] pos) (tGn P (own.map (·.2)) false wi g te) := by
  refine ⟨fun pins s σ H Q I h => wpAny_Call_Name_kw (ld_blt I hgl hm (by decide +kernel : bootBuiltins "all" = some (.builtin "all")) (PyProof.Rows.callWith_builtin1 ?_ hst (by rfl)))⟩
  rw [hst]
  refine Calls.spliced_cons (gen_made hr hN TB hcode ok hi hs hg he I h fun a s5 ⟨Y, ao, gn, n, rfl1, rfl2, hao, rd, back⟩ => Calls.spliced_nil ?_)
  refine call_function_tree F.kind_all F.plain_all F.entry_all (F.args_all1 _) ?_
  unfold Builtin.«all»
  refine wpAny_bind (m := oneArg "all" _) (wpAny_pure ?_)
  obtain ⟨nm, qn, c1, c2, c3⟩ := id hao
  obtain ⟨⟨σ6, H6, I6⟩, _⟩ := id rd
  rw [← rfl1, ← rfl2]
  refine wpAny_bind (wpAny_pyIter_gen (g := gn) ⟨ao, nm, qn, (I6.pin (a, ao) (List.mem_append_right _ List.mem_cons_self)).1, c1, c2, c3⟩ ?_)
  refine wpAny_pure ⟨plainId_quiet F.plain_all_loop _, codeAny_mono (loop_all (A := X.A) hr.hd (by have := hr.dp; omega) List.mem_cons_self hao n s5 rd) fun r s' z => ?_⟩
  obtain ⟨b, σ7, H7, rfl, I7, q⟩ := z
  exact ⟨.bl b, H7, back _ _ _ I7, rfl, q⟩
theorem pe_anyG (hr : Room (k + 1) X.A) (hN : X.N.Nodup) (hgl : Gl X "any") (hm : X.mg "any" = none) (TB : TabB X.base X.mg c P) (hcode : X.env.code = .ref c) (ok : NmOk X.N X.env.scope sc own) (hi : PI X tg iter wi)
    (hg : ∀ (s : Shared) (H : Hp) (A : Around) (C : Addr) (cd : Value) (fp : List Addr), PG (inGen X s H A (genEnv sc (cloFrom X.env.cells sc.names []) C cd builtinsNs X.env) fp) tg g)
    (he : ∀ (s : Shared) (H : Hp) (A : Around) (C : Addr) (cd : Value) (fp : List Addr), Room k (A.deeper (genEnv sc (cloFrom X.env.cells sc.names []) C cd builtinsNs X.env)) → A.guards = X.A.guards → PE (inGen X s H A (genEnv sc (cloFrom X.env.cells sc.names []) C cd builtinsNs X.env) fp) elt te)
    (hs : ∀ v, genFold iter X.env v = pure v := by intro _; rfl) (hst : starEach [.GeneratorExp elt [⟨tg, iter, [], 0⟩] sc gpos] X.env = (false, eval (.GeneratorExp elt [⟨tg, iter, [], 0⟩] sc gpos) X.env) :: starEach [] X.env := by rfl) :
    PE X (.Call (.Name "any" p) [.GeneratorExp elt [⟨tg, iter, [], 0⟩] sc gpos] [] pos) (tGn P (own.map (·.2)) true wi g te) := by
  refine ⟨fun pins s σ H Q I h => wpAny_Call_Name_kw (ld_blt I hgl hm boot_any (PyProof.Rows.callWith_builtin1 ?_ hst (by rfl)))⟩
  rw [hst]
  refine Calls.spliced_cons (gen_made hr hN TB hcode ok hi hs hg he I h fun a s5 ⟨Y, ao, gn, n, rfl1, rfl2, hao, rd, back⟩ => Calls.spliced_nil ?_)
  refine call_function_tree F.kind_any F.plain_any F.entry_any (F.args_any1 _) ?_
  unfold Builtin.«any»
  refine wpAny_bind (m := oneArg "any" _) (wpAny_pure ?_)
  obtain ⟨nm, qn, c1, c2, c3⟩ := id hao
  obtain ⟨⟨σ6, H6, I6⟩, _⟩ := id rd
  rw [← rfl1, ← rfl2]
  refine wpAny_bind (wpAny_pyIter_gen (g := gn) ⟨ao, nm, qn, (I6.pin (a, ao) (List.mem_append_right _ List.mem_cons_self)).1, c1, c2, c3⟩ ?_)
  refine wpAny_pure ⟨plainId_quiet F.plain_any_loop _, codeAny_mono (loop_any (A := X.A) hr.hd (by have := hr.dp; omega) List.mem_cons_self hao n s5 rd) fun r s' z => ?_⟩
  obtain ⟨b, σ7, H7, rfl, I7, q⟩ := z
  exact ⟨.bl b, H7, back _ _ _ I7, rfl, q⟩
end
end
/-- over what Walk tells of, by a word of the turn and the heap -/
theorem gn_it {J : It} {n : Nat} {G : Hp → Prop} {Yl : Nat → Hp → V → Hp → Prop} (w : Walk J n G Yl) {P : Addr} {g : TG} {te : TE} {stop : Bool} {vs : List Nat} {σ : L2.St} {H1 : Hp} {Q : VK} (Pv : Nat → Hp → Prop) (h0 : ∀ H2, Tabbed P H1 H2 → Pv 0 H2)
    (hG : ∀ i H, i ≤ n → Pv i H → G H) (hs : ∀ i x H H', i < n → Pv i H → Yl i H x H' → g x (wipe σ vs) H' fun σ2 H2 => wipe σ2 vs = wipe σ vs ∧ te σ2 H2 fun v H4 => ∃ b, v = .bl b ∧ if b = stop then Q (.bl stop) H4 else Pv (i + 1) H4)
    (hd : ∀ H, Pv n H → Q (.bl (!stop)) H) : ∃ W : Nat → Nat → Hp → Prop, (∀ H2, Tabbed P H1 H2 → ∃ m, W 0 m H2) ∧ Way J g te stop vs σ Q W := by
  refine ⟨fun i m H => m = n - i ∧ i ≤ n ∧ Pv i H, fun H2 t => ⟨n, by simp, Nat.zero_le _, h0 H2 t⟩, ⟨?_⟩⟩
  rintro i m H ⟨rfl, hi, p⟩
  have q := hG i H hi p
  by_cases hlt : i < n
  · refine .inr ⟨w.goes i H hlt q, fun x H' y => ?_⟩
    have z := hs i x H H' hlt p (w.yields i H x H' hlt q y)
    have e : (fun (b : Bool) (H4 : Hp) => if b = stop then Q (.bl stop) H4 else ∃ m', m' < n - i ∧ m' = n - (i + 1) ∧ i + 1 ≤ n ∧ Pv (i + 1) H4) = fun b H4 => if b = stop then Q (.bl stop) H4 else Pv (i + 1) H4 := by
      funext b H4
      split
      · rfl
      · refine propext ⟨fun ⟨_, _, _, _, z⟩ => z, fun z => ⟨n - (i + 1), by omega, rfl, hlt, z⟩⟩
    have e2 : (fun v H4 => ∃ b, v = V.bl b ∧ if b = stop then Q (.bl stop) H4 else ∃ m', m' < n - i ∧ m' = n - (i + 1) ∧ i + 1 ≤ n ∧ Pv (i + 1) H4) = fun v H4 => ∃ b, v = V.bl b ∧ if b = stop then Q (.bl stop) H4 else Pv (i + 1) H4 := by
      funext v H4
      exact congrArg (fun f : Bool → Hp → Prop => ∃ b, v = V.bl b ∧ f b H4) e
    rw [e2]
    exact z
  · have e : i = n := by omega
    subst e
    exact .inl ⟨w.stops H q, hd H p⟩
section
variable {A B : Prop}
theorem on_t (h : B) : if true = false then A else B := by rw [if_neg (by decide)]; exact h
theorem end_f (h : A) : if false = false then A else B := by rw [if_pos rfl]; exact h
theorem on_f (h : B) : if false = true then A else B := by rw [if_neg (by decide)]; exact h
theorem end_t (h : A) : if true = true then A else B := by rw [if_pos rfl]; exact h
end
end GN
-- GT
/-! the law's own call under known guards, with the tables of the code objects that hold generator expressions -/
namespace LG
open PySem PySem.Spec PyProof.Rows L2
open GxR (TabB)
section
variable {P : Program} {w : World} {K : PySem.W.Frag} {mg mb : Str → Option Value} {k : Nat} {fa a : Addr} {fd : FuncData} {x : Str} {sp : Sp} {s₁ : Shared} {vs : List Value} {ns : List Int} {cs : List (Addr × Addr)}
/-- the abstract heap at the start: the script (if it is no written thing), the tables, nothing else -/
structure Begin (K : PySem.W.Frag) (cs : List (Addr × Addr)) (a : Addr) (H : Hp) : Prop where
  tab : ∀ p ∈ cs, H p.2 = some (.tbl #[])
  only : ∀ b u, H b = some u → (b ∈ cs.map (·.2) ∧ u = .tbl #[]) ∨ (b = a ∧ K.lookup a = none ∧ ∃ o xs, u = .frz o (.lst xs))
theorem enterT (KX : K.In s₁.heap) (gl : s₁.heap.Ns mainGlobals mg) (bl : s₁.heap.Ns builtinsNs mb) (bb : ∀ y : Str, y ≠ "__name__" → mb y = bootBuiltins y) (nl : s₁.heap.NoLimit) (g0 : s₁.gens = #[])
    (tb : ∀ p ∈ cs, s₁.heap.get? p.2 = some { cls := .none, data := .fields #[] }) (nk : ∀ p ∈ cs, K.lookup p.2 = none) (hd : ∀ p ∈ cs, PySem.W.CodeHd s₁.heap p.1 p.2)
    (bmn : ∃ (bm : Addr) (ob : Obj), mg "__builtins__" = some (.ref bm) ∧ bm ≠ builtinsNs ∧ s₁.heap.get? bm = some ob ∧ ob.cls = .type "module" ∧ ob.dict = some builtinsNs ∧ ob.data = .plain)
    (at_ : s₁.heap.get? a = some { cls := .type "list", data := .seq vs.toArray }) (room : Room k callerA) (bind : ∀ (s : Shared) (u : Value), BindsTo s fd ⟨[u], []⟩ [(x, u)])
    (F : ∀ base : Heap, K.In base → base.Ns mainGlobals mg → (∀ p ∈ cs, TabB base mg p.1 p.2) → FnG P w K mg base CX0 k fa fd [x] sp) {H : Hp} (bg : Begin K cs a H) (ok : HOk P w H s₁.heap)
    (want : sp [.ref a] H (fun v _ => v = .bl true) fun _ _ _ => False) :
    codeAny (model P w) callerA (.call (.ref fa) ⟨[.ref a], []⟩) (fun r s' => r = .ok (.ret (.bool true)) ∧ OldK s₁.heap s'.heap ∧ s'.os = s₁.os ∧ AllBare s'.gens) s₁ := by
  have tbm : ∀ b, b ∈ cs.map (·.2) → s₁.heap.get? b = some { cls := .none, data := .fields #[] } := fun b z => by
    obtain ⟨p, hp, rfl⟩ := List.mem_map.mp z
    exact tb p hp
  -- what is no list and no table is not told of
  have free : ∀ {b : Addr} {o : Obj}, s₁.heap.get? b = some o → (∀ it n, o.data ≠ .seq it n) → o.data ≠ .fields #[] → H b = none := fun {b o} z nd nf => by
    cases q : H b with
    | none => rfl
    | some u =>
      rcases bg.only b u q with ⟨m, _⟩ | ⟨rfl, _⟩
      · rw [tbm b m] at z
        cases z
        exact absurd rfl nf
      · rw [at_] at z
        cases z
        exact absurd rfl (nd vs.toArray _)
  have dic : ∀ {b : Addr} {o : Obj} {es : Array DictEntry} {ep : Nat}, s₁.heap.get? b = some o → o.data = .dict es ep → H b = none := fun {b o es ep} z d => free z (fun it n y => by rw [d] at y; exact nomatch y) fun y => by rw [d] at y; exact nomatch y
  have nsOf : ∀ {b : Addr} {m : Str → Option Value}, s₁.heap.Ns b m → (hidT s₁.heap H).Ns b m := fun {b m} ⟨o, es, ep, z, d, r⟩ => ⟨o, es, ep, hidT_get z (dic z d), d, r⟩
  have inB : K.In (hidT s₁.heap H) := fun b o z => by
    refine hidT_get (KX b o z) ?_
    cases q : H b with
    | none => rfl
    | some u =>
      rcases bg.only b u q with ⟨m, _⟩ | ⟨rfl, nl, _⟩
      · obtain ⟨p, hp, rfl⟩ := List.mem_map.mp m
        rw [nk p hp] at z
        cases z
      · rw [nl] at z
        cases z
  have md : Mod K mg (hidT s₁.heap H) := ⟨inB, nsOf gl, ⟨mb, nsOf bl, bb⟩, let ⟨mc, y1, y2⟩ := nl; ⟨mc, nsOf y1, y2⟩⟩
  have tabs : ∀ p ∈ cs, TabB (hidT s₁.heap H) mg p.1 p.2 := fun p hp => by
    have hP := tb p hp
    refine ⟨?_, ?_, fun z => ?_⟩
    · obtain ⟨o, us, f, tf, fl, tg, i, t, tt, z, c1, c2, c3, r⟩ := hd p hp
      refine ⟨o, us, f, tf, fl, tg, i, t, tt, hidT_get z (free z (fun it n y => by rw [c2] at y; exact nomatch y) fun y => ?_), c1, c2, c3, r⟩
      rw [c2] at y
      cases y
      simp at c3
    · obtain ⟨bm, ob, b1, b2, b3, b4, b5, b6⟩ := bmn
      refine ⟨bm, ob, b1, b2, fun z => ?_, fun z => ?_, hidT_get b3 (free b3 (fun it n y => by rw [b6] at y; exact nomatch y) fun y => by rw [b6] at y; exact nomatch y), b4, b5, b6⟩
      · obtain ⟨o, es, ep, e, d, _⟩ := gl
        rw [z, e] at b3
        cases b3
        rw [d] at b6
        exact nomatch b6
      · rw [z, hP] at b3
        cases b3
        exact nomatch b6
    · obtain ⟨o, es, ep, e, d, _⟩ := gl
      rw [z, hP] at e
      cases e
      exact nomatch d
  have en : Env0 P w K mg (hidT s₁.heap H) callerA [] s₁ H := ⟨rfl, md, fun b o z => of_hidT z, Nat.le_of_eq (hidT_size _ _), trivial, fun b z => absurd (show b ∈ ([] : List Addr) from z) (List.not_mem_nil), ok, .of_eq g0⟩
  refine codeAny_mono ((F _ inB (nsOf gl) tabs).run callerA [] s₁ H ⟨[.ref a], []⟩ [.ref a] [.ref a] _ _ room rfl en (bind s₁ (.ref a)) (.cons rfl .nil) want) fun r s' h => ?_
  cases r with
  | error e => exact False.elim h
  | ok fl =>
    cases fl with
    | next => exact False.elim h
    | brk => exact False.elim h
    | cont => exact False.elim h
    | ret u =>
      obtain ⟨v, G, e1, e2, un, okG, rel, q⟩ := h
      obtain rfl : v = V.bl true := q
      obtain rfl : u = Value.bool true := rel
      -- a table may have grown, all else stands
      have grow : ∀ p ∈ cs, ∃ more : Array Value, s'.heap.get? p.2 = some { cls := .none, data := .fields more } := fun p hp => by
        obtain ⟨more, z⟩ := un.tbls p.2 #[] (bg.tab p hp)
        exact ⟨_, okG p.2 _ z⟩
      have stay : ∀ b o, b ∉ cs.map (·.2) → s₁.heap.get? b = some o → s'.heap.get? b = some o := fun b o nb z => by
        cases q : H b with
        | none => exact un.keep b o z q (fun y => nomatch y) (fun y => nomatch y)
        | some u =>
          rcases bg.only b u q with ⟨m, _⟩ | ⟨_, _, ob, xs, rfl⟩
          · exact absurd m nb
          · have z1 := (ok b _ q).1
            have z2 := (okG b _ (un.frzs b ob _ q)).1
            rw [z] at z1
            cases z1
            exact z2
      refine ⟨rfl, ⟨fun b o z => ?_, fun b o z => ?_⟩, e1, e2⟩
      · by_cases m : b ∈ cs.map (·.2)
        · obtain ⟨p, hp, rfl⟩ := List.mem_map.mp m
          obtain ⟨more, hm⟩ := grow p hp
          rw [tb p hp] at z
          cases z
          exact .inr (.inl ⟨((hd p hp).tab (tb p hp)).isCodeTable, rfl, #[], more, rfl, by rw [Array.empty_append]; exact hm⟩)
        · exact .inl (stay b o m z)
      · by_cases m : b ∈ cs.map (·.2)
        · obtain ⟨p, hp, rfl⟩ := List.mem_map.mp m
          obtain ⟨more, hm⟩ := grow p hp
          exact ⟨_, hm⟩
        · exact ⟨o, stay b o m z⟩
theorem enterT_all (KX : K.In s₁.heap) (gl : s₁.heap.Ns mainGlobals mg) (bl : s₁.heap.Ns builtinsNs mb) (bb : ∀ y : Str, y ≠ "__name__" → mb y = bootBuiltins y) (nl : s₁.heap.NoLimit) (g0 : s₁.gens = #[])
    (tb : ∀ p ∈ cs, s₁.heap.get? p.2 = some { cls := .none, data := .fields #[] }) (nk : ∀ p ∈ cs, K.lookup p.2 = none) (hd : ∀ p ∈ cs, PySem.W.CodeHd s₁.heap p.1 p.2)
    (bmn : ∃ (bm : Addr) (ob : Obj), mg "__builtins__" = some (.ref bm) ∧ bm ≠ builtinsNs ∧ s₁.heap.get? bm = some ob ∧ ob.cls = .type "module" ∧ ob.dict = some builtinsNs ∧ ob.data = .plain)
    (at_ : s₁.heap.get? a = some { cls := .type "list", data := .seq vs.toArray }) (ia : IntsAre vs ns) (small : ns.length ≤ sizeLine) (room : Room k callerA) (bind : ∀ (s : Shared) (u : Value), BindsTo s fd ⟨[u], []⟩ [(x, u)])
    (F : ∀ base : Heap, K.In base → base.Ns mainGlobals mg → (∀ p ∈ cs, TabB base mg p.1 p.2) → FnG P w K mg base CX0 k fa fd [x] sp)
    (want : ∀ H : Hp, (∀ p ∈ cs, H p.2 = some (.tbl #[])) → SqL K H a (ns.map V.int) → sp [.ref a] H (fun v _ => v = .bl true) fun _ _ _ => False) :
    codeAny (model P w) callerA (.call (.ref fa) ⟨[.ref a], []⟩) (fun r s' => r = .ok (.ret (.bool true)) ∧ OldK s₁.heap s'.heap ∧ s'.os = s₁.os ∧ AllBare s'.gens) s₁ := by
  have rel := vals_ints ia
  have len := ia.length
  have tbm : ∀ b, b ∈ cs.map (·.2) → s₁.heap.get? b = some { cls := .none, data := .fields #[] } := fun b z => by
    obtain ⟨p, hp, rfl⟩ := List.mem_map.mp z
    exact tb p hp
  have an : a ∉ cs.map (·.2) := fun z => by
    have e := tbm a z
    rw [at_] at e
    exact nomatch congrArg Obj.data (Option.some.inj e)
  have mem : ∀ p ∈ cs, p.2 ∈ cs.map (·.2) := fun p hp => List.mem_map.mpr ⟨p, hp, rfl⟩
  cases hk : K.lookup a with
  | some o =>
    have z := KX a o hk
    rw [at_] at z
    cases z
    let H : Hp := fun b => if b ∈ cs.map (·.2) then some (.tbl #[]) else none
    have e1 : ∀ b, b ∈ cs.map (·.2) → H b = some (.tbl #[]) := fun b m => if_pos m
    have e2 : ∀ b u, H b = some u → b ∈ cs.map (·.2) ∧ u = .tbl #[] := fun b u z => by
      by_cases m : b ∈ cs.map (·.2)
      · rw [e1 b m] at z
        cases z
        exact ⟨m, rfl⟩
      · rw [show H b = none from if_neg m] at z
        cases z
    refine enterT KX gl bl bb nl g0 tb nk hd bmn at_ room bind F (H := H) ⟨fun p hp => e1 _ (mem p hp), fun b u z => .inl (e2 b u z)⟩ (fun b u z => ?_)
      (want H (fun p hp => e1 _ (mem p hp)) (.inr ⟨_, vs.toArray, _, hk, rfl, rfl, rfl, by rw [List.size_toArray, len]; exact small, by simpa using rel⟩))
    obtain ⟨m, rfl⟩ := e2 b u z
    exact tbm b m
  | none =>
    let ob : Obj := { cls := .type "list", data := .seq vs.toArray }
    let H : Hp := fun b => if b = a then some (.frz ob (.lst (ns.map V.int))) else if b ∈ cs.map (·.2) then some (.tbl #[]) else none
    have hit : H a = some (.frz ob (.lst (ns.map V.int))) := if_pos rfl
    have e1 : ∀ b, b ∈ cs.map (·.2) → H b = some (.tbl #[]) := fun b m => (if_neg (fun z => an (by rw [← z]; exact m))).trans (if_pos m)
    have e2 : ∀ b u, H b = some u → (b ∈ cs.map (·.2) ∧ u = .tbl #[]) ∨ (b = a ∧ u = .frz ob (.lst (ns.map V.int))) := fun b u z => by
      by_cases i : b = a
      · rw [i, hit] at z
        cases z
        exact .inr ⟨i, rfl⟩
      · by_cases m : b ∈ cs.map (·.2)
        · rw [e1 b m] at z
          cases z
          exact .inl ⟨m, rfl⟩
        · rw [show H b = none from (if_neg i).trans (if_neg m)] at z
          cases z
    refine enterT KX gl bl bb nl g0 tb nk hd bmn at_ room bind F (H := H) ⟨fun p hp => e1 _ (mem p hp), fun b u z => (e2 b u z).imp id fun ⟨i, e⟩ => ⟨i, hk, ob, _, e⟩⟩ (fun b u z => ?_) (want H (fun p hp => e1 _ (mem p hp)) (.inl (.inr ⟨ob, hit⟩)))
    rcases e2 b u z with ⟨m, rfl⟩ | ⟨rfl, rfl⟩
    · exact tbm b m
    · exact ⟨at_, by rw [List.length_map]; exact small, vs, _, rel, at_⟩
end
/-- a def of the text whose code object's table is empty at the law's start -/
def Bare (mg : Str → Option Value) (h : Heap) (nm : Str) : Prop := ∃ (a c P : Addr) (o : Obj) (fd : FuncData), mg nm = some (.ref a) ∧ h.get? a = some o ∧ o.data = .func fd ∧ fd.code = .ref c ∧ PySem.W.CodeHd h c P ∧ h.get? P = some { cls := .none, data := .fields #[] }
/-- what k_head leaves, from the law's promise; nms: the defs that hold generator expressions -/
theorem walkGT {l : PySem.W.OpenLaw} {n k : Nat} {q : Program} {loose : List Str} {XP : (Str → Option Value) → Heap → Prop} {YP : World → Heap → Prop} {d : DefRec} {K : Params → PySem.W.Frag} {x : Str} (nms : List Str)
    (hn : l.most = some n) (hz : n ≤ sizeLine) (hdf : d.params.defaults = []) (room : Room k callerA) (hrec : (nms.all fun nm => (recsOf q).any fun e => e.name == nm) = true) (hY : ∀ (w : World) (h : Heap), YP w h → (K w.params).In h)
    (F : ∀ (w : World) (mg : Str → Option Value) (fa : Addr) (h : Heap), (K w.params).In h → h.Ns mainGlobals mg → mg d.name = some (.ref fa) → (∀ nm ∈ nms, Bare mg h nm) →
      ∃ (fd : FuncData) (cs : List (Addr × Addr)) (sp : Sp), (∀ p ∈ cs, h.get? p.2 = some { cls := .none, data := .fields #[] }) ∧ (∀ p ∈ cs, (K w.params).lookup p.2 = none) ∧ (∀ p ∈ cs, PySem.W.CodeHd h p.1 p.2) ∧ (∀ (s : Shared) (u : Value), BindsTo s fd ⟨[u], []⟩ [(x, u)]) ∧
        (∀ (H : Hp) (a : Addr) (ns : List Int), ns.length ≤ n → (∀ p ∈ cs, H p.2 = some (.tbl #[])) → SqL (K w.params) H a (ns.map V.int) → sp [.ref a] H (fun v _ => v = .bl true) fun _ _ _ => False) ∧
        ∀ base : Heap, (K w.params).In base → base.Ns mainGlobals mg → (∀ p ∈ cs, TabB base mg p.1 p.2) → FnG l.prog w (K w.params) mg base CX0 k fa fd [x] sp) :
    PySem.W.WalkO q loose XP YP l.row.toRowW d [] (fun f vs => PySem.call f vs) := by
  refine Att.attach_call hn hdf fun w s0 s1 mg mb fa o pm cd doc a vs ns G Y ho hd hcd hmg hobj ia len g0 => ?_
  obtain ⟨fd, cs, sp, t1, t2, t3, bi, wt, FF⟩ := F w mg fa _ (hY w _ Y) G.T.g hmg fun nm hnm => by
    obtain ⟨e, he, en⟩ := List.any_eq_true.mp (List.all_eq_true.mp hrec nm hnm)
    obtain ⟨b, o2, fd2, c2, P2, h1, h2, h3, h4, h5, h6⟩ := G.T.tab e he
    rw [beq_iff_eq.mp en] at h1
    exact ⟨b, c2, P2, o2, fd2, h1, h2, h3, h4, PySem.W.CodeHd.of h5 h6, h6.2⟩
  exact enterT_all (hY w _ Y) G.T.g G.T.b G.T.builtins G.T.nolimit g0 t1 t2 t3 G.T.bmain hobj ia (Nat.le_trans len hz) room bi FF fun H ht hs => wt H a ns len ht hs
end LG
-- M5
/-! names: words between dots -/
namespace K05
open PySem PySem.Spec PyProof.Rows L2 TL
def ltr (c : Nat) : Bool := decide (97 ≤ c) && decide (c ≤ 122)
def sgn (c : Nat) : Bool := ltr c || (decide (48 ≤ c) && decide (c ≤ 57))
theorem ltr_sgn {c : Nat} (h : ltr c = true) : sgn c = true := by unfold sgn; rw [h]; rfl
theorem in_letters (c : Nat) : decide (c ∈ ("abcdefghijklmnopqrstuvwxyz" : Str).cps.toList) = ltr c := by
  rw [show ("abcdefghijklmnopqrstuvwxyz" : Str).cps.toList = (List.range 26).map (· + 97) by decide +kernel]
  unfold ltr
  rw [Bool.eq_iff_iff, decide_eq_true_eq, Bool.and_eq_true, decide_eq_true_eq, decide_eq_true_eq, List.mem_map]
  constructor
  · rintro ⟨i, h, rfl⟩
    have := List.mem_range.mp h
    omega
  · intro h
    exact ⟨c - 97, List.mem_range.mpr (by omega), by omega⟩
theorem in_signs (c : Nat) : decide (c ∈ ("abcdefghijklmnopqrstuvwxyz0123456789" : Str).cps.toList) = sgn c := by
  rw [show ("abcdefghijklmnopqrstuvwxyz0123456789" : Str).cps.toList = (List.range 26).map (· + 97) ++ (List.range 10).map (· + 48) by decide +kernel]
  unfold sgn ltr
  rw [Bool.eq_iff_iff, decide_eq_true_eq, Bool.or_eq_true, Bool.and_eq_true, Bool.and_eq_true, decide_eq_true_eq, decide_eq_true_eq, decide_eq_true_eq, decide_eq_true_eq, List.mem_append, List.mem_map, List.mem_map]
  constructor
  · rintro (⟨i, h, rfl⟩ | ⟨i, h, rfl⟩)
    · have := List.mem_range.mp h
      exact .inl (by omega)
    · have := List.mem_range.mp h
      exact .inr (by omega)
  · rintro (h | h)
    · exact .inl ⟨c - 97, List.mem_range.mpr (by omega), by omega⟩
    · exact .inr ⟨c - 48, List.mem_range.mpr (by omega), by omega⟩
theorem in_signs_dot (c : Nat) : decide (c ∈ ("abcdefghijklmnopqrstuvwxyz0123456789." : Str).cps.toList) = (sgn c || decide (c = 46)) := by
  rw [show ("abcdefghijklmnopqrstuvwxyz0123456789." : Str).cps.toList = ("abcdefghijklmnopqrstuvwxyz0123456789" : Str).cps.toList ++ [46] by decide +kernel, ← in_signs c]
  rw [Bool.eq_iff_iff, decide_eq_true_eq, Bool.or_eq_true, decide_eq_true_eq, decide_eq_true_eq, List.mem_append, List.mem_singleton]
/-- a word of a name -/
def wd : List Nat → Bool
  | [] => false
  | c :: r => ltr c && (c :: r).all sgn
/-- read from the left; d: a dot stands before -/
def aut : Bool → List Nat → Bool
  | d, [] => !d
  | d, c :: r => if ((d && !ltr c) || !(sgn c || decide (c = 46))) = true then false else aut (decide (c = 46)) r
theorem dot_no : ltr 46 = false ∧ sgn 46 = false := by decide
theorem wd_snoc {c : Nat} : ∀ {acc : List Nat}, acc ≠ [] → wd (acc ++ [c]) = (wd acc && sgn c)
  | [], h => absurd rfl h
  | a :: r, _ => by
    show (ltr a && ((a :: r) ++ [c]).all sgn) = ((ltr a && (a :: r).all sgn) && sgn c)
    rw [List.all_append, List.all_cons (l := []), List.all_nil, Bool.and_true, Bool.and_assoc]
theorem aut_step {d : Bool} {c : Nat} {r : List Nat} : aut d (c :: r) = if ((d && !ltr c) || !(sgn c || decide (c = 46))) = true then false else aut (decide (c = 46)) r := rfl
theorem spl_aut : ∀ (l acc : List Nat), (spl [46] 0 acc l).all wd = if acc = [] then aut true l else wd acc && aut false l
  | [], acc => by
    rw [spl_nil, List.all_cons, List.all_nil, Bool.and_true]
    by_cases h : acc = []
    · rw [if_pos h, h]; rfl
    · rw [if_neg h, show aut false [] = true from rfl, Bool.and_true]
  | c :: r, acc => by
    by_cases hc : c = 46
    · subst hc
      rw [spl_hit (show pre [46] (46 :: r) = true from by simp [pre]), List.all_cons]
      rw [show ([46] : List Nat).length - 1 = 0 from rfl, spl_aut r [], if_pos rfl, aut_step, aut_step, dot_no.1, dot_no.2]
      by_cases h : acc = []
      · rw [if_pos h, h]; rfl
      · rw [if_neg h]; simp
    · have e46 : decide (c = 46) = false := decide_eq_false hc
      rw [spl_miss (pre_of_head [] r hc), spl_aut r (acc ++ [c]), if_neg (by simp), aut_step, aut_step, e46]
      by_cases h : acc = []
      · rw [if_pos h, h]
        show ((ltr c && (sgn c && true)) && aut false r) = _
        cases hl : ltr c with
        | true => rw [ltr_sgn hl]; simp
        | false => simp
      · rw [if_neg h, wd_snoc h]
        cases hs : sgn c <;> simp
theorem split_aut (s : Str) : (Txt.split s ".").all (fun w => wd (tl w)) = aut true (tl s) := by
  have e := split_spl s "." (by decide +kernel) (kind_ok (by decide +kernel))
  have e2 : (Txt.split s ".").all (fun w => wd (tl w)) = ((Txt.split s ".").map tl).all wd := by rw [List.all_map]; rfl
  rw [e2, e, show tl (".": Str) = [46] by decide +kernel, spl_aut, if_pos rfl]
/-- a name -/
def NM (s : Str) : Prop := 1 ≤ s.length ∧ s.length ≤ 200 ∧ aut true (tl s) = true
theorem aut_last {d : Bool} : ∀ {l : List Nat}, l ≠ [] → aut d l = true → aut true l = true ∨ d = false
  | [], h, _ => absurd rfl h
  | c :: r, _, h => by cases d with
    | false => exact .inr rfl
    | true => exact .inl h
/-- a word, then the rest -/
theorem aut_word {r : List Nat} : ∀ {w : List Nat}, w.all sgn = true → aut false (w ++ r) = aut false r
  | [], _ => rfl
  | c :: w, h => by
    rw [List.all_cons, Bool.and_eq_true] at h
    have nc : decide (c = 46) = false := decide_eq_false fun z => by rw [z, dot_no.2] at h; exact Bool.false_ne_true h.1
    rw [List.cons_append, aut_step, h.1, nc]
    simp only [Bool.false_and, Bool.true_or, Bool.not_true, Bool.or_self, Bool.false_eq_true, if_false]
    exact aut_word h.2
theorem aut_head {c : Nat} {w r : List Nat} (hc : ltr c = true) (hw : w.all sgn = true) : aut true (c :: (w ++ r)) = aut false r := by
  have nc : decide (c = 46) = false := decide_eq_false fun z => by rw [z, dot_no.1] at hc; exact Bool.false_ne_true hc
  rw [aut_step, ltr_sgn hc, hc, nc]
  simp only [Bool.not_true, Bool.and_false, Bool.true_or, Bool.or_self, Bool.false_eq_true, if_false]
  exact aut_word hw
theorem aut_dot {r : List Nat} : aut false (46 :: r) = aut true r := by
  rw [aut_step]; simp
end K05
-- N5
/-! the drawn names -/
namespace K05
open PySem PySem.Spec PyProof.Rows L2 TL
def txt (n : Nat) : Str := (toString ((n : Nat) : Int) : Str)
def szN (n t : Nat) : Str := ("s" : Str) ++ txt n ++ ("." : Str) ++ (⟨#[97]⟩ : Str) ++ txt t
def lgN (b : Bool) (t : Nat) : Str := ("long" : Str) ++ txt t ++ Txt.mul ("z" : Str) (190 * (if b = true then (1 : Int) else 0))
def zqN (t : Nat) : Str := ("zq" : Str) ++ txt t
/-- the digits of a text, read as one number -/
def dval (l : List Nat) : Nat := l.foldl (fun a c => if 48 ≤ c ∧ c ≤ 57 then a * 10 + (c - 48) else a) 0
/-- what stands behind the first dot -/
def adot (l : List Nat) : List Nat := (l.dropWhile fun c => decide (c ≠ 46)).drop 1
def nmB (s : Str) : Bool := decide (1 ≤ s.length) && decide (s.length ≤ 200) && aut true (tl s)
theorem nmB_iff {s : Str} : nmB s = true ↔ NM s := by
  unfold nmB NM
  rw [Bool.and_eq_true, Bool.and_eq_true, decide_eq_true_eq, decide_eq_true_eq, and_assoc]
def okSz (n t : Nat) : Bool := nmB (szN n t) && decide (dval (tl (szN n t)) = 10 * n + t) && decide (adot (tl (szN n t)) = [97, 48 + t]) && decide ((tl (szN n t))[1]? ≠ some 111)
theorem sz_all : ∀ (n : Fin 41) (t : Fin 8), okSz n.val t.val = true := by decide +kernel
def okLg (b : Bool) (t : Nat) : Bool := nmB (lgN b t) && decide (dval (tl (lgN b t)) = t) && decide (adot (tl (lgN b t)) = []) && decide ((tl (lgN b t))[1]? = some 111)
theorem lg_all : ∀ (b : Bool) (t : Fin 121), okLg b t.val = true := by decide +kernel
def okZq (t : Nat) : Bool := nmB (zqN t) && decide (dval (tl (zqN t)) = t) && decide (adot (tl (zqN t)) = []) && decide ((tl (zqN t))[1]? = some 113)
theorem zq_all : ∀ t : Fin 41, okZq t.val = true := by decide +kernel
structure SzF (n t : Nat) : Prop where
  nm : NM (szN n t)
  val : dval (tl (szN n t)) = 10 * n + t
  dot : adot (tl (szN n t)) = [97, 48 + t]
  two : (tl (szN n t))[1]? ≠ some 111
theorem sz_f {n t : Nat} (hn : n < 41) (ht : t < 8) : SzF n t := by
  have h := sz_all ⟨n, hn⟩ ⟨t, ht⟩
  unfold okSz at h
  simp only [Bool.and_eq_true, decide_eq_true_eq] at h
  exact ⟨nmB_iff.mp h.1.1.1, h.1.1.2, h.1.2, h.2⟩
structure LgF (b : Bool) (t : Nat) : Prop where
  nm : NM (lgN b t)
  val : dval (tl (lgN b t)) = t
  dot : adot (tl (lgN b t)) = []
  two : (tl (lgN b t))[1]? = some 111
theorem lg_f {b : Bool} {t : Nat} (ht : t < 121) : LgF b t := by
  have h := lg_all b ⟨t, ht⟩
  unfold okLg at h
  simp only [Bool.and_eq_true, decide_eq_true_eq] at h
  exact ⟨nmB_iff.mp h.1.1.1, h.1.1.2, h.1.2, h.2⟩
structure ZqF (t : Nat) : Prop where
  nm : NM (zqN t)
  val : dval (tl (zqN t)) = t
  dot : adot (tl (zqN t)) = []
  two : (tl (zqN t))[1]? = some 113
theorem zq_f {t : Nat} (ht : t < 41) : ZqF t := by
  have h := zq_all ⟨t, ht⟩
  unfold okZq at h
  simp only [Bool.and_eq_true, decide_eq_true_eq] at h
  exact ⟨nmB_iff.mp h.1.1.1, h.1.1.2, h.1.2, h.2⟩
/-- a quantity's name, as far as it is to differ from sizes -/
structure QN (s : Str) : Prop where
  nm : NM s
  two : (tl s)[1]? ≠ some 111
  dot : ∀ t, t < 8 → adot (tl s) ≠ [97, 48 + t]
theorem zq_qn {t : Nat} (ht : t < 41) : QN (zqN t) := by
  have f := zq_f ht
  exact ⟨f.nm, by rw [f.two]; decide, fun u _ z => by rw [f.dot] at z; cases z⟩
/-! what _law_name draws: a letter, up to two equal signs, then nothing or a dot and a letter, then z up to 200 signs -/
/-- the signs: x1, k times x2, D, m times z -/
def drawn (x1 x2 k : Nat) (D : List Nat) (m : Nat) : List Nat := x1 :: (List.replicate k x2 ++ (D ++ List.replicate m 122))
def x2ok (c : Nat) : Bool := (decide (48 ≤ c) && decide (c ≤ 57)) || c == 97 || c == 98
theorem x2_sgn {c : Nat} (h : x2ok c = true) : sgn c = true ∧ c ≠ 46 ∧ c ≠ 111 ∧ c ≠ 113 := by
  unfold x2ok at h
  unfold sgn ltr
  simp only [Bool.or_eq_true, Bool.and_eq_true, decide_eq_true_eq, beq_iff_eq] at h ⊢
  omega
theorem rep_sgn {c k : Nat} (h : sgn c = true) : (List.replicate k c).all sgn = true := by
  rw [List.all_eq_true]
  intro x hx
  rw [List.eq_of_mem_replicate hx]
  exact h
theorem adot_pass {c : Nat} {r : List Nat} (h : c ≠ 46) : adot (c :: r) = adot r := by
  unfold adot
  rw [List.dropWhile_cons, if_pos (decide_eq_true h)]
theorem adot_rep {c : Nat} {r : List Nat} (h : c ≠ 46) : ∀ k : Nat, adot (List.replicate k c ++ r) = adot r
  | 0 => rfl
  | k + 1 => by
    rw [List.replicate_succ, List.cons_append, adot_pass h, adot_rep h k]
theorem ltr_ne {c : Nat} (h : ltr c = true) : c ≠ 46 := fun z => by rw [z, dot_no.1] at h; exact Bool.false_ne_true h
theorem drawn_aut {x1 x2 k m : Nat} {D : List Nat} (h1 : ltr x1 = true) (h2 : x2ok x2 = true) (hD : D = [] ∨ ∃ x3, ltr x3 = true ∧ D = [46, x3]) : aut true (drawn x1 x2 k D m) = true := by
  unfold drawn
  have z : (List.replicate m 122).all sgn = true := rep_sgn (by decide)
  rw [aut_head h1 (rep_sgn (x2_sgn h2).1)]
  rcases hD with rfl | ⟨x3, h3, rfl⟩
  · have := aut_word (r := []) z
    rw [List.append_nil] at this
    rw [List.nil_append, this]; rfl
  · rw [show ([46, x3] ++ List.replicate m 122 : List Nat) = 46 :: (x3 :: (List.replicate m 122 ++ [])) by simp, aut_dot, aut_head h3 z]
    rfl
theorem drawn_two {x1 x2 k m : Nat} {D : List Nat} (h2 : x2ok x2 = true) (hD : D = [] ∨ ∃ x3, ltr x3 = true ∧ D = [46, x3]) : (drawn x1 x2 k D m)[1]? ≠ some 111 ∧ (drawn x1 x2 k D m)[1]? ≠ some 113 := by
  unfold drawn
  rw [List.getElem?_cons_succ]
  obtain ⟨_, _, n1, n2⟩ := x2_sgn h2
  cases k with
  | succ k =>
    rw [List.replicate_succ, List.cons_append, List.getElem?_cons_zero]
    exact ⟨fun z => n1 (Option.some.inj z), fun z => n2 (Option.some.inj z)⟩
  | zero =>
    rcases hD with rfl | ⟨x3, h3, rfl⟩
    · cases m with
      | zero => exact ⟨by simp, by simp⟩
      | succ m => exact ⟨by simp [List.replicate_succ], by simp [List.replicate_succ]⟩
    · exact ⟨by simp, by simp⟩
theorem drawn_dot {x1 x2 k m : Nat} {D : List Nat} (h1 : ltr x1 = true) (h2 : x2ok x2 = true) (hD : D = [] ∨ ∃ x3, ltr x3 = true ∧ D = [46, x3]) {t : Nat} (ht : t < 8) : adot (drawn x1 x2 k D m) ≠ [97, 48 + t] := by
  unfold drawn
  rw [adot_pass (ltr_ne h1), adot_rep (x2_sgn h2).2.1]
  rcases hD with rfl | ⟨x3, h3, rfl⟩
  · have := adot_rep (r := []) (show (122 : Nat) ≠ 46 by decide) m
    rw [List.append_nil] at this
    rw [List.nil_append, this]
    intro z
    cases z
  · rw [show adot ([46, x3] ++ List.replicate m 122) = x3 :: List.replicate m 122 from rfl]
    intro z
    injection z with _ z
    cases m with
    | zero => cases z
    | succ m =>
      rw [List.replicate_succ] at z
      injection z with z _
      omega
theorem drawn_qn {s : Str} {x1 x2 k m : Nat} {D : List Nat} (e : tl s = drawn x1 x2 k D m) (h1 : ltr x1 = true) (h2 : x2ok x2 = true) (hD : D = [] ∨ ∃ x3, ltr x3 = true ∧ D = [46, x3]) (hl : s.length ≤ 200) : QN s ∧ (tl s)[1]? ≠ some 113 := by
  refine ⟨⟨⟨?_, hl, ?_⟩, ?_, fun t ht => ?_⟩, ?_⟩
  · rw [len_tl, e]
    unfold drawn
    rw [List.length_cons]
    omega
  · rw [e]
    exact drawn_aut h1 h2 hD
  · rw [e]
    exact (drawn_two h2 hD).1
  · rw [e]
    exact drawn_dot h1 h2 hD ht
  · rw [e]
    exact (drawn_two h2 hD).2
end K05
-- B5
namespace K05
open PySem PySem.Spec PyProof.Rows L2
def topS (i : Nat) : Stmt := PySem.Challenge.pw_unsaidsizes_k05_what_is_a_model.main.body.getD i (.Pass ⟨0, 0, 0, 0⟩)
abbrev s_is_exact : Stmt := topS 3
theorem sc_is_exact : FnScope ["told"] ["told"] (defScope s_is_exact) := ⟨rfl, rfl, rfl, by decide +kernel, rfl, by decide +kernel, by decide +kernel⟩
abbrev s_terms_of : Stmt := topS 4
theorem sc_terms_of : FnScope ["told"] ["told"] (defScope s_terms_of) := ⟨rfl, rfl, rfl, by decide +kernel, rfl, by decide +kernel, by decide +kernel⟩
abbrev s_source_of : Stmt := topS 5
theorem sc_source_of : FnScope ["told"] ["told"] (defScope s_source_of) := ⟨rfl, rfl, rfl, by decide +kernel, rfl, by decide +kernel, by decide +kernel⟩
abbrev s_sizes_in : Stmt := topS 6
theorem sc_sizes_in : FnScope ["told", "size", "_"] ["told"] (defScope s_sizes_in) := ⟨rfl, rfl, rfl, by decide +kernel, rfl, by decide +kernel, by decide +kernel⟩
abbrev s_places_of : Stmt := topS 7
theorem sc_places_of : FnScope ["told", "places", "_", "k", "j"] ["told"] (defScope s_places_of) := ⟨rfl, rfl, rfl, by decide +kernel, rfl, by decide +kernel, by decide +kernel⟩
abbrev s_has_twice : Stmt := topS 8
theorem sc_has_twice : FnScope ["words", "seen", "word"] ["words"] (defScope s_has_twice) := ⟨rfl, rfl, rfl, by decide +kernel, rfl, by decide +kernel, by decide +kernel⟩
abbrev s_is_in_range : Stmt := topS 9
theorem sc_is_in_range : FnScope ["told", "k", "_", "number"] ["told"] (defScope s_is_in_range) := ⟨rfl, rfl, rfl, by decide +kernel, rfl, by decide +kernel, by decide +kernel⟩
abbrev s_is_word : Stmt := topS 13
theorem sc_is_word : FnScope ["text", "sign"] ["text"] (defScope s_is_word) := ⟨rfl, rfl, rfl, by decide +kernel, rfl, by decide +kernel, by decide +kernel⟩
abbrev s_is_name : Stmt := topS 14
theorem sc_is_name : FnScope ["text", "word"] ["text"] (defScope s_is_name) := ⟨rfl, rfl, rfl, by decide +kernel, rfl, by decide +kernel, by decide +kernel⟩
abbrev s_is_law : Stmt := topS 18
theorem sc_is_law : FnScope ["told", "many", "places", "_", "j"] ["told", "many"] (defScope s_is_law) := ⟨rfl, rfl, rfl, by decide +kernel, rfl, by decide +kernel, by decide +kernel⟩
abbrev s_is_model : Stmt := topS 19
theorem sc_is_model : FnScope ["model", "laws", "names", "quantities", "told", "name"] ["model"] (defScope s_is_model) := ⟨rfl, rfl, rfl, by decide +kernel, rfl, by decide +kernel, by decide +kernel⟩
abbrev s_sizes_of : Stmt := topS 20
theorem sc_sizes_of : FnScope ["model", "_", "laws", "told", "size"] ["model"] (defScope s_sizes_of) := ⟨rfl, rfl, rfl, by decide +kernel, rfl, by decide +kernel, by decide +kernel⟩
abbrev s_law_draws : Stmt := topS 22
theorem sc_law_draws : FnScope ["script", "draws", "k", "rest", "turn", "mixed"] ["script"] (defScope s_law_draws) := ⟨rfl, rfl, rfl, by decide +kernel, rfl, by decide +kernel, by decide +kernel⟩
abbrev s_law_mixed : Stmt := topS 23
theorem sc_law_mixed : FnScope ["draws", "many", "found", "k", "value"] ["draws", "many"] (defScope s_law_mixed) := ⟨rfl, rfl, rfl, by decide +kernel, rfl, by decide +kernel, by decide +kernel⟩
abbrev s_law_at : Stmt := topS 24
theorem sc_law_at : FnScope ["draws", "k", "many"] ["draws", "k", "many"] (defScope s_law_at) := ⟨rfl, rfl, rfl, by decide +kernel, rfl, by decide +kernel, by decide +kernel⟩
abbrev s_law_name : Stmt := topS 25
theorem sc_law_name : FnScope ["draws", "k", "cell", "letters", "word"] ["draws", "k"] (defScope s_law_name) := ⟨rfl, rfl, rfl, by decide +kernel, rfl, by decide +kernel, by decide +kernel⟩
abbrev s_law_quantities : Stmt := topS 26
theorem sc_law_quantities : FnScope ["draws", "k", "many", "names", "turn", "name"] ["draws", "k", "many"] (defScope s_law_quantities) := ⟨rfl, rfl, rfl, by decide +kernel, rfl, by decide +kernel, by decide +kernel⟩
abbrev s_law_places : Stmt := topS 27
theorem sc_law_places : FnScope ["draws", "k", "many", "size", "places", "turn", "cell", "place"] ["draws", "k", "many", "size"] (defScope s_law_places) := ⟨rfl, rfl, rfl, by decide +kernel, rfl, by decide +kernel, by decide +kernel⟩
abbrev s_law_one : Stmt := topS 28
theorem sc_law_one : FnScope ["draws", "k", "many", "number", "source", "size", "places", "terms", "turn", "cell", "value"] ["draws", "k", "many", "number"] (defScope s_law_one) := ⟨rfl, rfl, rfl, by decide +kernel, rfl, by decide +kernel, by decide +kernel⟩
abbrev s_law_long : Stmt := topS 29
theorem sc_law_long : FnScope ["draws", "first", "many", "size", "places", "terms", "t"] ["draws", "first", "many"] (defScope s_law_long) := ⟨rfl, rfl, rfl, by decide +kernel, rfl, by decide +kernel, by decide +kernel⟩
abbrev s_law_model : Stmt := topS 30
theorem sc_law_model : FnScope ["draws", "first", "many", "laws", "quantities", "rows", "i"] ["draws", "first"] (defScope s_law_model) := ⟨rfl, rfl, rfl, by decide +kernel, rfl, by decide +kernel, by decide +kernel⟩
abbrev s_law_is_name : Stmt := topS 31
theorem sc_law_is_name : FnScope ["text", "before", "char"] ["text"] (defScope s_law_is_name) := ⟨rfl, rfl, rfl, by decide +kernel, rfl, by decide +kernel, by decide +kernel⟩
abbrev s_law_places_of : Stmt := topS 32
theorem sc_law_places_of : FnScope ["law", "number", "k", "j", "size"] ["law"] (defScope s_law_places_of) := ⟨rfl, rfl, rfl, by decide +kernel, rfl, by decide +kernel, by decide +kernel⟩
abbrev s_law_fits : Stmt := topS 33
theorem sc_law_fits : FnScope ["law", "many", "places", "k", "number", "j", "size"] ["law", "many"] (defScope s_law_fits) := ⟨rfl, rfl, rfl, by decide +kernel, rfl, by decide +kernel, by decide +kernel⟩
abbrev s_law_due : Stmt := topS 34
theorem sc_law_due : FnScope ["model", "quantities", "laws", "names", "law", "k", "term", "name"] ["model"] (defScope s_law_due) := ⟨rfl, rfl, rfl, by decide +kernel, rfl, by decide +kernel, by decide +kernel⟩
abbrev s_law_bad_name : Stmt := topS 35
theorem sc_law_bad_name : FnScope ["cell", "good", "rows"] ["cell", "good"] (defScope s_law_bad_name) := ⟨rfl, rfl, rfl, by decide +kernel, rfl, by decide +kernel, by decide +kernel⟩
abbrev s_law_spoilt : Stmt := topS 36
theorem sc_law_spoilt : FnScope ["draws", "k", "model", "quantities", "laws", "word", "cell", "which", "many", "j", "value", "place", "twice", "rows", "turn"] ["draws", "k", "model"] (defScope s_law_spoilt) := ⟨rfl, rfl, rfl, by decide +kernel, rfl, by decide +kernel, by decide +kernel⟩
abbrev s_law : Stmt := topS 37
theorem sc_law : FnScope ["script", "draws", "model", "kept", "turn", "other", "told"] ["script"] (defScope s_law) := ⟨rfl, rfl, rfl, by decide +kernel, rfl, by decide +kernel, by decide +kernel⟩
/-- a def as it stands behind the top -/
structure Def (K : PySem.W.Frag) (mg : Str → Option Value) (x : Str) (st : Stmt) (ps : List Str) where
  a : Addr
  fd : FuncData
  F : Fun K x x st a fd
  b : Binds K fd ps []
  g : mg x = some (.ref a)
/-- a def that holds generator expressions: its code object is known -/
structure DefT (K : PySem.W.Frag) (mg : Str → Option Value) (x : Str) (st : Stmt) (ps : List Str) where
  a : Addr
  c : Addr
  fd : FuncData
  ex : ∃ (oc : Value) (od : Option Addr) (dV kV doc pm : Value) (an : Option Addr) (ct : Value) (osl : Array (Option Value)), fd = PySem.W.fnOf x x (defArgs st) (defBody st) (defScope st) dV kV doc pm an (.ref c) ct ∧ K.lookup a = some ⟨oc, od, .func fd, osl⟩ ∧ PySem.W.codeIn K (.ref c) x = true
  kp : PySem.W.keepIn K (.ref a) = true
  b : Binds K fd ps []
  g : mg x = some (.ref a)
theorem DefT.ok {P : Program} {w : World} {K : PySem.W.Frag} {mg : Str → Option Value} {base : Heap} {x : Str} {st : Stmt} {N ps : List Str} {k : Nat} {sp : Sp} (T : DefT K mg x st ps) (S : FnScope N ps (defScope st)) (len : ∀ vs H Q E, sp vs H Q E → vs.length = ps.length)
    (hbody : ∀ (A : Around) (outer : List Env) (s : Shared) (H : Hp) (vs : List V) (Q : VK) (E : XK), Room k (A.deeper (envOfC x (defScope st) s.heap.objs.size T.a (.ref T.c))) → sp vs H Q E →
      ∃ t, PSs (cxOf CX0 P w K mg base N x (defScope st) T.a (.ref T.c) A outer s H E).nox (defBody st) t ∧ t { nx := fun _ H' => Q .non H', rt := Q } (L2.start N vs) H) : FnOk P w K mg base CX0 (k + 1) T.a T.fd ps sp := by
  obtain ⟨a, c, fd, ⟨oc, od, dV, kV, doc, pm, an, ct, osl, rfl, lk, hcd⟩, kp, b, g⟩ := T
  refine fn_of lk hcd S len fun A outer s H vs Q E hr hsp => ?_
  obtain ⟨t, h, q⟩ := hbody A outer s H vs Q E hr hsp
  exact ⟨t, h.nox, q⟩
structure Txt (K : PySem.W.Frag) (mg : Str → Option Value) where
  is_exact : Def K mg "is_exact" s_is_exact ["told"]
  terms_of : Def K mg "terms_of" s_terms_of ["told"]
  source_of : Def K mg "source_of" s_source_of ["told"]
  sizes_in : Def K mg "sizes_in" s_sizes_in ["told"]
  places_of : Def K mg "places_of" s_places_of ["told"]
  has_twice : Def K mg "has_twice" s_has_twice ["words"]
  is_in_range : DefT K mg "is_in_range" s_is_in_range ["told"]
  is_word : DefT K mg "_is_word" s_is_word ["text"]
  is_name : DefT K mg "is_name" s_is_name ["text"]
  is_law : DefT K mg "_is_law" s_is_law ["told", "many"]
  is_model : DefT K mg "is_model" s_is_model ["model"]
  sizes_of : Def K mg "sizes_of" s_sizes_of ["model"]
  law_draws : Def K mg "_law_draws" s_law_draws ["script"]
  law_mixed : Def K mg "_law_mixed" s_law_mixed ["draws", "many"]
  law_at : Def K mg "_law_at" s_law_at ["draws", "k", "many"]
  law_name : Def K mg "_law_name" s_law_name ["draws", "k"]
  law_quantities : Def K mg "_law_quantities" s_law_quantities ["draws", "k", "many"]
  law_places : Def K mg "_law_places" s_law_places ["draws", "k", "many", "size"]
  law_one : Def K mg "_law_one" s_law_one ["draws", "k", "many", "number"]
  law_long : Def K mg "_law_long" s_law_long ["draws", "first", "many"]
  law_model : Def K mg "_law_model" s_law_model ["draws", "first"]
  law_is_name : Def K mg "_law_is_name" s_law_is_name ["text"]
  law_places_of : Def K mg "_law_places_of" s_law_places_of ["law"]
  law_fits : Def K mg "_law_fits" s_law_fits ["law", "many"]
  law_due : Def K mg "_law_due" s_law_due ["model"]
  law_bad_name : Def K mg "_law_bad_name" s_law_bad_name ["cell", "good"]
  law_spoilt : Def K mg "_law_spoilt" s_law_spoilt ["draws", "k", "model"]
  law : Def K mg "law" s_law ["script"]
  m_abs : mg "abs" = none
  m_all : mg "all" = none
  m_bool : mg "bool" = none
  m_int : mg "int" = none
  m_isinstance : mg "isinstance" = none
  m_len : mg "len" = none
  m_list : mg "list" = none
  m_max : mg "max" = none
  m_min : mg "min" = none
  m_range : mg "range" = none
  m_repr : mg "repr" = none
  m_str : mg "str" = none
  k_LETTERS : Tok
  c_LETTERS : mg "LETTERS" = some (.str "abcdefghijklmnopqrstuvwxyz" k_LETTERS)
  k_MOST_LAWS : Tok
  c_MOST_LAWS : mg "MOST_LAWS" = some (.int 40 k_MOST_LAWS)
  k_MOST_NUMBER : Tok
  c_MOST_NUMBER : mg "MOST_NUMBER" = some (.int 1000000 k_MOST_NUMBER)
  k_MOST_ORDER : Tok
  c_MOST_ORDER : mg "MOST_ORDER" = some (.int 3 k_MOST_ORDER)
  k_MOST_QUANTITIES : Tok
  c_MOST_QUANTITIES : mg "MOST_QUANTITIES" = some (.int 30 k_MOST_QUANTITIES)
  k_SIGNS : Tok
  c_SIGNS : mg "SIGNS" = some (.str "abcdefghijklmnopqrstuvwxyz0123456789" k_SIGNS)

/-! ### words -/
theorem same_upd {H : Hp} {p : Addr} {o : HO} (h : H p = none) : Same H (upd H p o) := fun b x e => by
  rw [upd_ne (ne_of_none e h)]
  exact e
theorem same_over {H H' : Hp} {p : Addr} {o : HO} (s : Same H H') (h : H p = none) : Same H (upd H' p o) := fun b x e => by
  rw [upd_ne (ne_of_none e h)]
  exact s _ _ e
theorem Same.seqT {K : PySem.W.Frag} {H H' : Hp} {a : Addr} {xs : List V} (e : Same H H') (h : SqT K H a xs) : SqT K H' a xs := by
  rcases h with (h | ⟨o, h⟩) | h
  · exact .inl (.inl (e _ _ h))
  · exact .inl (.inr ⟨o, e _ _ h⟩)
  · exact .inr h
/-- two lists in step -/
inductive A2 {α β : Type} (R : α → β → Prop) : List α → List β → Prop
  | nil : A2 R [] []
  | cons {a b as bs} : R a b → A2 R as bs → A2 R (a :: as) (b :: bs)
namespace A2
variable {α β γ : Type} {R S : α → β → Prop} {as : List α} {bs : List β}
theorem mono (f : ∀ a b, R a b → S a b) : ∀ {as : List α} {bs : List β}, A2 R as bs → A2 S as bs
  | _, _, .nil => .nil
  | _, _, .cons h t => .cons (f _ _ h) (mono f t)
theorem len : ∀ {as : List α} {bs : List β}, A2 R as bs → as.length = bs.length
  | _, _, .nil => rfl
  | _, _, .cons _ t => by rw [List.length_cons, List.length_cons, len t]
theorem get : ∀ {as : List α} {bs : List β}, A2 R as bs → ∀ {i : Nat} {a : α}, as[i]? = some a → ∃ b, bs[i]? = some b ∧ R a b
  | _, _, .nil, i, a, h => by simp at h
  | _, _, .cons h t, 0, a, e => by simp at e; subst e; exact ⟨_, rfl, h⟩
  | _, _, .cons h t, i + 1, a, e => get t (i := i) (by simpa using e)
theorem get' : ∀ {as : List α} {bs : List β}, A2 R as bs → ∀ {i : Nat} {b : β}, bs[i]? = some b → ∃ a, as[i]? = some a ∧ R a b
  | _, _, .nil, i, a, h => by simp at h
  | _, _, .cons h t, 0, a, e => by simp at e; subst e; exact ⟨_, rfl, h⟩
  | _, _, .cons h t, i + 1, a, e => get' t (i := i) (by simpa using e)
theorem snoc {a : α} {b : β} (h : R a b) : ∀ {as : List α} {bs : List β}, A2 R as bs → A2 R (as ++ [a]) (bs ++ [b])
  | _, _, .nil => .cons h .nil
  | _, _, .cons x t => .cons x (snoc h t)
theorem mem : ∀ {as : List α} {bs : List β}, A2 R as bs → ∀ a ∈ as, ∃ b ∈ bs, R a b
  | _, _, .cons h t, a, m => by
    rcases List.mem_cons.mp m with rfl | m
    · exact ⟨_, List.mem_cons_self, h⟩
    · obtain ⟨b, hb, r⟩ := mem t a m
      exact ⟨b, List.mem_cons_of_mem _ hb, r⟩
theorem of_map {f : β → α} (h : ∀ b, b ∈ bs → R (f b) b) : A2 R (bs.map f) bs := by
  induction bs with
  | nil => exact .nil
  | cons b r ih => exact .cons (h b List.mem_cons_self) (ih fun c hc => h c (List.mem_cons_of_mem _ hc))
end A2
theorem take_snoc {α : Type} {xs : List α} {i : Nat} {x : α} (h : xs[i]? = some x) : xs.take (i + 1) = xs.take i ++ [x] := by
  rw [List.take_add_one, h]; rfl
/-- a list of ints stands at a -/
def IL (H : Hp) (a : Addr) (ns : List Int) : Prop := H a = some (.lst (ns.map V.int))
theorem IL.sq {K : PySem.W.Frag} {H : Hp} {a : Addr} {ns : List Int} (h : IL H a ns) : SqL K H a (ns.map V.int) := SqL.of h
theorem IL.same {H H' : Hp} {a : Addr} {ns : List Int} (h : IL H a ns) (s : Same H H') : IL H' a ns := s _ _ h
theorem il_upd {H : Hp} {p : Addr} {ns : List Int} : IL (upd H p (.lst (ns.map V.int))) p ns := upd_same
theorem app_ints {ds : List Int} {x : Int} : ds.map V.int ++ [V.int x] = (ds ++ [x]).map V.int := by rw [List.map_append]; rfl
theorem small {n : Nat} (h : n ≤ 60000) : n ≤ sizeLine := Nat.le_trans h (by decide)
theorem small' {n : Nat} (h : n < 60000) : n < sizeLine := Nat.lt_of_lt_of_le h (by decide)

theorem mem_at {α : Type} {xs : List α} {i : Nat} {x : α} (h : xs[i]? = some x) : x ∈ xs := List.mem_of_getElem? h
theorem at_getD {α : Type} {xs : List α} {j : Nat} {d : α} (h : j < xs.length) : xs[j]? = some (xs.getD j d) := by
  rw [List.getD_eq_getElem?_getD, List.getElem?_eq_getElem h]; rfl
theorem ix_ok {n j : Nat} {i : Int} (e : i = (j : Int)) (h : j < n) : ixN n i = some j := by
  unfold ixN
  rw [if_pos (by omega), if_pos (by omega), e]; rfl
/-! ### a model -/
abbrev Hd := Int ⊕ Str
def vH : Hd → V
  | .inl n => .int n
  | .inr s => .str s
def dH : Hd → PyData
  | .inl n => .int n
  | .inr s => .str s
structure Trm where
  h : Hd
  k : Int
  j : Int
structure Lw where
  ex : Bool
  k : Int
  j : Int
  ts : List Trm
  src : Str
structure Mdl where
  qs : List Str
  ls : List Lw
section
variable (K : PySem.W.Frag)
def TmV (H : Hp) (v : V) (t : Trm) : Prop := ∃ a, v = .ref a ∧ SqT K H a [vH t.h, .int t.k, .int t.j]
def TsL (H : Hp) (p : Addr) (ts : List Trm) : Prop := ∃ xs, H p = some (.lst xs) ∧ A2 (TmV K H) xs ts
def LW (H : Hp) (v : V) (l : Lw) : Prop := ∃ a p, v = .ref a ∧ TsL K H p l.ts ∧
  (l.ex = true ∧ SqT K H a [.str "exact", .ref p, .str l.src] ∨ l.ex = false ∧ SqT K H a [.str "sized", .int l.k, .int l.j, .ref p, .str l.src])
/-- p is the list of the law's terms -/
def LWp (H : Hp) (v : V) (l : Lw) (p : Addr) : Prop := ∃ a, v = .ref a ∧
  (l.ex = true ∧ SqT K H a [.str "exact", .ref p, .str l.src] ∨ l.ex = false ∧ SqT K H a [.str "sized", .int l.k, .int l.j, .ref p, .str l.src])
def MD (H : Hp) (v : V) (m : Mdl) : Prop := ∃ a q r xs, v = .ref a ∧ SqT K H a [.ref q, .ref r] ∧ H q = some (.lst (m.qs.map V.str)) ∧ H r = some (.lst xs) ∧ A2 (LW K H) xs m.ls
/-- a list of drawn places -/
def PT2 (H : Hp) (v : V) (p : Nat × Nat) : Prop := ∃ a, v = .ref a ∧ SqT K H a [.int (p.1 : Nat), .int (p.2 : Nat)]
def PL (H : Hp) (a : Addr) (ps : List (Nat × Nat)) : Prop := ∃ xs, H a = some (.lst xs) ∧ A2 (PT2 K H) xs ps
end
/-- a list of places of a law, new tuples -/
def PT5 (H : Hp) (v : V) (p : Int × Int) : Prop := ∃ a, v = .ref a ∧ H a = some (.tup [.int p.1, .int p.2])
def PL5 (H : Hp) (a : Addr) (ps : List (Int × Int)) : Prop := ∃ xs, H a = some (.lst xs) ∧ A2 (PT5 H) xs ps
/-- all stands but the tables of code -/
def Lk (H H' : Hp) : Prop := ∀ b o, H b = some o → (∀ q, o ≠ .tbl q) → H' b = some o
def TGs (Ps : List Addr) (H : Hp) : Prop := ∀ P ∈ Ps, GxR.TabG H P
section
variable {K : PySem.W.Frag} {H H' H2 : Hp} {Ps : List Addr}
theorem lk_of (s : Same H H') : Lk H H' := fun b o e _ => s b o e
theorem Lk.refl : Lk H H := fun _ _ e _ => e
theorem Lk.trans (a : Lk H H') (b : Lk H' H2) : Lk H H2 := fun c o e n => b c o (a c o e n) n
theorem Lk.lst (s : Lk H H') {a : Addr} {xs : List V} (h : H a = some (.lst xs)) : H' a = some (.lst xs) := s _ _ h fun q z => nomatch z
theorem Lk.tup (s : Lk H H') {a : Addr} {xs : List V} (h : H a = some (.tup xs)) : H' a = some (.tup xs) := s _ _ h fun q z => nomatch z
theorem Lk.seqL (s : Lk H H') {a : Addr} {xs : List V} (h : SqL K H a xs) : SqL K H' a xs := by
  rcases h with (h | ⟨o, h⟩) | h
  · exact .inl (.inl (s _ _ h fun q z => nomatch z))
  · exact .inl (.inr ⟨o, s _ _ h fun q z => nomatch z⟩)
  · exact .inr h
theorem Lk.seqT (s : Lk H H') {a : Addr} {xs : List V} (h : SqT K H a xs) : SqT K H' a xs := by
  rcases h with (h | ⟨o, h⟩) | h
  · exact .inl (.inl (s _ _ h fun q z => nomatch z))
  · exact .inl (.inr ⟨o, s _ _ h fun q z => nomatch z⟩)
  · exact .inr h
theorem TGs.same (s : Same H H') (h : TGs Ps H) : TGs Ps H' := fun P hP => let ⟨ps, e, t⟩ := h P hP; ⟨ps, s _ _ e, t⟩
theorem lk_tab {P : Addr} (h : GxR.TabG H P) (t : GxR.Tabbed P H H') : Lk H H' := fun b o e n => by
  rw [t.2 b (fun z => by obtain ⟨ps, hp, _⟩ := h; rw [z, hp] at e; exact n ps (Option.some.inj e).symm)]
  exact e
theorem TGs.tab {P : Addr} (h : TGs Ps H) (t : GxR.Tabbed P H H') : TGs Ps H' := fun R hR => by
  by_cases e : R = P
  · rw [e]; exact t.1
  · obtain ⟨ps, hp, ht⟩ := h R hR
    exact ⟨ps, by rw [t.2 R e]; exact hp, ht⟩
theorem TmV.lk (s : Lk H H') {v : V} {t : Trm} (h : TmV K H v t) : TmV K H' v t := let ⟨a, e, q⟩ := h; ⟨a, e, s.seqT q⟩
theorem TsL.lk (s : Lk H H') {p : Addr} {ts : List Trm} (h : TsL K H p ts) : TsL K H' p ts := let ⟨xs, q, r⟩ := h; ⟨xs, s.lst q, r.mono fun _ _ z => z.lk s⟩
theorem LW.lk (s : Lk H H') {v : V} {l : Lw} (h : LW K H v l) : LW K H' v l := by
  obtain ⟨a, p, e, q, r⟩ := h
  exact ⟨a, p, e, q.lk s, r.imp (fun z => ⟨z.1, s.seqT z.2⟩) fun z => ⟨z.1, s.seqT z.2⟩⟩
theorem LWp.lk (s : Lk H H') {v : V} {l : Lw} {p : Addr} (h : LWp K H v l p) : LWp K H' v l p := let ⟨a, e, r⟩ := h; ⟨a, e, r.imp (fun z => ⟨z.1, s.seqT z.2⟩) fun z => ⟨z.1, s.seqT z.2⟩⟩
theorem LW.p {v : V} {l : Lw} (h : LW K H v l) : ∃ p, LWp K H v l p ∧ TsL K H p l.ts := let ⟨a, p, e, q, r⟩ := h; ⟨p, ⟨a, e, r⟩, q⟩
theorem MD.lk (s : Lk H H') {v : V} {m : Mdl} (h : MD K H v m) : MD K H' v m := by
  obtain ⟨a, q, r, xs, e, h1, h2, h3, h4⟩ := h
  exact ⟨a, q, r, xs, e, s.seqT h1, s.lst h2, s.lst h3, h4.mono fun _ _ z => z.lk s⟩
theorem PT2.lk (s : Lk H H') {v : V} {p : Nat × Nat} (h : PT2 K H v p) : PT2 K H' v p := let ⟨a, e, q⟩ := h; ⟨a, e, s.seqT q⟩
theorem PL.lk (s : Lk H H') {a : Addr} {ps : List (Nat × Nat)} (h : PL K H a ps) : PL K H' a ps := let ⟨xs, q, r⟩ := h; ⟨xs, s.lst q, r.mono fun _ _ z => z.lk s⟩
theorem PT5.lk (s : Lk H H') {v : V} {p : Int × Int} (h : PT5 H v p) : PT5 H' v p := let ⟨a, e, q⟩ := h; ⟨a, e, s.tup q⟩
theorem PL5.lk (s : Lk H H') {a : Addr} {ps : List (Int × Int)} (h : PL5 H a ps) : PL5 H' a ps := let ⟨xs, q, r⟩ := h; ⟨xs, s.lst q, r.mono fun _ _ z => z.lk s⟩
theorem TmV.same (s : Same H H') {v : V} {t : Trm} (h : TmV K H v t) : TmV K H' v t := h.lk (lk_of s)
theorem TsL.same (s : Same H H') {p : Addr} {ts : List Trm} (h : TsL K H p ts) : TsL K H' p ts := h.lk (lk_of s)
theorem LW.same (s : Same H H') {v : V} {l : Lw} (h : LW K H v l) : LW K H' v l := h.lk (lk_of s)
theorem LWp.same (s : Same H H') {v : V} {l : Lw} {p : Addr} (h : LWp K H v l p) : LWp K H' v l p := h.lk (lk_of s)
theorem MD.same (s : Same H H') {v : V} {m : Mdl} (h : MD K H v m) : MD K H' v m := h.lk (lk_of s)
theorem PT2.same (s : Same H H') {v : V} {p : Nat × Nat} (h : PT2 K H v p) : PT2 K H' v p := h.lk (lk_of s)
theorem PL.same (s : Same H H') {a : Addr} {ps : List (Nat × Nat)} (h : PL K H a ps) : PL K H' a ps := h.lk (lk_of s)
end
/-- the tables of the defs that hold generator expressions -/
structure Tbs (base : Heap) {K : PySem.W.Frag} {mg : Str → Option Value} (T : Txt K mg) (Ps : List Addr) where
  p1 : Addr
  p2 : Addr
  p3 : Addr
  p4 : Addr
  p5 : Addr
  is_in_range : GxR.TabB base mg T.is_in_range.c p1
  is_word : GxR.TabB base mg T.is_word.c p2
  is_name : GxR.TabB base mg T.is_name.c p3
  is_law : GxR.TabB base mg T.is_law.c p4
  is_model : GxR.TabB base mg T.is_model.c p5
  m1 : p1 ∈ Ps
  m2 : p2 ∈ Ps
  m3 : p3 ∈ Ps
  m4 : p4 ∈ Ps
  m5 : p5 ∈ Ps
/-- the places of a law -/
def Lw.places (l : Lw) : List (Int × Int) := if l.ex then l.ts.map fun t => (t.k, t.j) else (l.k, l.j) :: l.ts.map fun t => (t.k, t.j)
/-- the sizes of a sized law -/
def Lw.heads (l : Lw) : List Hd := if l.ex then [] else l.ts.map (·.h)
def Mdl.heads (m : Mdl) : List Hd := (m.ls.map Lw.heads).flatten
/-- at most n signs, all of them plain -/
def GS (n : Nat) (s : Str) : Prop := s.length ≤ n ∧ ∀ c ∈ s.cps.toList, c < 200
/-- any law of bounded numbers and texts -/
structure BL (l : Lw) : Prop where
  ts : ∀ t ∈ l.ts, t.k.natAbs < 10 ^ 8 ∧ t.j.natAbs < 10 ^ 8
  own : l.k.natAbs < 10 ^ 8 ∧ l.j.natAbs < 10 ^ 8
  num : l.ex = true → ∀ t ∈ l.ts, ∃ n : Int, t.h = .inl n ∧ n.natAbs < 10 ^ 8
  nam : l.ex = false → ∀ t ∈ l.ts, ∃ s : Str, t.h = .inr s ∧ GS 700 s
  src : GS 700 l.src
  many : l.ts.length ≤ 131
structure BM (m : Mdl) : Prop where
  qs : m.qs.length ≤ 64 ∧ ∀ q ∈ m.qs, GS 700 q
  ls : m.ls.length ≤ 64
  ok : ∀ l ∈ m.ls, BL l
/-- what the document asks of a law, of a model -/
structure OkL (many : Nat) (l : Lw) : Prop where
  rg : ∀ p ∈ l.places, 0 ≤ p.1 ∧ p.1 ≤ 3 ∧ 0 ≤ p.2 ∧ p.2 < (many : Int)
  nd : l.places.Nodup
  src : l.src = "" ∨ NM l.src
  num : l.ex = true → ∀ t ∈ l.ts, ∀ n : Int, t.h = .inl n → n ≠ 0 ∧ n.natAbs ≤ 1000000
  any : l.ex = false → l.ts ≠ []
def Nms (m : Mdl) : List Hd := m.qs.map Sum.inr ++ m.heads
def NMh : Hd → Prop
  | .inl _ => False
  | .inr s => NM s
structure OkM (m : Mdl) : Prop where
  q30 : m.qs.length ≤ 30
  l40 : m.ls.length ≤ 40
  ls : ∀ l ∈ m.ls, OkL m.qs.length l
  nm : ∀ h ∈ Nms m, NMh h
  nd : (Nms m).Nodup
/-- a drawn law; fam: its number, or none for the long one -/
structure VL (many : Nat) (fam : Option Nat) (l : Lw) : Prop where
  rg : ∀ p ∈ l.places, 0 ≤ p.1 ∧ p.1 < 4 ∧ 0 ≤ p.2 ∧ p.2 < (many : Int)
  nd : l.places.Nodup
  num : l.ex = true → l.k = 0 ∧ l.j = 0 ∧ ∀ t ∈ l.ts, ∃ n : Int, t.h = .inl n ∧ n ≠ 0 ∧ n.natAbs ≤ 1000000
  sz : l.ex = false → l.ts ≠ [] ∧ ∀ n, fam = some n → n < 41 ∧ l.ts.length < 7 ∧ ∀ (i : Nat) (t : Trm), l.ts[i]? = some t → t.h = .inr (szN n (i + 1))
  lg : l.ex = false → fam = none → l.ts.length < 120 ∧ ∀ (i : Nat) (t : Trm), l.ts[i]? = some t → t.h = .inr (lgN (decide (i + 1 = l.ts.length)) (i + 1))
  src : l.src = "" ∨ NM l.src
  many : l.ts.length ≤ 130
structure VM (m : Mdl) : Prop where
  qs : m.qs.length ≤ 30 ∧ ∀ q ∈ m.qs, QN q
  nd : m.qs.Nodup
  ls : m.ls.length ≤ 40
  ok : ∃ sp : Option Nat, ∀ (i : Nat) (l : Lw), m.ls[i]? = some l → VL m.qs.length (if sp = some i then none else some i) l
/-! new lists -/
/-- lists of flat things, all new, in a new list -/
def Rows (H H' : Hp) (p : Addr) (rows : List (List V)) : Prop := ∃ rs : List Addr, H' p = some (.lst (rs.map V.ref)) ∧ A2 (fun r row => H' r = some (.lst row)) rs rows ∧ ∀ r ∈ rs, H r = none ∧ r ≠ p
/-- each of es once -/
def Inj (es : List Addr) : Prop := ∀ (i j : Nat) (e : Addr), es[i]? = some e → es[j]? = some e → i = j
/-- lists of such, all new -/
def Tabs (H H' : Hp) (p : Addr) (tab : List (List (List V))) : Prop := ∃ rs : List Addr, H' p = some (.lst (rs.map V.ref)) ∧ (∀ r ∈ rs, H r = none ∧ r ≠ p) ∧ Inj rs ∧
  A2 (fun r row => ∃ es : List Addr, H' r = some (.lst (es.map V.ref)) ∧ A2 (fun e x => H' e = some (.lst x)) es row ∧ ∀ e ∈ es, H e = none ∧ e ≠ p ∧ e ∉ rs) rs tab
/-- all but D stand as they stood -/
def SameX (D : Addr) (H H' : Hp) : Prop := ∀ c o, c ≠ D → H c = some o → H' c = some o
theorem sx {D : Addr} {H H' : Hp} (s : Same H H') : SameX D H H' := fun c o _ h => s c o h
theorem SameX.trans {D : Addr} {H H1 H2 : Hp} (a : SameX D H H1) (b : SameX D H1 H2) : SameX D H H2 := fun c o n h => b c o n (a c o n h)
theorem SameX.put {D : Addr} {H : Hp} {o : HO} : SameX D H (upd H D o) := fun c x n h => by
  rw [upd_ne n]; exact h
theorem SameX.seqT {K : PySem.W.Frag} {D : Addr} {H H' : Hp} {a : Addr} {xs : List V} (e : SameX D H H') (n : a ≠ D) (h : SqT K H a xs) : SqT K H' a xs := by
  rcases h with (h | ⟨o, h⟩) | h
  · exact .inl (.inl (e _ _ n h))
  · exact .inl (.inr ⟨o, e _ _ n h⟩)
  · exact .inr h
section
variable {J : It} {n : Nat} {G : Hp → Prop} {Y : Nat → Hp → V → Hp → Prop} {g : TG} {tt : TT} {te : TE} {vs : List Nat} {σ : L2.St} {H1 : Hp} {D : Addr} {Qd : Hp → Prop}
/-- what a comprehension wants of its turns -/
abbrev LcW (J : It) (g : TG) (tt : TT) (te : TE) (vs : List Nat) (σ : L2.St) (H1 : Hp) (D : Addr) (Qd : Hp → Prop) : Prop :=
  ∃ W : Nat → Nat → Hp → Prop, (∃ m, W 0 m (upd H1 D (.lst []))) ∧ ∀ i m H, W i m H →
      (J.stop i H ∧ Qd H) ∨ (J.go i H ∧ ∃ Nx : Hp → Prop, (∀ H', Nx H' → ∃ m', m' < m ∧ W (i + 1) m' H') ∧ ∀ x H', J.yld i H x H' → g x (wipe σ vs) H' fun σ2 H2 => wipe σ2 vs = wipe σ vs ∧ tt σ2 H2 fun b H3 =>
        if b = true then te σ2 H3 fun y H4 => ∃ acc, H4 D = some (.lst acc) ∧ acc.length < sizeLine ∧ Nx (upd H4 D (.lst (acc ++ [y]))) else Nx H3)
theorem lc_inv (w : Walk J n G Y) (R : Nat → Hp → List V → Prop) (nD : H1 D = none) (hG : ∀ H', Same H1 H' → G H') (hl : n < sizeLine) (h0 : R 0 (upd H1 D (.lst [])) [])
    (hs : ∀ i x H Hx ys, i < n → Same H1 H → H D = some (.lst ys) → R i H ys → Y i H x Hx → ∀ (Qt : VK) (Qf : Hp → Prop), (∀ y H4, Same H H4 → R (i + 1) (upd H4 D (.lst (ys ++ [y]))) (ys ++ [y]) → Qt y H4) →
      (∀ H3, Same H H3 → R (i + 1) H3 ys → Qf H3) → g x (wipe σ vs) Hx fun σ2 H2 => wipe σ2 vs = wipe σ vs ∧ tt σ2 H2 fun b H3 => if b = true then te σ2 H3 Qt else Qf H3)
    (hd : ∀ H ys, Same H1 H → H D = some (.lst ys) → R n H ys → Qd H) : LcW J g tt te vs σ H1 D Qd := by
  refine lc_it w (fun i H => Same H1 H ∧ ∃ ys, ys.length ≤ i ∧ H D = some (.lst ys) ∧ R i H ys) ⟨same_upd nD, [], Nat.le_refl _, upd_same, h0⟩ (fun i H _ p => hG H p.1) (fun i x H Hx hi p y => ?_) (fun H p => ?_)
  · obtain ⟨sm, ys, hn, hD, hR⟩ := p
    refine hs i x H Hx ys hi sm hD hR y (fun y H4 => ∃ acc, H4 D = some (.lst acc) ∧ acc.length < sizeLine ∧ Same H1 (upd H4 D (.lst (acc ++ [y]))) ∧ ∃ zs, zs.length ≤ i + 1 ∧ upd H4 D (.lst (acc ++ [y])) D = some (.lst zs) ∧ R (i + 1) (upd H4 D (.lst (acc ++ [y]))) zs) _ (fun y H4 s4 r => ?_) (fun H3 s3 r => ?_)
    · exact ⟨ys, s4 _ _ hD, by omega, same_over (sm.trans s4) nD, ys ++ [y], by rw [List.length_append]; exact Nat.succ_le_succ hn, upd_same, r⟩
    · exact ⟨sm.trans s3, ys, by omega, s3 _ _ hD, r⟩
  · obtain ⟨sm, ys, _, hD, hR⟩ := p
    exact hd H ys sm hD hR
/-- item by item -/
theorem lc_fm {α β : Type} (w : Walk J n G Y) (ls : List α) (f : α → Option β) (rel : Hp → V → β → Prop) (mono : ∀ H H' v b, SameX D H H' → rel H v b → rel H' v b) (hn : ls.length = n) (nD : H1 D = none)
    (hG : ∀ H', Same H1 H' → G H') (hl : n < sizeLine)
    (hs : ∀ i x H Hx ys l, ls[i]? = some l → Same H1 H → H D = some (.lst ys) → Y i H x Hx → ∀ (Qt : VK) (Qf : Hp → Prop), (∀ y H4 b, f l = some b → Same H H4 → rel H4 y b → Qt y H4) →
      (f l = none → ∀ H3, Same H H3 → Qf H3) → g x (wipe σ vs) Hx fun σ2 H2 => wipe σ2 vs = wipe σ vs ∧ tt σ2 H2 fun b H3 => if b = true then te σ2 H3 Qt else Qf H3)
    (hd : ∀ H ys, Same H1 H → H D = some (.lst ys) → A2 (rel H) ys (ls.filterMap f) → Qd H) : LcW J g tt te vs σ H1 D Qd := by
  refine lc_inv w (fun i H ys => A2 (rel H) ys ((ls.take i).filterMap f)) nD hG hl .nil (fun i x H Hx ys hi sm hD hR y Qt Qf qt qf => ?_) (fun H ys sm hD hR => ?_)
  · obtain ⟨l, hl⟩ : ∃ l, ls[i]? = some l := ⟨ls[i]'(by omega), by simp [show i < ls.length by omega]⟩
    refine hs i x H Hx ys l hl sm hD y Qt Qf (fun y H4 b hb s4 r => ?_) (fun hb H3 s3 => ?_)
    · refine qt y H4 s4 ?_
      rw [take_snoc hl, List.filterMap_append]
      show A2 _ _ (_ ++ List.filterMap f [l])
      rw [show List.filterMap f [l] = [b] by simp [hb]]
      exact A2.snoc (mono _ _ _ _ SameX.put r) (hR.mono fun _ _ z => mono _ _ _ _ ((sx s4).trans SameX.put) z)
    · refine qf H3 s3 ?_
      rw [take_snoc hl, List.filterMap_append]
      show A2 _ _ (_ ++ List.filterMap f [l])
      rw [show List.filterMap f [l] = [] by simp [hb], List.append_nil]
      exact hR.mono fun _ _ z => mono _ _ _ _ (sx s3) z
  · rw [List.take_of_length_le (by omega)] at hR
    exact hd H ys sm hD hR
end
/-- a text so many times -/
theorem op_mulS {X : Cx} : OpR X (binaryOp .Mult) (fun x y H Q => ∃ (z : Str) (n : Int), x = .str z ∧ y = .int n ∧ z.length ≤ 1 ∧ -1000 ≤ n ∧ n ≤ 1000 ∧ Q (.str (Txt.mul z n)) H) := by
  intro pins s σ H x y v u Q I rx ry h
  obtain ⟨z, n, rfl, rfl, h1, h2, h3, q⟩ := h
  obtain ⟨t, rfl⟩ := rx
  obtain ⟨t', rfl⟩ := ry
  exact SB.mul (mulOk_of 1 1000 h1 h3 (by omega) (by decide) (by decide)) fun t k => ⟨.str _, H, I.tok _, ⟨_, rfl⟩, q⟩
def rLenS (K : PySem.W.Frag) : List V → Hp → VK → Prop := fun xs H Q => ∃ p ys, xs = [.ref p] ∧ (SqL K H p ys ∨ SqT K H p ys) ∧ Q (.int (ys.length : Nat)) H
theorem call_lenC {X : Cx} : CallR X (.builtin "len") (rLenS X.K) := call_len_seq
theorem r65 {k : Nat} {A : Around} (r : Room k A) : A.units + 65 < cLine := by have := r.un; omega
theorem log_small {n : Nat} (h : n < 2 ^ 30) : n.log2 < 1920 := by
  rcases Nat.eq_zero_or_pos n with rfl | p
  · decide
  · exact Nat.lt_of_lt_of_le ((Nat.log2_lt (by omega)).mpr h) (by decide)

end K05
-- C5
namespace K05
open PySem PySem.Spec PyProof.Rows L2
section
variable {P : Program} {w : World} {K : PySem.W.Frag} {mg : Str → Option Value} {base : Heap}
theorem ex_eq {l : Lw} {H : Hp} {v : V} (h : LW K H v l) : ∃ a xs, v = .ref a ∧ SqT K H a xs ∧ atI xs 0 = some (.str (if l.ex then "exact" else "sized")) := by
  obtain ⟨a, p, e, _, ⟨z, h⟩ | ⟨z, h⟩⟩ := h
  · exact ⟨a, _, e, h, by rw [z]; rfl⟩
  · exact ⟨a, _, e, h, by rw [z]; rfl⟩
theorem str_ex (b : Bool) : decide (V.str (if b then "exact" else "sized") = V.str "exact") = b := by
  cases b <;> decide +kernel
def sp_is_exact (K : PySem.W.Frag) : Sp := fun vs H Q _ => ∃ (v : V) (l : Lw), vs = [v] ∧ LW K H v l ∧ Q (.bl l.ex) H
theorem ok_is_exact (T : Txt K mg) : FnOk P w K mg base CX0 1 T.is_exact.a T.is_exact.fd ["told"] (sp_is_exact K) := by
  refine T.is_exact.F.ok sc_is_exact (fun vs H Q E h => ?_) (fun cdv A outer s H vs Q E hr h => ?_)
  · obtain ⟨v, l, rfl, _⟩ := h
    rfl
  · obtain ⟨v, l, rfl, hl, q⟩ := h
    refine ⟨_, (pss_one (ps_ret (pe_cmpR op_eq (pe_ix ix_tup (pv 0) pe_int (fun _ _ => rfl)) pe_str (nomark _)))), ?_⟩
    obtain ⟨a, xs, rfl, ht, h0⟩ := ex_eq hl
    refine ⟨_, rfl, a, xs, _, _, rfl, rfl, ht, h0, rfl, ?_⟩
    rw [str_ex]
    exact q
def sp_terms_of (K : PySem.W.Frag) : Sp := fun vs H Q _ => ∃ (v : V) (l : Lw) (p : Addr), vs = [v] ∧ LW K H v l ∧ LWp K H v l p ∧ Q (.ref p) H
theorem ok_terms_of (T : Txt K mg) : FnOk P w K mg base CX0 2 T.terms_of.a T.terms_of.fd ["told"] (sp_terms_of K) := by
  refine T.terms_of.F.ok sc_terms_of (fun vs H Q E h => ?_) (fun cdv A outer s H vs Q E hr h => ?_)
  · obtain ⟨v, l, p, rfl, _⟩ := h
    rfl
  · obtain ⟨v, l, p, rfl, hl, hp, q⟩ := h
    refine ⟨_, (pss_one (ps_ret (pe_ifExp (pt_val (pe_call (ok_is_exact T) (hr.mono (by decide)) (by rfl) T.is_exact.g T.is_exact.F.kp T.is_exact.b .nil pass0 (pa_cons (pv 0) pa_nil))) (pe_ix ix_tup (pv 0) pe_int (fun _ _ => rfl)) (pe_ix ix_tup (pv 0) pe_int (fun _ _ => rfl))))), ?_⟩
    refine ⟨v, rfl, v, l, rfl, hl, _, rfl, ?_⟩
    obtain ⟨a, rfl, ⟨z, h⟩ | ⟨z, h⟩⟩ := hp
    · rw [z]
      exact iteT ⟨_, rfl, a, _, _, _, rfl, rfl, h, rfl, q⟩
    · rw [z]
      exact iteF ⟨_, rfl, a, _, _, _, rfl, rfl, h, rfl, q⟩
theorem src_at {l : Lw} {H : Hp} {v : V} (h : LW K H v l) : ∃ a xs, v = .ref a ∧ SqT K H a xs ∧ atI xs (-1) = some (.str l.src) := by
  obtain ⟨a, p, e, _, ⟨z, h⟩ | ⟨z, h⟩⟩ := h
  · exact ⟨a, _, e, h, rfl⟩
  · exact ⟨a, _, e, h, rfl⟩
def sp_source_of (K : PySem.W.Frag) : Sp := fun vs H Q _ => ∃ (v : V) (l : Lw), vs = [v] ∧ LW K H v l ∧ Q (.str l.src) H
theorem ok_source_of (T : Txt K mg) : FnOk P w K mg base CX0 1 T.source_of.a T.source_of.fd ["told"] (sp_source_of K) := by
  refine T.source_of.F.ok sc_source_of (fun vs H Q E h => ?_) (fun cdv A outer s H vs Q E hr h => ?_)
  · obtain ⟨v, l, rfl, _⟩ := h
    rfl
  · obtain ⟨v, l, rfl, hl, q⟩ := h
    refine ⟨_, (pss_one (ps_ret (pe_ix ix_tup (pv 0) (pe_un un_neg pe_int) (fun _ _ => rfl)))), ?_⟩
    obtain ⟨a, xs, rfl, ht, h0⟩ := src_at hl
    exact ⟨_, rfl, _, rfl, a, xs, _, _, rfl, rfl, ht, h0, q⟩
def sp_sizes_in (K : PySem.W.Frag) : Sp := fun vs H Q _ => ∃ (v : V) (l : Lw), vs = [v] ∧ LW K H v l ∧ l.ts.length ≤ 1000 ∧ ∀ H' p, Same H H' → H p = none → H' p = some (.lst (l.heads.map vH)) → Q (.ref p) H'
theorem fm_id {α β : Type} (f : α → β) (xs : List α) : xs.filterMap (fun x => some (f x)) = xs.map f := by rw [List.filterMap_eq_map']
theorem a2_eq {α β : Type} {f : β → α} : ∀ {xs : List α} {ys : List β}, A2 (fun x y => x = f y) xs ys → xs = ys.map f
  | _, _, .nil => rfl
  | _, _, .cons h t => by rw [List.map_cons, h, a2_eq t]
theorem ok_sizes_in (T : Txt K mg) : FnOk P w K mg base CX0 2 T.sizes_in.a T.sizes_in.fd ["told"] (sp_sizes_in K) := by
  refine T.sizes_in.F.ok sc_sizes_in (fun vs H Q E h => ?_) (fun cdv A outer s H vs Q E hr h => ?_)
  · obtain ⟨v, l, rfl, _⟩ := h
    rfl
  · obtain ⟨v, l, rfl, hl, hn, q⟩ := h
    refine ⟨_, (pss_one (ps_ret (pe_ifExp (pt_val (pe_call (ok_is_exact T) (hr.mono (by decide)) (by rfl) T.is_exact.g T.is_exact.F.kp T.is_exact.b .nil pass0 (pa_cons (pv 0) pa_nil))) (pe_lst pa_nil) (pe_lc (own := [("size", 1), ("_", 2), ("_", 2)]) (g := gTup K 3 (gCons (gName 1) (gCons (gName 2) (gCons (gName 2) gNil)))) rfl sc_sizes_in.nd (pi_list (pe_ix ix_tup (pv 0) pe_int (fun _ _ => rfl))) (blkOk_by (N := ["told", "size", "_"]) (sc := defScope s_sizes_in) (by decide +kernel)) (fun _ _ _ _ _ => (pg_tup rfl (pgs_cons (pg_name (i := 1) sc_sizes_in.nd rfl (.inl rfl)) (pgs_cons (pg_name (i := 2) sc_sizes_in.nd rfl (.inl rfl)) (pgs_cons (pg_name (i := 2) sc_sizes_in.nd rfl (.inl rfl)) pgs_nil))))) (fun _ _ _ _ _ => pts_nil) (fun _ _ _ _ _ => (pv 1)))))), ?_⟩
    refine ⟨v, rfl, v, l, rfl, hl, _, rfl, ?_⟩
    obtain ⟨a, p, rfl, ⟨xs, hx0, hr2⟩, ht⟩ := hl
    have hx : SqL K H p xs := .of hx0
    rcases ht with ⟨z, h⟩ | ⟨z, h⟩
    · rw [z]
      refine iteT ⟨by show 0 ≤ sizeLine; decide, fun p hp => ?_⟩
      exact q _ p (same_upd hp) hp (by rw [upd_same]; unfold Lw.heads; rw [z]; rfl)
    · rw [z]
      refine iteF ⟨_, rfl, a, _, _, _, rfl, rfl, h, rfl, p, rfl, ⟨xs, hx⟩, fun D nD => ?_⟩
      refine lc_fm (walk_list (xs := xs)) l.ts (fun t => some t.h) (fun _ v b => v = vH b) (fun _ _ _ _ _ z => z) hr2.len.symm nD (fun H' s => s.seq hx) (small' (by have := hr2.len; omega)) (fun i x H' Hx ys t ht sm hD y Qt Qf qt qf => ?_) (fun H' ys sm hD hR => ?_)
      · obtain ⟨rfl, hx⟩ := y
        obtain ⟨t', ht', r⟩ := hr2.get hx
        obtain rfl := Option.some.inj (ht.symm.trans ht')
        obtain ⟨b, rfl, rb⟩ := r.same sm
        exact ⟨b, _, rfl, rb, rfl, _, _, rfl, _, _, rfl, _, _, rfl, rfl, rfl, _, rfl, qt _ _ _ rfl (Same.refl _) rfl⟩
      · refine q H' D sm nD ?_
        rw [hD, a2_eq hR]
        unfold Lw.heads
        rw [z, fm_id]
        rfl
def sp_places_of (K : PySem.W.Frag) : Sp := fun vs H Q _ => ∃ (v : V) (l : Lw), vs = [v] ∧ LW K H v l ∧ l.ts.length ≤ 1000 ∧ ∀ H' p, Same H H' → H p = none → PL5 H' p l.places → Q (.ref p) H'
/-- a place, not the list D itself -/
def PX5 (D : Addr) (H : Hp) (v : V) (p : Int × Int) : Prop := ∃ a, v = .ref a ∧ a ≠ D ∧ H a = some (.tup [.int p.1, .int p.2])
theorem PX5.mono {D : Addr} (H H' : Hp) (v : V) (b : Int × Int) (s : SameX D H H') (h : PX5 D H v b) : PX5 D H' v b := let ⟨a, e, n, q⟩ := h; ⟨a, e, n, s _ _ n q⟩
theorem PX5.pt {D : Addr} {H : Hp} {v : V} {b : Int × Int} (h : PX5 D H v b) : PT5 H v b := let ⟨a, e, _, q⟩ := h; ⟨a, e, q⟩
theorem PT5.same {H H' : Hp} {v : V} {b : Int × Int} (s : Same H H') (h : PT5 H v b) : PT5 H' v b := h.lk (lk_of s)
theorem ok_places_of (T : Txt K mg) : FnOk P w K mg base CX0 3 T.places_of.a T.places_of.fd ["told"] (sp_places_of K) := by
  refine T.places_of.F.ok sc_places_of (fun vs H Q E h => ?_) (fun cdv A outer s H vs Q E hr h => ?_)
  · obtain ⟨v, l, rfl, _⟩ := h
    rfl
  · obtain ⟨v, l, rfl, hl, hn, q⟩ := h
    refine ⟨_, (pss_cons (ps_setLc (i := 1) (own := [("_", 2), ("k", 3), ("j", 4)]) (g := gTup K 3 (gCons (gName 2) (gCons (gName 3) (gCons (gName 4) gNil)))) rfl sc_places_of.nd rfl rfl (sw_true rfl rfl rfl (by decide +kernel)) (pi_list (pe_call (ok_terms_of T) (hr.mono (by decide)) (by rfl) T.terms_of.g T.terms_of.F.kp T.terms_of.b .nil pass0 (pa_cons (pv 0) pa_nil))) (blkOk_by (N := ["told", "places", "_", "k", "j"]) (sc := defScope s_places_of) (by decide +kernel)) (fun _ _ _ _ _ => (pg_tup rfl (pgs_cons (pg_name (i := 2) sc_places_of.nd rfl (.inl rfl)) (pgs_cons (pg_name (i := 3) sc_places_of.nd rfl (.inl rfl)) (pgs_cons (pg_name (i := 4) sc_places_of.nd rfl (.inl rfl)) pgs_nil))))) (fun _ _ _ _ _ => pts_nil) (fun _ _ _ _ _ => (pe_tup (pa_cons (pv 3) (pa_cons (pv 4) pa_nil)))))
      (pss_one (ps_ret (pe_ifExp (pt_val (pe_call (ok_is_exact T) (hr.mono (by decide)) (by rfl) T.is_exact.g T.is_exact.F.kp T.is_exact.b .nil pass0 (pa_cons (pv 0) pa_nil))) (pv 1) (pe_op op_cat (pe_lst (pa_cons (pe_tup (pa_cons (pe_ix ix_tup (pv 0) pe_int (fun _ _ => rfl)) (pa_cons (pe_ix ix_tup (pv 0) pe_int (fun _ _ => rfl)) pa_nil))) pa_nil)) (pv 1)))))), ?_⟩
    obtain ⟨p, hlp, xs, hx0, hr2⟩ := hl.p
    have hx : SqL K H p xs := .of hx0
    refine ⟨v, rfl, v, l, p, rfl, hl, hlp, ?_⟩
    refine ⟨p, rfl, ⟨xs, hx⟩, fun D nD => ?_⟩
    refine lc_fm (walk_list (xs := xs)) l.ts (fun t => some (t.k, t.j)) (PX5 D) PX5.mono hr2.len.symm nD (fun H' s => s.seq hx) (small' (by have := hr2.len; omega)) (fun i x H' Hx ys t ht sm hD y Qt Qf qt qf => ?_) (fun H' ys sm hD hR => ?_)
    · obtain ⟨rfl, hx⟩ := y
      obtain ⟨t', ht', r⟩ := hr2.get hx
      obtain rfl := Option.some.inj (ht.symm.trans ht')
      obtain ⟨b, rfl, rb⟩ := r.same sm
      refine ⟨b, _, rfl, rb, rfl, _, _, rfl, _, _, rfl, _, _, rfl, rfl, rfl, _, rfl, _, rfl, by show 2 ≤ sizeLine; decide, fun c hc => ?_⟩
      exact qt _ _ _ rfl (same_upd hc) ⟨c, rfl, (fun z => by rw [z, hD] at hc; cases hc), upd_same⟩
    · rw [fm_id] at hR
      refine ⟨v, rfl, v, l, rfl, hl.same sm, _, rfl, ?_⟩
      obtain ⟨a, p2, rfl, hp, ⟨z, h⟩ | ⟨z, h⟩⟩ := hl
      · rw [z]
        refine iteT ⟨_, rfl, q H' D sm nD ⟨ys, hD, ?_⟩⟩
        unfold Lw.places
        rw [z]
        exact hR.mono fun _ _ => PX5.pt
      · rw [z]
        refine iteF ?_
        have h := Same.seqT sm h
        refine ⟨_, rfl, a, _, _, _, rfl, rfl, h, rfl, _, rfl, a, _, _, _, rfl, rfl, h, rfl, by show 2 ≤ sizeLine; decide, fun t nt => ?_⟩
        refine ⟨by show 1 ≤ sizeLine; decide, fun u nu => ?_⟩
        have hDu : D ≠ u := fun z => by rw [← z, upd_ne (fun y => by rw [← y, hD] at nt; cases nt), hD] at nu; cases nu
        have hD2 : upd (upd H' t (.tup [.int l.k, .int l.j])) u (.lst [V.ref t]) D = some (.lst ys) := by
          rw [upd_ne hDu, upd_ne (fun y => by rw [← y, hD] at nt; cases nt)]; exact hD
        refine ⟨_, rfl, u, D, _, _, rfl, rfl, upd_same, hD2, ?_, fun r nr => ?_⟩
        · have := hR.len
          simp at this
          exact small (by simp; omega)
        · have s1 : Same H' (upd (upd H' t (.tup [.int l.k, .int l.j])) u (.lst [V.ref t])) := (same_upd nt).trans (same_upd nu)
          refine q _ r (sm.trans (s1.trans (same_upd nr))) ((sm.trans s1).free nr) ⟨_, upd_same, ?_⟩
          unfold Lw.places
          rw [z]
          refine .cons ⟨t, rfl, ?_⟩ (hR.mono fun _ _ z => (PX5.pt z).same (s1.trans (same_upd nr)))
          exact same_upd nr _ _ (same_upd nu _ _ upd_same)
end
end K05
-- D5
namespace K05
open PySem PySem.Spec PyProof.Rows L2
section
variable {J J1 : It} {n : Nat} {G : Hp → Prop} {Y : Nat → Hp → V → Hp → Prop} {g g1 : TG} {tt tt1 : TT} {te : TE} {vs vs1 : List Nat} {σ σ2 : L2.St} {H1 H4 : Hp} {D : Addr} {wi1 : TI}
/-- what the second clause wants, on its way to Nx -/
abbrev In2 (J1 : It) (g1 : TG) (tt1 : TT) (te : TE) (vs1 : List Nat) (D : Addr) (Nx : Hp → Prop) (σ2 : L2.St) (H4 : Hp) : Prop :=
  ∃ W1 : Nat → Nat → Hp → Prop, (∃ m, W1 0 m H4) ∧ ∀ j k H, W1 j k H → (J1.stop j H ∧ Nx H) ∨ (J1.go j H ∧ ∃ Nx1 : Hp → Prop, (∀ H', Nx1 H' → ∃ k', k' < k ∧ W1 (j + 1) k' H') ∧ ∀ x H', J1.yld j H x H' → g1 x (wipe σ2 vs1) H' fun σ3 H5 => wipe σ3 vs1 = wipe σ2 vs1 ∧ tt1 σ3 H5 fun b H6 =>
    if b = true then te σ3 H6 fun y H7 => ∃ acc, H7 D = some (.lst acc) ∧ acc.length < sizeLine ∧ Nx1 (upd H7 D (.lst (acc ++ [y]))) else Nx1 H6)
theorem lc2_in {Nx : Hp → Prop} (w : Walk J1 n G Y) (Pv : Nat → Hp → Prop) (h0 : Pv 0 H4) (hG : ∀ j H, Pv j H → G H)
    (hs : ∀ j x H H', j < n → Pv j H → Y j H x H' → g1 x (wipe σ2 vs1) H' fun σ3 H5 => wipe σ3 vs1 = wipe σ2 vs1 ∧ tt1 σ3 H5 fun b H6 =>
      if b = true then te σ3 H6 fun y H7 => ∃ acc, H7 D = some (.lst acc) ∧ acc.length < sizeLine ∧ Pv (j + 1) (upd H7 D (.lst (acc ++ [y]))) else Pv (j + 1) H6) (hd : ∀ H, Pv n H → Nx H) : In2 J1 g1 tt1 te vs1 D Nx σ2 H4 := by
  refine ⟨fun j k H => k + j = n ∧ Pv j H, ⟨n, rfl, h0⟩, fun j k H ⟨e, p⟩ => ?_⟩
  rcases Nat.lt_or_ge j n with lt | ge
  · exact .inr ⟨w.goes j H lt (hG j H p), Pv (j + 1), fun H' p' => ⟨k - 1, by omega, by omega, p'⟩, fun x H' y => hs j x H H' lt p (w.yields j H x H' lt (hG j H p) y)⟩
  · obtain rfl : j = n := by omega
    exact .inl ⟨w.stops H (hG j H p), hd H p⟩
theorem lc2_out {Qd : Hp → Prop} (w : Walk J n G Y) (Pv : Nat → Hp → Prop) (h0 : Pv 0 (upd H1 D (.lst []))) (hG : ∀ j H, Pv j H → G H)
    (hs : ∀ i x H H', i < n → Pv i H → Y i H x H' → g x (wipe σ vs) H' fun σ2 H2 => wipe σ2 vs = wipe σ vs ∧ tt σ2 H2 fun b H3 =>
      if b = true then wi1 σ2 H3 fun J1 H4 => In2 J1 g1 tt1 te vs1 D (Pv (i + 1)) σ2 H4 else Pv (i + 1) H3) (hd : ∀ H, Pv n H → Qd H) :
    ∃ W : Nat → Nat → Hp → Prop, (∃ m, W 0 m (upd H1 D (.lst []))) ∧ ∀ i m H, W i m H → (J.stop i H ∧ Qd H) ∨ (J.go i H ∧ ∃ Nx : Hp → Prop, (∀ H', Nx H' → ∃ m', m' < m ∧ W (i + 1) m' H') ∧ ∀ x H', J.yld i H x H' → g x (wipe σ vs) H' fun σ2 H2 => wipe σ2 vs = wipe σ vs ∧ tt σ2 H2 fun b H3 =>
      if b = true then wi1 σ2 H3 fun J1 H4 => In2 J1 g1 tt1 te vs1 D Nx σ2 H4 else Nx H3) := by
  refine ⟨fun j k H => k + j = n ∧ Pv j H, ⟨n, rfl, h0⟩, fun j k H ⟨e, p⟩ => ?_⟩
  rcases Nat.lt_or_ge j n with lt | ge
  · exact .inr ⟨w.goes j H lt (hG j H p), Pv (j + 1), fun H' p' => ⟨k - 1, by omega, by omega, p'⟩, fun x H' y => hs j x H H' lt p (w.yields j H x H' lt (hG j H p) y)⟩
  · obtain rfl : j = n := by omega
    exact .inl ⟨w.stops H (hG j H p), hd H p⟩
end
section
variable {P : Program} {w : World} {K : PySem.W.Frag} {mg : Str → Option Value} {base : Heap}
theorem sizes_len {ls : List Lw} (h : ∀ l ∈ ls, l.ts.length ≤ 131) : (ls.flatMap fun l => l.heads.map vH).length ≤ 131 * ls.length := by
  induction ls with
  | nil => exact Nat.le_refl _
  | cons l r ih =>
    rw [List.flatMap_cons, List.length_append, List.length_map, List.length_cons]
    have a := ih fun x hx => h x (List.mem_cons_of_mem _ hx)
    have b : l.heads.length ≤ 131 := by
      have := h l List.mem_cons_self
      unfold Lw.heads
      split
      · exact Nat.zero_le _
      · rw [List.length_map]; exact this
    omega
theorem heads_flat (m : Mdl) : (m.ls.flatMap fun l => l.heads.map vH) = m.heads.map vH := by
  unfold Mdl.heads
  rw [List.map_flatten, List.map_map, List.flatMap_def]
  rfl
def sp_sizes_of (K : PySem.W.Frag) : Sp := fun vs H Q _ => ∃ (v : V) (m : Mdl), vs = [v] ∧ MD K H v m ∧ BM m ∧ ∀ H' p, Same H H' → H p = none → H' p = some (.lst (m.heads.map vH)) → Q (.ref p) H'
theorem ok_sizes_of (T : Txt K mg) : FnOk P w K mg base CX0 3 T.sizes_of.a T.sizes_of.fd ["model"] (sp_sizes_of K) := by
  refine T.sizes_of.F.ok sc_sizes_of (fun vs H Q E h => ?_) (fun cdv A outer s H vs Q E hr h => ?_)
  · obtain ⟨v, m, rfl, _⟩ := h
    rfl
  · obtain ⟨v, m, rfl, ⟨a, qa, r, xs, rfl, h1, h2, h30, h4⟩, vm, q⟩ := h
    have h3 : SqL K H r xs := .of h30
    refine ⟨_, (pss_cons (ps_asg (pv 0) (pg_tup rfl (pgs_cons (pg_name (i := 1) sc_sizes_of.nd rfl (.inl rfl)) (pgs_cons (pg_name (i := 2) sc_sizes_of.nd rfl (.inl rfl)) pgs_nil))))
      (pss_one (ps_ret (pe_lc2 (wi1 := iList K _) (own := [("told", 3), ("size", 4)]) (vs1 := [4]) rfl sc_sizes_of.nd (pi_list (pv 2)) (blkOk_by (N := ["model", "_", "laws", "told", "size"]) (sc := defScope s_sizes_of) (by decide +kernel)) (by decide) (fun _ _ _ _ _ => (pg_name (i := 3) sc_sizes_of.nd rfl (.inl rfl))) (fun _ _ _ _ _ => pts_nil) (fun _ _ _ _ _ => (pi_list (pe_call (ok_sizes_in T) (hr.mono (by decide)) (by rfl) T.sizes_in.g T.sizes_in.F.kp T.sizes_in.b .nil pass0 (pa_cons (pv 3) pa_nil)))) (fun _ _ _ _ _ => (pg_name (i := 4) sc_sizes_of.nd rfl (.inl rfl))) (fun _ _ _ _ _ => pts_nil) (fun _ _ _ _ _ => (pv 4)))))), ?_⟩
    refine ⟨.ref a, rfl, a, _, rfl, h1, rfl, _, _, rfl, _, _, rfl, rfl, ?_⟩
    refine ⟨.ref r, rfl, r, rfl, ⟨xs, h3⟩, fun D nD => ?_⟩
    refine lc2_out (walk_list (xs := xs)) (fun i G => Same H G ∧ G D = some (.lst ((m.ls.take i).flatMap fun l => l.heads.map vH))) ⟨same_upd nD, upd_same⟩ (fun _ _ p => p.1.seq h3) (fun i x G Hx hi p y => ?_) (fun G p => ?_)
    · obtain ⟨sm, hD⟩ := p
      obtain ⟨rfl, hx⟩ := y
      obtain ⟨l, hl, rl⟩ := h4.get hx
      have vl := vm.ok l (mem_at hl)
      have tk : (m.ls.take (i + 1)).flatMap (fun l => l.heads.map vH) = (m.ls.take i).flatMap (fun l => l.heads.map vH) ++ l.heads.map vH := by rw [take_snoc hl, List.flatMap_append, List.flatMap_singleton]
      refine ⟨rfl, x, rfl, x, l, rfl, rl.same sm, Nat.le_trans vl.many (by decide), fun H5 p s5 np hp => ?_⟩
      refine ⟨p, rfl, ⟨_, .of hp⟩, ?_⟩
      have pD : p ≠ D := fun z => by rw [z, hD] at np; cases np
      refine lc2_in (walk_list (xs := l.heads.map vH)) (fun j G => Same H G ∧ G p = some (.lst (l.heads.map vH)) ∧ G D = some (.lst ((m.ls.take i).flatMap (fun l => l.heads.map vH) ++ (l.heads.map vH).take j))) ⟨sm.trans s5, hp, by rw [List.take_zero, List.append_nil]; exact s5 _ _ hD⟩ (fun _ _ p => .of p.2.1) (fun j y G G' hj p yy => ?_) (fun G p => ?_)
      · obtain ⟨sg, hp, hD⟩ := p
        obtain ⟨rfl, hy⟩ := yy
        refine ⟨rfl, y, rfl, _, hD, ?_, same_over sg nD, (by rw [upd_ne pD]; exact hp), (by rw [upd_same, take_snoc hy, List.append_assoc])⟩
        have a1 : ((m.ls.take i).flatMap fun l => l.heads.map vH).length ≤ 131 * (m.ls.take i).length := sizes_len fun l hl => (vm.ok l (List.mem_of_mem_take hl)).many
        have a2 : (m.ls.take i).length ≤ 64 := Nat.le_trans (by rw [List.length_take]; exact Nat.min_le_right _ _) vm.ls
        have a3 : l.heads.length ≤ 131 := by
          have := vl.many
          unfold Lw.heads
          split
          · exact Nat.zero_le _
          · rw [List.length_map]; exact this
        refine small' ?_
        rw [List.length_append, List.length_take, List.length_map]
        omega
      · obtain ⟨sg, _, hD⟩ := p
        rw [List.take_length] at hD
        exact ⟨sg, by rw [tk]; exact hD⟩
    · obtain ⟨sm, hD⟩ := p
      rw [List.take_of_length_le (by rw [h4.len]; exact Nat.le_refl _)] at hD
      rw [heads_flat] at hD
      exact q G D sm nD hD

/-! ### a thing twice -/
section
variable {κ : Type} [DecidableEq κ]
def seenD (xs : List κ) : List (κ × V) := xs.map fun k => (k, V.bl true)
theorem seen_any (xs : List κ) (x : κ) : ((seenD xs).any fun kv => decide (kv.1 = x)) = decide (x ∈ xs) := by
  unfold seenD
  rw [List.any_map, Bool.eq_iff_iff, List.any_eq_true, decide_eq_true_eq]
  constructor
  · rintro ⟨y, hy, e⟩
    have e : y = x := of_decide_eq_true e
    exact e ▸ hy
  · intro h
    exact ⟨x, h, decide_eq_true rfl⟩
theorem seen_in (xs : List κ) (x : κ) : (valV (seenD xs) x).isSome = decide (x ∈ xs) := by rw [← valV_any, seen_any]
theorem seen_yes {xs : List κ} {x : κ} (h : x ∈ xs) : (valV (seenD xs) x).isSome = true := by rw [seen_in]; exact decide_eq_true h
theorem seen_no {xs : List κ} {x : κ} (h : x ∉ xs) : (valV (seenD xs) x).isSome = false := by rw [seen_in]; exact decide_eq_false h
theorem seen_put {xs : List κ} {x : κ} (h : x ∉ xs) : putK (seenD xs) x (.bl true) = seenD (xs ++ [x]) := by
  unfold putK
  rw [seen_any, if_neg (by rw [decide_eq_true_eq]; exact h)]
  unfold seenD
  rw [List.map_append]; rfl
theorem twice_at {xs : List κ} {i : Nat} {x : κ} (h : xs[i]? = some x) (m : x ∈ xs.take i) : ¬ xs.Nodup := fun nd => by
  have := (List.take_sublist (i + 1) xs).nodup nd
  rw [take_snoc h, List.nodup_append] at this
  exact this.2.2 x m x (List.mem_singleton.mpr rfl) rfl
theorem once_at {xs : List κ} {i : Nat} {x : κ} (h : xs[i]? = some x) (nd : (xs.take i).Nodup) (m : x ∉ xs.take i) : (xs.take (i + 1)).Nodup := by
  rw [take_snoc h, List.nodup_append]
  refine ⟨nd, by simp, fun a ha b hb e => ?_⟩
  rw [List.mem_singleton.mp hb] at e
  exact m (e ▸ ha)
end
theorem vH_kV (h : Hd) : vH h = kV h := by cases h <;> rfl
def sp_has_twice (K : PySem.W.Frag) : Sp := fun vs H Q _ => ∃ (p : Addr) (xs : List Hd), vs = [.ref p] ∧ SqL K H p (xs.map vH) ∧ xs.length ≤ 60000 ∧ ∀ (b : Bool) H', (b = true ↔ ¬ xs.Nodup) → Same H H' → Q (.bl b) H'
theorem ok_has_twice (T : Txt K mg) : FnOk P w K mg base CX0 1 T.has_twice.a T.has_twice.fd ["words"] (sp_has_twice K) := by
  refine T.has_twice.F.ok sc_has_twice (fun vs H Q E h => ?_) (fun cdv A outer s H vs Q E hr h => ?_)
  · obtain ⟨p, xs, rfl, _⟩ := h
    rfl
  · obtain ⟨p, xs, rfl, hp, hn, q⟩ := h
    refine ⟨_, (pss_cons (ps_set (i := 1) sc_has_twice.nd rfl (.inl rfl) pe_dnewK)
      (pss_cons (ps_for PassesOwn.never rfl (pi_list (pv 0)) (pg_name (i := 2) sc_has_twice.nd rfl (.inl rfl))
        (pss_cons (ps_if (pt_cmp (pc_din (hu_of hr) (pv 2) (pv 1)))
          (pss_one (ps_ret pe_bl))
          pss_nil)
        (pss_one (ps_dput (hu_of hr) (pv 1) (pv 2) pe_bl rfl))))
      (pss_one (ps_ret pe_bl)))), ?_⟩
    intro d nd
    have s0 := same_upd nd (o := .dK [])
    refine ⟨_, rfl, p, rfl, ⟨_, s0.seq hp⟩, ?_⟩
    refine for_it (walk_list (xs := xs.map vH)) (fun i σ G => ∃ x2, σ = [some (.ref p), some (.ref d), x2] ∧ Same H G ∧ G d = some (.dK (seenD (xs.take i))) ∧ (xs.take i).Nodup) ⟨none, rfl, s0, upd_same, by simp⟩ (fun i σ G _ pv => ?_) (fun i x σ G G' hi pv y => ?_) (fun σ G pv => ?_)
    · obtain ⟨_, rfl, sm, _⟩ := pv
      exact sm.seq hp
    · obtain ⟨x2, rfl, sm, hd, ndi⟩ := pv
      obtain ⟨rfl, hx⟩ := y
      rw [List.getElem?_map] at hx
      obtain ⟨h, hh, rfl⟩ := Option.map_eq_some_iff.mp hx
      rw [vH_kV]
      refine ⟨_, rfl, _, rfl, d, _, rfl, DGet.k (k := h) hd, _, rfl, ?_⟩
      by_cases m : h ∈ xs.take i
      · rw [seen_yes m]
        exact iteT (q true G' ⟨fun _ => twice_at hh m, fun _ => rfl⟩ sm)
      · rw [seen_no m]
        refine iteF ?_
        have lt : i < xs.length := by rw [List.length_map] at hi; exact hi
        refine ⟨_, rfl, _, rfl, d, _, rfl, DPut.k (k := h) hd (by unfold seenD; rw [List.length_map, List.length_take]; exact small' (by omega)), ?_⟩
        rw [seen_put m]
        exact ⟨_, rfl, same_over sm nd, by rw [upd_same, take_snoc hh], once_at hh ndi m⟩
    · obtain ⟨x2, rfl, sm, hd, ndi⟩ := pv
      rw [List.length_map, List.take_length] at ndi
      exact q false G ⟨fun z => (nomatch z), fun z => absurd ndi z⟩ sm
def kf (p : Int × Int) : List L2.Key := [.inl p.1, .inl p.2]
theorem kf_inj {p r : Int × Int} (h : kf p = kf r) : p = r := by
  unfold kf at h
  injection h with h1 h2
  injection h2 with h2 _
  injection h1 with h1
  injection h2 with h2
  exact Prod.ext h1 h2
theorem nodup_kf (ps : List (Int × Int)) : (ps.map kf).Nodup ↔ ps.Nodup := by
  unfold List.Nodup
  rw [List.pairwise_map]
  exact ⟨fun h => h.imp fun n e => n (congrArg kf e), fun h => h.imp fun n e => n (kf_inj e)⟩
def sp_has_twiceP (K : PySem.W.Frag) : Sp := fun vs H Q _ => ∃ (p : Addr) (ps : List (Int × Int)), vs = [.ref p] ∧ PL5 H p ps ∧ ps.length ≤ 60000 ∧ ∀ (b : Bool) H', (b = true ↔ ¬ ps.Nodup) → Same H H' → Q (.bl b) H'
theorem ok_has_twiceP (T : Txt K mg) : FnOk P w K mg base CX0 1 T.has_twice.a T.has_twice.fd ["words"] (sp_has_twiceP K) := by
  refine T.has_twice.F.ok sc_has_twice (fun vs H Q E h => ?_) (fun cdv A outer s H vs Q E hr h => ?_)
  · obtain ⟨p, xs, rfl, _⟩ := h
    rfl
  · obtain ⟨p, ps, rfl, ⟨xs, hp, hA⟩, hn, q⟩ := h
    refine ⟨_, (pss_cons (ps_set (i := 1) sc_has_twice.nd rfl (.inl rfl) pe_dnewT)
      (pss_cons (ps_for PassesOwn.never rfl (pi_list (pv 0)) (pg_name (i := 2) sc_has_twice.nd rfl (.inl rfl))
        (pss_cons (ps_if (pt_cmp (pc_din (hu_of hr) (pv 2) (pv 1)))
          (pss_one (ps_ret pe_bl))
          pss_nil)
        (pss_one (ps_dput (hu_of hr) (pv 1) (pv 2) pe_bl rfl))))
      (pss_one (ps_ret pe_bl)))), ?_⟩
    intro d nd
    have s0 := same_upd nd (o := .dT [])
    refine ⟨_, rfl, p, rfl, ⟨_, .of (s0 _ _ hp)⟩, ?_⟩
    refine for_it (walk_list (xs := xs)) (fun i σ G => ∃ x2, σ = [some (.ref p), some (.ref d), x2] ∧ Same H G ∧ G d = some (.dT (seenD ((ps.map kf).take i))) ∧ ((ps.map kf).take i).Nodup) ⟨none, rfl, s0, upd_same, by simp⟩ (fun i σ G _ pv => ?_) (fun i x σ G G' hi pv y => ?_) (fun σ G pv => ?_)
    · obtain ⟨_, rfl, sm, _⟩ := pv
      exact .of (sm _ _ hp)
    · obtain ⟨x2, rfl, sm, hd, ndi⟩ := pv
      obtain ⟨rfl, hx⟩ := y
      obtain ⟨r, hr2, b, rfl, hb⟩ := hA.get hx
      have hb := sm _ _ hb
      have hh : (ps.map kf)[i]? = some (kf r) := by rw [List.getElem?_map, hr2]; rfl
      refine ⟨_, rfl, _, rfl, d, _, rfl, DGet.t (k := kf r) hd hb, _, rfl, ?_⟩
      by_cases m : kf r ∈ (ps.map kf).take i
      · rw [seen_yes m]
        exact iteT (q true G' ⟨fun _ z => twice_at hh m ((nodup_kf ps).mpr z), fun _ => rfl⟩ sm)
      · rw [seen_no m]
        refine iteF ?_
        have lt : i < ps.length := by rw [← hA.len]; exact hi
        refine ⟨_, rfl, _, rfl, d, _, rfl, DPut.t (k := kf r) hd hb (by unfold seenD; rw [List.length_map, List.length_take]; exact small' (by omega)), ?_⟩
        rw [seen_put m]
        exact ⟨_, rfl, same_over sm nd, by rw [upd_same, take_snoc hh], once_at hh ndi m⟩
    · obtain ⟨x2, rfl, sm, hd, ndi⟩ := pv
      rw [hA.len, List.take_of_length_le (by rw [List.length_map]; exact Nat.le_refl _)] at ndi
      exact q false G ⟨fun z => (nomatch z), fun z => absurd ((nodup_kf ps).mp ndi) z⟩ sm
end
end K05
-- E5
namespace K05
open PySem PySem.Spec PyProof.Rows L2 TL
section
variable {P : Program} {w : World} {K : PySem.W.Frag} {mg : Str → Option Value} {base : Heap} {Ps : List Addr}
def sp_is_word (Ps : List Addr) : Sp := fun vs H Q _ => ∃ s : Str, vs = [.str s] ∧ s.length ≤ 60000 ∧ TGs Ps H ∧ ∀ H', Lk H H' → TGs Ps H' → Q (.bl (wd (tl s))) H'
theorem ok_is_word (T : Txt K mg) (TB : Tbs base T Ps) : FnOk P w K mg base CX0 2 T.is_word.a T.is_word.fd ["text"] (sp_is_word Ps) := by
  refine T.is_word.ok sc_is_word (fun vs H Q E h => ?_) (fun A outer s H vs Q E hr h => ?_)
  · obtain ⟨s, rfl, _⟩ := h
    rfl
  · obtain ⟨s, rfl, hn, tg, q⟩ := h
    refine ⟨_, (pss_one (ps_ret (pe_and (pe_cmpR op_ne (pv 0) pe_str (nomark _)) (pe_and (pe_cmpR op_in_str (pe_ix ix_str (pv 0) pe_int (fun _ _ => rfl)) (pe_glob (v := .str "abcdefghijklmnopqrstuvwxyz") rfl T.c_LETTERS ⟨_, rfl⟩) rfl) (pe_one (GN.pe_allG (own := [("sign", 1)]) hr sc_is_word.nd (by rfl) T.m_all TB.is_word rfl (GN.nmOk_by (blkOk_by (N := ["text", "sign"]) (sc := defScope s_is_word) (by decide +kernel))) (pi_str (pv 0)) (fun _ _ _ _ _ _ => (pg_name (i := 1) sc_is_word.nd rfl (.inl rfl))) (fun _ _ _ _ _ _ hr2 gd2 => (pe_cmpR op_in_str (pv 1) (pe_glob (v := .str "abcdefghijklmnopqrstuvwxyz0123456789") rfl T.c_SIGNS ⟨_, rfl⟩) rfl)))))))), ?_⟩
    have tp : GxR.TabG H TB.p2 := tg _ TB.m2
    refine ⟨_, rfl, rfl, _, rfl, ite2 (fun h0 => ?_) (fun h0 => ?_)⟩
    · obtain ⟨c, r, ec⟩ : ∃ c r, tl s = c :: r := by
        cases e : tl s with
        | nil => exact absurd (show s = "" from ext_tl e) (by simpa using h0)
        | cons c r => exact ⟨c, r, rfl⟩
      have c0 : atI s.cps.toList 0 = some c := by rw [show s.cps.toList = c :: r from ec]; exact atI_nat (xs := c :: r) (j := 0) rfl
      refine ⟨_, rfl, s, 0, c, rfl, rfl, small hn, c0, _, _, rfl, rfl, ?_⟩
      rw [StrLaws.found_one, in_letters]
      refine ⟨_, rfl, ite2 (fun h1 => ?_) (fun h1 => ?_)⟩
      · refine ⟨_, rfl, s, rfl, tp, ?_⟩
        have fin : ∀ (G : Hp) (b : Bool), Lk H G → TGs Ps G → b = (tl s).all sgn → Q (.bl b) G := fun G b l t e => by
          have := q G l t
          rw [ec, show wd (c :: r) = (ltr c && (c :: r).all sgn) from rfl, h1, Bool.true_and, ← ec, ← e] at this
          exact this
        refine GN.gn_it walk_str (fun i G => Lk H G ∧ TGs Ps G ∧ ((tl s).take i).all sgn = true) (fun G t => ⟨lk_tab tp t, tg.tab t, rfl⟩) (fun _ _ _ _ => trivial) (fun i x G G' hi p y => ?_) (fun G p => ?_)
        · obtain ⟨l, t, al⟩ := p
          obtain ⟨rfl, d, hd, rfl⟩ := y
          have hd' : (tl s)[i]? = some d := by rw [show tl s = s.cps.toList from rfl, Array.getElem?_toList]; exact hd
          refine ⟨rfl, _, rfl, _, _, rfl, rfl, ?_⟩
          rw [StrLaws.found_one, in_signs]
          refine ⟨_, rfl, ?_⟩
          cases hs : sgn d with
          | true =>
            refine GN.on_t ⟨l, t, ?_⟩
            rw [take_snoc hd', List.all_append, al, List.all_cons, hs]; rfl
          | false =>
            refine GN.end_f (fin _ _ l t ?_)
            rw [eq_comm, Bool.eq_false_iff]
            intro z
            rw [List.all_eq_true.mp z d (mem_at hd')] at hs
            cases hs
        · obtain ⟨l, t, al⟩ := p
          refine fin _ _ l t ?_
          rw [List.take_of_length_le (by rw [← len_tl]; exact Nat.le_refl _)] at al
          rw [al]; rfl
      · have := q H Lk.refl tg
        rw [ec, show wd (c :: r) = (ltr c && (c :: r).all sgn) from rfl, Bool.eq_false_iff.mpr h1, Bool.false_and] at this
        exact this
    · have e : s = "" := by simpa using h0
      rw [e] at q
      exact q H Lk.refl tg
/-! ### a name -/
theorem all_take {α : Type} {p : α → Bool} {xs : List α} {i : Nat} {x : α} (h : xs[i]? = some x) (a : (xs.take i).all p = true) (b : p x = true) : (xs.take (i + 1)).all p = true := by
  rw [take_snoc h, List.all_append, a, List.all_cons, b]; rfl
theorem all_no {α : Type} {p : α → Bool} {xs : List α} {i : Nat} {x : α} (h : xs[i]? = some x) (b : p x = false) : xs.all p = false := by
  rw [Bool.eq_false_iff]
  intro z
  rw [List.all_eq_true.mp z x (mem_at h)] at b
  cases b
theorem split_len (s : Str) : ∀ w ∈ Txt.split s ".", w.length ≤ s.length := by
  intro w hw
  have e := split_spl s "." (by decide +kernel) (kind_ok (by decide +kernel))
  have h : tl w ∈ spl [46] 0 [] (tl s) := by
    rw [← show tl (".": Str) = [46] by decide +kernel, ← e]
    exact List.mem_map.mpr ⟨w, hw, rfl⟩
  have key : ∀ (l acc : List Nat), ∀ x ∈ spl [46] 0 acc l, x.length ≤ acc.length + l.length := by
    intro l
    induction l with
    | nil =>
      intro acc x hx
      rw [spl_nil] at hx
      rw [List.mem_singleton.mp hx]
      exact Nat.le_add_right _ _
    | cons c r ih =>
      intro acc x hx
      by_cases hc : c = 46
      · subst hc
        rw [spl_hit (show pre [46] (46 :: r) = true from by simp [pre])] at hx
        rcases List.mem_cons.mp hx with rfl | hx
        · omega
        · have := ih [] x hx
          rw [List.length_nil] at this
          rw [List.length_cons]
          omega
      · rw [spl_miss (pre_of_head [] r hc)] at hx
        have := ih (acc ++ [c]) x hx
        rw [List.length_append] at this
        rw [List.length_cons]
        show x.length ≤ _
        have e1 : [c].length = 1 := rfl
        omega
  have := key _ _ _ h
  rw [List.length_nil, Nat.zero_add] at this
  rw [len_tl, len_tl s]
  exact this
def sp_is_name (Ps : List Addr) : Sp := fun vs H Q _ => ∃ s : Str, vs = [.str s] ∧ s.length ≤ 50000 ∧ TGs Ps H ∧ ∀ (b : Bool) H', (b = true ↔ NM s) → Lk H H' → TGs Ps H' → Q (.bl b) H'
theorem ok_is_name (T : Txt K mg) (TB : Tbs base T Ps) : FnOk P w K mg base CX0 4 T.is_name.a T.is_name.fd ["text"] (sp_is_name Ps) := by
  refine T.is_name.ok sc_is_name (fun vs H Q E h => ?_) (fun A outer s H vs Q E hr h => ?_)
  · obtain ⟨s, rfl, _⟩ := h
    rfl
  · obtain ⟨s, rfl, hn, tg, q⟩ := h
    refine ⟨_, (pss_cons (ps_if (pt_not (pt_chain op_le op_le pe_int (pe_callB call_len_str (by rfl) T.m_len (by decide +kernel) (pa_cons (pv 0) pa_nil)) pe_int))
        (pss_one (ps_ret pe_bl))
        pss_nil)
      (pss_one (ps_ret (GN.pe_allG (own := [("word", 1)]) hr sc_is_name.nd (by rfl) T.m_all TB.is_name rfl (GN.nmOk_by (blkOk_by (N := ["text", "word"]) (sc := defScope s_is_name) (by decide +kernel))) (pi_list (pe_split (pv 0) pe_str)) (fun _ _ _ _ _ _ => (pg_name (i := 1) sc_is_name.nd rfl (.inl rfl))) (fun _ _ _ _ _ _ hr2 gd2 => (pe_call (ok_is_word T TB) (hr2.mono (by decide)) (by rfl) T.is_word.g T.is_word.kp T.is_word.b .nil pass0 (pa_cons (pv 1) pa_nil))))))), ?_⟩
    have tp : GxR.TabG H TB.p3 := tg _ TB.m3
    have no : ∀ {b : Bool}, ¬ (1 ≤ s.length ∧ s.length ≤ 200) → b = false → (b = true ↔ NM s) := fun n e => by
      rw [e]
      exact ⟨fun z => (nomatch z), fun z => absurd ⟨z.1, z.2.1⟩ n⟩
    refine ⟨_, rfl, s, rfl, small (by omega), _, _, rfl, rfl, _, rfl, ?_⟩
    refine ite2 (fun h1 => ?_) (fun h1 => ?_)
    · have h1 := of_decide_eq_true h1
      refine ⟨_, _, rfl, rfl, _, rfl, ite2 (fun h2 => ?_) (fun h2 => ?_)⟩
      · refine q false H (no (fun z => ?_) rfl) Lk.refl tg
        rw [decide_eq_true (show (s.length : Int) ≤ 200 by omega)] at h2
        cases h2
      · have h2 : s.length ≤ 200 := by
          by_cases z : (s.length : Int) ≤ 200
          · omega
          · rw [decide_eq_false z] at h2
            exact absurd rfl h2
        refine ⟨_, rfl, ⟨_, rfl⟩, s, ".", rfl, rfl, rfl, by show s.length + 2 ≤ sizeLine; exact small (by omega), fun p np => ?_⟩
        have s0 := same_upd np (o := .lst ((Txt.split s ".").map V.str))
        have t0 := tg.same s0
        refine ⟨p, rfl, ⟨_, .of upd_same⟩, t0 _ TB.m3, ?_⟩
        have fin : ∀ (G : Hp) (b : Bool), Lk H G → TGs Ps G → b = (Txt.split s ".").all (fun w => wd (tl w)) → Q (.bl b) G := fun G b l t e => by
          refine q b G ?_ l t
          rw [e, split_aut]
          unfold NM
          exact ⟨fun z => ⟨by omega, h2, z⟩, fun z => z.2.2⟩
        refine GN.gn_it (walk_list (xs := (Txt.split s ".").map V.str)) (fun i G => Lk (upd H p (.lst ((Txt.split s ".").map V.str))) G ∧ TGs Ps G ∧ ((Txt.split s ".").take i).all (fun w => wd (tl w)) = true) (fun G t => ⟨lk_tab (t0 _ TB.m3) t, t0.tab t, rfl⟩) (fun _ _ _ pv => pv.1.seqL (.of upd_same)) (fun i x G G' hi pv y => ?_) (fun G pv => ?_)
        · obtain ⟨l, t, al⟩ := pv
          obtain ⟨rfl, hx⟩ := y
          rw [List.getElem?_map] at hx
          obtain ⟨wo, hw, rfl⟩ := Option.map_eq_some_iff.mp hx
          refine ⟨rfl, _, rfl, wo, rfl, by have := split_len s wo (mem_at hw); omega, t, fun G2 l2 t2 => ⟨_, rfl, ?_⟩⟩
          cases hs : wd (tl wo) with
          | true => exact GN.on_t ⟨l.trans l2, t2, all_take hw al hs⟩
          | false => exact GN.end_f (fin _ _ (((lk_of s0).trans l).trans l2) t2 (all_no (p := fun w => wd (tl w)) hw hs).symm)
        · obtain ⟨l, t, al⟩ := pv
          rw [List.length_map, List.take_length] at al
          exact fin _ _ ((lk_of s0).trans l) t al.symm
    · refine ⟨false, rfl, ?_⟩
      refine iteT ?_
      exact q false H (no (fun z => h1 (decide_eq_true (by omega))) rfl) Lk.refl tg
end
end K05
-- H5
namespace K05
open PySem PySem.Spec PyProof.Rows L2
/-! ### data and their texts -/
/-- may be shown and compared; a text of at most n signs -/
structure Gd (k n : Nat) (d : PyData) : Prop where
  sh : d.showable = true
  lay : d.canLay0 = true
  dep : d.depth ≤ k
  len : d.shown.length ≤ n
def tot (ts : List Str) : Nat := (ts.map fun t => t.length + 2).sum
theorem textFrom_tot : ∀ (ts : List Str) (k : Nat) (acc : Str), (textFrom k acc ts).length ≤ acc.length + tot ts
  | [], k, acc => Nat.le_add_right _ _
  | t :: r, k, acc => by
    have h := textFrom_tot r (k + 1) (acc ++ (if k > 0 then ", " else "" : String) ++ t)
    rw [Str.length_append, Str.length_append] at h
    have e : ((if k > 0 then ", " else "" : String) : Str).length ≤ 2 := by split <;> decide +kernel
    show (textFrom (k + 1) (acc ++ (if k > 0 then ", " else "" : String) ++ t) r).length ≤ _
    have e2 : tot (t :: r) = t.length + 2 + tot r := by unfold tot; rw [List.map_cons, List.sum_cons]
    omega
theorem join_tot : ∀ ts : List Str, (Str.join ", " ts).length ≤ tot ts
  | [] => Nat.zero_le _
  | [x] => by show x.length ≤ _; unfold tot; simp
  | x :: y :: r => by
    have h := join_tot (y :: r)
    show (x ++ ", " ++ Str.join ", " (y :: r)).length ≤ _
    rw [Str.length_append, Str.length_append]
    have e2 : tot (x :: y :: r) = x.length + 2 + tot (y :: r) := by unfold tot; rw [List.map_cons, List.sum_cons]
    have e3 : ((", " : String) : Str).length = 2 := rfl
    omega
/-- all of them, with all their texts together -/
inductive GdAll (k : Nat) : Nat → List PyData → Prop
  | nil : GdAll k 0 []
  | cons {n m : Nat} {d : PyData} {ds : List PyData} : Gd k n d → GdAll k m ds → GdAll k (n + 2 + m) (d :: ds)
theorem GdAll.facts {k : Nat} : ∀ {n : Nat} {ds : List PyData}, GdAll k n ds → PyData.showableAll ds = true ∧ PyData.canLayAll0 ds = true ∧ PyData.depthAll ds ≤ k ∧ tot (PyData.shownAll ds) ≤ n
  | _, _, .nil => ⟨rfl, rfl, Nat.zero_le _, Nat.le_refl _⟩
  | _, _, .cons (d := d) (ds := ds) h t => by
    obtain ⟨h1, h2, h3, h4⟩ := t.facts
    refine ⟨?_, ?_, ?_, ?_⟩
    · show (PyData.showable d && PyData.showableAll ds) = true
      rw [h.sh, h1]; rfl
    · show (PyData.canLay0 d && PyData.canLayAll0 ds) = true
      rw [h.lay, h2]; rfl
    · show max (PyData.depth d) (PyData.depthAll ds) ≤ k
      exact Nat.max_le.mpr ⟨h.dep, h3⟩
    · show tot (PyData.shown d :: PyData.shownAll ds) ≤ _
      unfold tot at h4 ⊢
      rw [List.map_cons, List.sum_cons]
      have := h.len
      omega
theorem GdAll.map {α : Type} {k n : Nat} {f : α → PyData} : ∀ {xs : List α}, (∀ x ∈ xs, Gd k n (f x)) → GdAll k (xs.length * (n + 2)) (xs.map f)
  | [], _ => by rw [List.length_nil, Nat.zero_mul]; exact .nil
  | x :: r, h => by
    rw [List.length_cons, Nat.succ_mul, Nat.add_comm]
    exact .cons (h x List.mem_cons_self) (GdAll.map fun y hy => h y (List.mem_cons_of_mem _ hy))
theorem Gd.list {k n : Nat} {ds : List PyData} (h : GdAll k n ds) : Gd (k + 1) (n + 2) (.list ds) := by
  obtain ⟨h1, h2, h3, h4⟩ := h.facts
  refine ⟨h1, h2, Nat.succ_le_succ h3, ?_⟩
  show (listText (PyData.shownAll ds)).length ≤ _
  unfold listText
  rw [Str.length_append]
  have := textFrom_tot (PyData.shownAll ds) 0 "["
  have e1 : (("[" : String) : Str).length = 1 := rfl
  have e2 : (("]" : String) : Str).length = 1 := rfl
  omega
theorem Gd.tup {k n : Nat} {ds : List PyData} (h : GdAll k n ds) : Gd (k + 1) (n + 3) (.tuple ds) := by
  obtain ⟨h1, h2, h3, h4⟩ := h.facts
  refine ⟨h1, h2, Nat.succ_le_succ h3, ?_⟩
  show (tupleText (PyData.shownAll ds)).length ≤ _
  unfold tupleText
  rw [Str.length_append, Str.length_append]
  have := join_tot (PyData.shownAll ds)
  have e1 : (("(" : String) : Str).length = 1 := rfl
  have e2 : ((if (PyData.shownAll ds).length == 1 then ",)" else ")" : String) : Str).length ≤ 2 := by split <;> decide +kernel
  omega
theorem Gd.mono {k l n m : Nat} {d : PyData} (h : Gd k n d) (a : k ≤ l) (b : n ≤ m) : Gd l m d := ⟨h.sh, h.lay, Nat.le_trans h.dep a, Nat.le_trans h.len b⟩
theorem Gd.int {i : Int} (h : i.natAbs < 10 ^ 8) : Gd 0 9 (.int i) := by
  refine ⟨decide_eq_true (log_small (by omega)), rfl, Nat.le_refl _, ?_⟩
  show (Str.ofString (toString i)).length ≤ 9
  rw [PySem.ofString_length]
  exact int_text_length_le10 (k := 8) (by decide) h
theorem str_ok {n : Nat} {s : Str} (h : GS n s) : (PyData.str s).canLay0 = true := by
  show s.cps.all (· < 0x110000) = true
  rw [← Array.all_toList, List.all_eq_true]
  exact fun c hc => decide_eq_true (Nat.lt_trans (h.2 c hc) (by decide))
theorem Gd.str {n : Nat} {s : Str} (h : GS n s) : Gd 0 (10 * n + 2) (.str s) := by
  refine ⟨rfl, str_ok h, Nat.le_refl _, ?_⟩
  refine Nat.le_trans (StrLaws.reprText_len s fun c hc => Nat.lt_trans (h.2 c hc) (by decide)) ?_
  have := h.1
  omega
theorem GdAll.up {k l n m : Nat} {ds : List PyData} (h : GdAll k n ds) (a : k ≤ l) (b : n ≤ m) : PyData.showableAll ds = true ∧ True := ⟨h.facts.1, trivial⟩
def dTm (t : Trm) : PyData := .tuple [dH t.h, .int t.k, .int t.j]
def dLw (l : Lw) : PyData := if l.ex then .tuple [.str "exact", .list (l.ts.map dTm), .str l.src] else .tuple [.str "sized", .int l.k, .int l.j, .list (l.ts.map dTm), .str l.src]
def dMd (m : Mdl) : PyData := .tuple [.list (m.qs.map PyData.str), .list (m.ls.map dLw)]
theorem gd_tm {t : Trm} (hk : t.k.natAbs < 10 ^ 8) (hj : t.j.natAbs < 10 ^ 8) (hh : Gd 0 7002 (dH t.h)) : Gd 1 7033 (dTm t) :=
  (Gd.tup (.cons hh (.cons (Gd.int hk) (.cons (Gd.int hj) .nil)))).mono (Nat.le_refl _) (by decide)
theorem gd_tms {l : Lw} (h : BL l) : Gd 2 921600 (.list (l.ts.map dTm)) := by
  have hh : ∀ t ∈ l.ts, Gd 1 7033 (dTm t) := fun t ht => by
    obtain ⟨a, b⟩ := h.ts t ht
    refine gd_tm a b ?_
    cases e : l.ex with
    | true =>
      obtain ⟨n, e2, b⟩ := h.num e t ht
      rw [e2]
      exact (Gd.int b).mono (Nat.le_refl _) (by decide)
    | false =>
      obtain ⟨s, e2, b⟩ := h.nam e t ht
      rw [e2]
      exact Gd.str (n := 700) b
  exact (Gd.list (GdAll.map hh)).mono (Nat.le_refl _) (by have := h.many; show l.ts.length * 7035 + 2 ≤ 921600; omega)
theorem gd_lw {l : Lw} (h : BL l) : Gd 3 930000 (dLw l) := by
  have hl := gd_tms h
  have hs : Gd 2 7002 (.str l.src) := (Gd.str (n := 700) h.src).mono (by decide) (Nat.le_refl _)
  unfold dLw
  cases e : l.ex with
  | true =>
    have he : Gd 2 52 (.str "exact") := (Gd.str (n := 5) ⟨by decide +kernel, by decide +kernel⟩).mono (by decide) (Nat.le_refl _)
    exact (Gd.tup (.cons he (.cons hl (.cons hs .nil)))).mono (Nat.le_refl _) (by decide)
  | false =>
    have he : Gd 2 52 (.str "sized") := (Gd.str (n := 5) ⟨by decide +kernel, by decide +kernel⟩).mono (by decide) (Nat.le_refl _)
    have hi : ∀ x : Int, x.natAbs < 10 ^ 8 → Gd 2 9 (.int x) := fun x hx => (Gd.int hx).mono (by decide) (Nat.le_refl _)
    exact (Gd.tup (.cons he (.cons (hi _ h.own.1) (.cons (hi _ h.own.2) (.cons hl (.cons hs .nil)))))).mono (Nat.le_refl _) (by decide)
theorem gd_md {m : Mdl} (h : BM m) : Gd 5 64000000 (dMd m) := by
  have h1 : Gd 1 460000 (.list (m.qs.map PyData.str)) := (Gd.list (GdAll.map (n := 7002) fun q hq => Gd.str (n := 700) (h.qs.2 q hq))).mono (Nat.le_refl _) (by have := h.qs.1; show m.qs.length * 7004 + 2 ≤ 460000; omega)
  have h2 : Gd 4 59530000 (.list (m.ls.map dLw)) := (Gd.list (GdAll.map fun l hl => gd_lw (h.ok l hl))).mono (Nat.le_refl _) (by have := h.ls; show m.ls.length * 930002 + 2 ≤ 59530000; omega)
  exact (Gd.tup (.cons (h1.mono (by decide) (Nat.le_refl _)) (.cons h2 .nil))).mono (Nat.le_refl _) (by decide)
theorem shaped_of {d : PyData} (h1 : d.canLay0 = true) (h2 : d.depth ≤ 64) : SeqAt.shaped d = true := by
  unfold SeqAt.shaped
  rw [h1, decide_eq_true h2]; rfl
theorem Gd.shp {k n : Nat} {d : PyData} (h : Gd k n d) (hk : k ≤ 64) : SeqAt.shaped d = true := shaped_of h.lay (Nat.le_trans h.dep hk)
theorem eqv_nil : ∀ {ds : List PyData}, PyData.eqv (.list ds) (.list []) = decide (ds = [])
  | [] => by decide +kernel
  | _ :: _ => rfl
section
variable {K : PySem.W.Frag} {H : Hp}
theorem dpAll_of {α : Type} {R : V → α → Prop} {f : α → PyData} (h : ∀ v a, R v a → Dp K H v (f a)) : ∀ {xs : List V} {as : List α}, A2 R xs as → DpAll K H xs (as.map f)
  | _, _, .nil => .nil
  | _, _, .cons a t => .cons (h _ _ a) (dpAll_of h t)
theorem dp_tm {v : V} {t : Trm} (h : TmV K H v t) : Dp K H v (dTm t) := by
  obtain ⟨a, rfl, q⟩ := h
  refine .tup q (.cons ?_ (.cons (.int _) (.cons (.int _) .nil)))
  cases t.h with
  | inl n => exact .int n
  | inr s => exact .str s
theorem dp_lw {v : V} {l : Lw} (h : LW K H v l) : Dp K H v (dLw l) := by
  obtain ⟨a, p, rfl, ⟨xs, hx, hT⟩, ⟨e, q⟩ | ⟨e, q⟩⟩ := h
  · unfold dLw
    rw [e]
    exact .tup q (.cons (.str _) (.cons (.lst (.of hx) (dpAll_of (f := dTm) (fun _ _ => dp_tm) hT)) (.cons (.str _) .nil)))
  · unfold dLw
    rw [e]
    exact .tup q (.cons (.str _) (.cons (.int _) (.cons (.int _) (.cons (.lst (.of hx) (dpAll_of (f := dTm) (fun _ _ => dp_tm) hT)) (.cons (.str _) .nil)))))
theorem dp_strs : ∀ qs : List Str, DpAll K H (qs.map V.str) (qs.map PyData.str)
  | [] => .nil
  | q :: r => .cons (.str q) (dp_strs r)
theorem dp_md {v : V} {m : Mdl} (h : MD K H v m) : ∃ a, v = .ref a ∧ Dp K H (.ref a) (dMd m) := by
  obtain ⟨a, q, r, xs, rfl, h1, h2, h3, h4⟩ := h
  exact ⟨a, rfl, .tup h1 (.cons (.lst (.of h2) (dp_strs _)) (.cons (.lst (.of h3) (dpAll_of (f := dLw) (fun _ _ => dp_lw) h4)) .nil))⟩
end
end K05
-- F5
namespace K05
open PySem PySem.Spec PyProof.Rows L2 TL
section
variable {P : Program} {w : World} {K : PySem.W.Frag} {mg : Str → Option Value} {base : Heap} {Ps : List Addr}
def InR (l : Lw) : Prop := (∀ p ∈ l.places, 0 ≤ p.1 ∧ p.1 ≤ 3) ∧ (l.ex = true → ∀ t ∈ l.ts, ∀ n : Int, t.h = .inl n → n ≠ 0 ∧ n.natAbs ≤ 1000000) ∧ (l.ex = false → l.ts ≠ [])
def NumOk (t : Trm) : Prop := ∀ n : Int, t.h = .inl n → n ≠ 0 ∧ n.natAbs ≤ 1000000
theorem take_all {α : Type} {p : α → Prop} {xs : List α} {i : Nat} {x : α} (h : xs[i]? = some x) (a : ∀ y ∈ xs.take i, p y) (b : p x) : ∀ y ∈ xs.take (i + 1), p y := fun y hy => by
  rw [take_snoc h] at hy
  rcases List.mem_append.mp hy with hy | hy
  · exact a y hy
  · rw [List.mem_singleton.mp hy]; exact b
theorem places_len {l : Lw} (h : BL l) : l.places.length ≤ 132 := by
  have := h.many
  unfold Lw.places
  cases l.ex <;> simp <;> omega
def sp_is_in_range (K : PySem.W.Frag) (Ps : List Addr) : Sp := fun vs H Q _ => ∃ (v : V) (l : Lw), vs = [v] ∧ LW K H v l ∧ BL l ∧ TGs Ps H ∧ ∀ (b : Bool) H', (b = true ↔ InR l) → Lk H H' → TGs Ps H' → Q (.bl b) H'
theorem ok_is_in_range (T : Txt K mg) (TB : Tbs base T Ps) : FnOk P w K mg base CX0 4 T.is_in_range.a T.is_in_range.fd ["told"] (sp_is_in_range K Ps) := by
  refine T.is_in_range.ok sc_is_in_range (fun vs H Q E h => ?_) (fun A outer s H vs Q E hr h => ?_)
  · obtain ⟨v, l, rfl, _⟩ := h
    rfl
  · obtain ⟨v, l, rfl, hl, bl, tg, q⟩ := h
    refine ⟨_, (pss_cons (ps_if (pt_not (pt_val (GN.pe_allG (own := [("k", 1), ("_", 2)]) (g := gTup K 2 (gCons (gName 1) (gCons (gName 2) gNil))) hr sc_is_in_range.nd (by rfl) T.m_all TB.is_in_range rfl (GN.nmOk_by (blkOk_by (N := ["told", "k", "_", "number"]) (sc := defScope s_is_in_range) (by decide +kernel))) (pi_list (pe_call (ok_places_of T) (hr.mono (by decide)) (by rfl) T.places_of.g T.places_of.F.kp T.places_of.b .nil pass0 (pa_cons (pv 0) pa_nil))) (fun _ _ _ _ _ _ => (pg_tup rfl (pgs_cons (pg_name (i := 1) sc_is_in_range.nd rfl (.inl rfl)) (pgs_cons (pg_name (i := 2) sc_is_in_range.nd rfl (.inl rfl)) pgs_nil)))) (fun _ _ _ _ _ _ hr2 gd2 => (pe_chain op_le op_le pe_int (pv 1) (pe_glob (v := .int 3) rfl T.c_MOST_ORDER ⟨_, rfl⟩))))))
        (pss_one (ps_ret pe_bl))
        pss_nil)
      (pss_cons (ps_if (pt_val (pe_call (ok_is_exact T) (hr.mono (by decide)) (by rfl) T.is_exact.g T.is_exact.F.kp T.is_exact.b .nil pass0 (pa_cons (pv 0) pa_nil)))
        (pss_one (ps_ret (GN.pe_allG (own := [("number", 3), ("_", 2)]) (g := gTup K 3 (gCons (gName 3) (gCons (gName 2) (gCons (gName 2) gNil)))) hr sc_is_in_range.nd (by rfl) T.m_all TB.is_in_range rfl (GN.nmOk_by (blkOk_by (N := ["told", "k", "_", "number"]) (sc := defScope s_is_in_range) (by decide +kernel))) (pi_list (pe_ix ix_tup (pv 0) pe_int (fun _ _ => rfl))) (fun _ _ _ _ _ _ => (pg_tup rfl (pgs_cons (pg_name (i := 3) sc_is_in_range.nd rfl (.inl rfl)) (pgs_cons (pg_name (i := 2) sc_is_in_range.nd rfl (.inl rfl)) (pgs_cons (pg_name (i := 2) sc_is_in_range.nd rfl (.inl rfl)) pgs_nil))))) (fun _ _ _ _ _ _ hr2 gd2 => (pe_and (pe_cmpR op_ne (pv 3) pe_int (nomark _)) (pe_one (pe_chain op_le op_le (pe_un un_neg (pe_glob (v := .int 1000000) rfl T.c_MOST_NUMBER ⟨_, rfl⟩)) (pv 3) (pe_glob (v := .int 1000000) rfl T.c_MOST_NUMBER ⟨_, rfl⟩))))))))
        pss_nil)
      (pss_one (ps_ret (pe_cmpR (op_neD hr.units) (pe_ix ix_tup (pv 0) pe_int (fun _ _ => rfl)) (pe_lst pa_nil) (nomark _)))))), ?_⟩
    have no : ∀ {b : Bool}, ¬ InR l → b = false → (b = true ↔ InR l) := fun n e => by
      rw [e]
      exact ⟨fun z => (nomatch z), fun z => absurd z n⟩
    have m131 := bl.many
    refine ⟨v, rfl, v, l, rfl, hl, by omega, fun H1 p s1 np ⟨xs, hp, hA⟩ => ?_⟩
    have t1 := tg.same s1
    refine ⟨p, rfl, ⟨_, .of hp⟩, t1 _ TB.m1, ?_⟩
    refine GN.gn_it (walk_list (xs := xs)) (fun i G => Lk H1 G ∧ TGs Ps G ∧ ∀ p ∈ l.places.take i, 0 ≤ p.1 ∧ p.1 ≤ 3) (fun G t => ⟨lk_tab (t1 _ TB.m1) t, t1.tab t, fun p hp => by simp at hp⟩) (fun _ _ _ pv => pv.1.seqL (.of hp)) (fun i x G G' hi pv y => ?_) (fun G pv => ?_)
    · obtain ⟨lk, t, al⟩ := pv
      obtain ⟨rfl, hx⟩ := y
      obtain ⟨r, hr3, b, rfl, hb⟩ := hA.get hx
      refine ⟨b, _, rfl, .of (lk.tup hb), rfl, _, _, rfl, _, _, rfl, rfl, rfl, _, rfl, _, _, rfl, rfl, _, rfl, ?_⟩
      have bad : ¬ (0 ≤ r.1 ∧ r.1 ≤ 3) → Q (.bl false) G' := fun n => q false G' (no (fun z => n (z.1 r (mem_at hr3))) rfl) ((lk_of s1).trans lk) t
      refine ite2 (fun h1 => ⟨_, _, rfl, rfl, _, rfl, ?_⟩) (fun h1 => ⟨_, rfl, GN.end_f ?_⟩)
      · have h1 := of_decide_eq_true h1
        by_cases h2 : r.1 ≤ 3
        · rw [decide_eq_true h2]
          exact GN.on_t ⟨lk, t, take_all hr3 al ⟨h1, h2⟩⟩
        · rw [decide_eq_false h2]
          exact GN.end_f ⟨_, rfl, iteT (bad fun z => h2 z.2)⟩
      · exact ⟨_, rfl, iteT (bad fun z => h1 (decide_eq_true z.1))⟩
    · obtain ⟨lk, t, al⟩ := pv
      rw [hA.len, List.take_length] at al
      have lk0 := (lk_of s1).trans lk
      have hl2 := hl.lk lk0
      refine ⟨_, rfl, iteF ⟨v, rfl, v, l, rfl, hl2, _, rfl, ?_⟩⟩
      obtain ⟨a, tp, rfl, ⟨zs, hz0, hT⟩, hd0⟩ := hl2
      have hz : SqL K G tp zs := .of hz0
      rcases hd0 with ⟨ex, ht⟩ | ⟨ex, ht⟩
      · rw [ex]
        refine iteT ⟨_, rfl, a, _, _, _, rfl, rfl, ht, rfl, tp, rfl, ⟨zs, hz⟩, t _ TB.m1, ?_⟩
        have bad : ∀ (G2 : Hp) (tm : Trm), tm ∈ l.ts → ¬ NumOk tm → Lk G G2 → TGs Ps G2 → Q (.bl false) G2 := fun G2 tm m n l2 t2 => q false G2 (no (fun z => n (z.2.1 ex tm m)) rfl) (lk0.trans l2) t2
        refine GN.gn_it (walk_list (xs := zs)) (fun i G2 => Lk G G2 ∧ TGs Ps G2 ∧ ∀ tm ∈ l.ts.take i, NumOk tm) (fun G2 t2 => ⟨lk_tab (t _ TB.m1) t2, t.tab t2, fun p hp => by simp at hp⟩) (fun _ _ _ pv => pv.1.seqL hz) (fun i x G2 G' hi pv y => ?_) (fun G2 pv => ?_)
        · obtain ⟨l2, t2, al2⟩ := pv
          obtain ⟨rfl, hx⟩ := y
          obtain ⟨tm, htm, b, rfl, hb⟩ := hT.get hx
          obtain ⟨n, en, bn⟩ := bl.num ex tm (mem_at htm)
          rw [en] at hb
          refine ⟨b, _, rfl, l2.seqT hb, rfl, _, _, rfl, _, _, rfl, _, _, rfl, rfl, rfl, _, rfl, rfl, _, rfl, ?_⟩
          have yes : n ≠ 0 → n.natAbs ≤ 1000000 → NumOk tm := fun a b m e => by
            rw [en] at e
            injection e with e
            exact e ▸ ⟨a, b⟩
          have bad2 : ¬ (n ≠ 0 ∧ n.natAbs ≤ 1000000) → Q (.bl false) G' := fun nn => bad G' tm (mem_at htm) (fun z => nn (z n en)) l2 t2
          refine ite2 (fun h1 => ?_) (fun h1 => ?_)
          · have h1 : n ≠ 0 := by
              intro z
              rw [z] at h1
              exact absurd h1 (by decide)
            refine ⟨_, rfl, _, rfl, _, _, rfl, rfl, _, rfl, ite2 (fun h2 => ?_) (fun h2 => ?_)⟩
            · have h2 := of_decide_eq_true h2
              refine ⟨_, _, rfl, rfl, _, rfl, ?_⟩
              by_cases h3 : n ≤ 1000000
              · rw [decide_eq_true h3]
                exact GN.on_t ⟨l2, t2, take_all htm al2 (yes h1 (by omega))⟩
              · rw [decide_eq_false h3]
                exact GN.end_f (bad2 fun z => h3 (by omega))
            · exact ⟨_, rfl, GN.end_f (bad2 fun z => h2 (decide_eq_true (by omega)))⟩
          · refine ⟨_, rfl, GN.end_f (bad2 fun z => h1 ?_)⟩
            show (!decide (V.int n = V.int 0)) = true
            rw [decide_eq_false fun e => z.1 (V.int.inj e)]; rfl
        · obtain ⟨l2, t2, al2⟩ := pv
          rw [hT.len, List.take_length] at al2
          exact q true G2 ⟨fun _ => ⟨al, fun _ => al2, fun z => by rw [ex] at z; cases z⟩, fun _ => rfl⟩ (lk0.trans l2) t2
      · rw [ex]
        refine iteF ⟨_, rfl, a, _, _, _, rfl, rfl, ht, rfl, by show 0 ≤ sizeLine; decide, fun u nu => ?_⟩
        have su := same_upd nu (o := .lst [])
        have hd : Dp K (upd G u (.lst [])) (.ref tp) (.list (l.ts.map dTm)) := .lst (su.seq hz) (dpAll_of (f := dTm) (fun _ _ z => dp_tm (z.same su)) hT)
        refine ⟨_, .list [], hd, .lst (.of upd_same) .nil, (gd_tms bl).shp (by decide), rfl, ?_⟩
        rw [eqv_nil]
        refine q _ _ ?_ (lk0.trans (lk_of su)) (t.same su)
        rw [Bool.not_eq_true', decide_eq_false_iff_not, List.map_eq_nil_iff]
        exact ⟨fun n => ⟨al, fun z => (by rw [ex] at z; cases z), fun _ => n⟩, fun z => z.2.2 ex⟩
/-! ### a law -/
theorem okl_iff {many : Nat} {l : Lw} : OkL many l ↔ InR l ∧ l.places.Nodup ∧ (l.src = "" ∨ NM l.src) ∧ ∀ p ∈ l.places, 0 ≤ p.2 ∧ p.2 < (many : Int) := by
  constructor
  · intro h
    exact ⟨⟨fun p hp => ⟨(h.rg p hp).1, (h.rg p hp).2.1⟩, h.num, h.any⟩, h.nd, h.src, fun p hp => (h.rg p hp).2.2⟩
  · rintro ⟨⟨a, b, c⟩, d, e, f⟩
    exact ⟨fun p hp => ⟨(a p hp).1, (a p hp).2, (f p hp).1, (f p hp).2⟩, d, e, b, c⟩
def sp_is_law (K : PySem.W.Frag) (Ps : List Addr) : Sp := fun vs H Q _ => ∃ (v : V) (l : Lw) (many : Nat), vs = [v, .int (many : Nat)] ∧ LW K H v l ∧ BL l ∧ TGs Ps H ∧ ∀ (b : Bool) H', (b = true ↔ OkL many l) → Lk H H' → TGs Ps H' → Q (.bl b) H'
theorem ok_is_law (T : Txt K mg) (TB : Tbs base T Ps) : FnOk P w K mg base CX0 5 T.is_law.a T.is_law.fd ["told", "many"] (sp_is_law K Ps) := by
  refine T.is_law.ok sc_is_law (fun vs H Q E h => ?_) (fun A outer s H vs Q E hr h => ?_)
  · obtain ⟨v, l, many, rfl, _⟩ := h
    rfl
  · obtain ⟨v, l, many, rfl, hl, bl, tg, q⟩ := h
    refine ⟨_, (pss_cons (ps_set (i := 2) sc_is_law.nd rfl (.inl rfl) (pe_call (ok_places_of T) (hr.mono (by decide)) (by rfl) T.places_of.g T.places_of.F.kp T.places_of.b .nil pass0 (pa_cons (pv 0) pa_nil)))
      (pss_cons (ps_if (PW.pt (pw_or (pt_not (pt_val (pe_call (ok_is_in_range T TB) (hr.mono (by decide)) (by rfl) T.is_in_range.g T.is_in_range.kp T.is_in_range.b .nil pass0 (pa_cons (pv 0) pa_nil)))) (pw_or1 (pt_val (pe_call (ok_has_twiceP T) (hr.mono (by decide)) (by rfl) T.has_twice.g T.has_twice.F.kp T.has_twice.b .nil pass0 (pa_cons (pv 2) pa_nil))))))
        (pss_one (ps_ret pe_bl))
        pss_nil)
      (pss_cons (ps_if (PW.pt (pw_and (pt_cmpR op_ne (pe_call (ok_source_of T) (hr.mono (by decide)) (by rfl) T.source_of.g T.source_of.F.kp T.source_of.b .nil pass0 (pa_cons (pv 0) pa_nil)) pe_str (nomark _)) (pw_and1 (pt_not (pt_val (pe_call (ok_is_name T TB) (hr.mono (by decide)) (by rfl) T.is_name.g T.is_name.kp T.is_name.b .nil pass0 (pa_cons (pe_call (ok_source_of T) (hr.mono (by decide)) (by rfl) T.source_of.g T.source_of.F.kp T.source_of.b .nil pass0 (pa_cons (pv 0) pa_nil)) pa_nil)))))))
        (pss_one (ps_ret pe_bl))
        pss_nil)
      (pss_one (ps_ret (GN.pe_allG (own := [("_", 3), ("j", 4)]) (g := gTup K 2 (gCons (gName 3) (gCons (gName 4) gNil))) hr sc_is_law.nd (by rfl) T.m_all TB.is_law rfl (GN.nmOk_by (blkOk_by (N := ["told", "many", "places", "_", "j"]) (sc := defScope s_is_law) (by decide +kernel))) (pi_list (pv 2)) (fun _ _ _ _ _ _ => (pg_tup rfl (pgs_cons (pg_name (i := 3) sc_is_law.nd rfl (.inl rfl)) (pgs_cons (pg_name (i := 4) sc_is_law.nd rfl (.inl rfl)) pgs_nil)))) (fun _ _ _ _ _ _ hr2 gd2 => (pe_chain op_le op_lt pe_int (pv 4) (pv 1))))))))), ?_⟩
    have no : ∀ {b : Bool}, ¬ OkL many l → b = false → (b = true ↔ OkL many l) := fun n e => by
      rw [e]
      exact ⟨fun z => (nomatch z), fun z => absurd z n⟩
    have m131 := bl.many
    have pl132 := places_len bl
    refine ⟨v, rfl, v, l, rfl, hl, by omega, fun H1 p s1 np hpl => ?_⟩
    have t1 := tg.same s1
    have hl1 := hl.same s1
    refine ⟨v, rfl, v, l, rfl, hl1, bl, t1, fun b1 H2 e1 l2 t2 => ⟨_, rfl, ?_⟩⟩
    have lk2 := (lk_of s1).trans l2
    refine ite2 (fun h1 => ?_) (fun h1 => ?_)
    · refine iteT (q false H2 (no (fun z => ?_) rfl) lk2 t2)
      rw [e1.mpr (okl_iff.mp z).1] at h1
      cases h1
    · have in1 : InR l := e1.mp (by cases b1 with | true => rfl | false => exact absurd rfl h1)
      refine ⟨.ref p, rfl, p, _, rfl, hpl.lk l2, by omega, fun b2 H3 e2 s3 => ⟨_, rfl, ite2 (fun h2 => ?_) (fun h2 => ?_)⟩⟩
      · exact q false H3 (no (fun z => e2.mp h2 (okl_iff.mp z).2.1) rfl) (lk2.trans (lk_of s3)) (t2.same s3)
      · have nd : l.places.Nodup := by
          by_cases z : l.places.Nodup
          · exact z
          · exact absurd (e2.mpr z) h2
        have lk3 := lk2.trans (lk_of s3)
        have t3 := t2.same s3
        have hl3 := hl.lk lk3
        have last : ∀ G, Lk H3 G → TGs Ps G → (l.src = "" ∨ NM l.src) → tRet (GN.tGn TB.p4 [3, 4] false (iList K (tVar 2)) (gTup K 2 (gCons (gName 3) (gCons (gName 4) gNil))) (tChain (rI0 fun i j => .bl (decide (i ≤ j))) (rI0 fun i j => .bl (decide (i < j))) (tC (.int 0)) (tVar 4) (tVar 1))) { nx := fun _ G => Q .non G, rt := Q } [some v, some (.int (many : Nat)), some (.ref p), none, none] G := fun G lG tG sr => by
          obtain ⟨xs, hp, hA⟩ := (hpl.lk l2).lk ((lk_of s3).trans lG)
          refine ⟨_, rfl, p, rfl, ⟨_, .of hp⟩, tG _ TB.m4, ?_⟩
          refine GN.gn_it (walk_list (xs := xs)) (fun i G2 => Lk G G2 ∧ TGs Ps G2 ∧ ∀ p ∈ l.places.take i, 0 ≤ p.2 ∧ p.2 < (many : Int)) (fun G2 t => ⟨lk_tab (tG _ TB.m4) t, tG.tab t, fun p hp => by simp at hp⟩) (fun _ _ _ pv => pv.1.seqL (.of hp)) (fun i x G2 G' hi pv y => ?_) (fun G2 pv => ?_)
          · obtain ⟨lk, t, al⟩ := pv
            obtain ⟨rfl, hx⟩ := y
            obtain ⟨r, hr3, b, rfl, hb⟩ := hA.get hx
            refine ⟨b, _, rfl, .of (lk.tup hb), rfl, _, _, rfl, _, _, rfl, rfl, rfl, _, rfl, _, _, rfl, rfl, _, rfl, ?_⟩
            have bad : ¬ (0 ≤ r.2 ∧ r.2 < (many : Int)) → Q (.bl false) G' := fun n => q false G' (no (fun z => n ((okl_iff.mp z).2.2.2 r (mem_at hr3))) rfl) (lk3.trans (lG.trans lk)) t
            refine ite2 (fun h1 => ⟨_, rfl, _, _, rfl, rfl, _, rfl, ?_⟩) (fun h1 => ⟨_, rfl, GN.end_f (bad fun z => h1 (decide_eq_true z.1))⟩)
            have h1 := of_decide_eq_true h1
            by_cases h2 : r.2 < (many : Int)
            · rw [decide_eq_true h2]
              exact GN.on_t ⟨lk, t, take_all hr3 al ⟨h1, h2⟩⟩
            · rw [decide_eq_false h2]
              exact GN.end_f (bad fun z => h2 z.2)
          · obtain ⟨lk, t, al⟩ := pv
            rw [hA.len, List.take_length] at al
            exact q true G2 ⟨fun _ => okl_iff.mpr ⟨in1, nd, sr, al⟩, fun _ => rfl⟩ (lk3.trans (lG.trans lk)) t
        refine ⟨v, rfl, v, l, rfl, hl3, rfl, _, rfl, ite2 (fun h3 => ?_) (fun h3 => ?_)⟩
        · have ne : l.src ≠ "" := by
            intro z
            rw [z] at h3
            exact absurd h3 (by decide)
          refine ⟨v, rfl, v, l, rfl, hl3, l.src, rfl, by have := bl.src.1; omega, t3, fun b4 H4 e4 l4 t4 => ⟨_, rfl, ite2 (fun h4 => ?_) (fun h4 => ?_)⟩⟩
          · refine q false H4 (no (fun z => ?_) rfl) (lk3.trans l4) t4
            rw [e4.mpr ((okl_iff.mp z).2.2.1.resolve_left ne)] at h4
            cases h4
          · exact last H4 l4 t4 (.inr (e4.mp (by cases b4 with | true => rfl | false => exact absurd rfl h4)))
        · refine iteF (last H3 Lk.refl t3 (.inl ?_))
          by_cases z : l.src = ""
          · exact z
          · refine absurd ?_ h3
            show (!decide (V.str l.src = V.str "")) = true
            rw [decide_eq_false fun e => z (V.str.inj e)]; rfl
end
end K05
-- G5
namespace K05
open PySem PySem.Spec PyProof.Rows L2 TL
section
variable {P : Program} {w : World} {K : PySem.W.Frag} {mg : Str → Option Value} {base : Heap} {Ps : List Addr}
/-- every name is a text -/
theorem heads_str {m : Mdl} (h : BM m) : ∀ x ∈ Nms m, ∃ s : Str, x = .inr s ∧ GS 700 s := by
  intro x hx
  rcases List.mem_append.mp hx with hx | hx
  · obtain ⟨s, hs, rfl⟩ := List.mem_map.mp hx
    exact ⟨s, rfl, h.qs.2 s hs⟩
  · obtain ⟨l, hl, hx⟩ := List.mem_flatten.mp hx
    obtain ⟨lw, hlw, rfl⟩ := List.mem_map.mp hl
    unfold Lw.heads at hx
    cases e : lw.ex with
    | true => rw [e] at hx; cases hx
    | false =>
      rw [e] at hx
      obtain ⟨t, ht, rfl⟩ := List.mem_map.mp hx
      exact (h.ok lw hlw).nam e t ht
theorem heads_len {m : Mdl} (h : BM m) : (Nms m).length ≤ 8500 := by
  have key : ∀ ls : List Lw, (∀ l ∈ ls, l.ts.length ≤ 131) → (ls.map Lw.heads).flatten.length ≤ 131 * ls.length := by
    intro ls
    induction ls with
    | nil => intro _; exact Nat.zero_le _
    | cons l r ih =>
      intro h
      rw [List.map_cons, List.flatten_cons, List.length_append, List.length_cons]
      have a := ih fun x hx => h x (List.mem_cons_of_mem _ hx)
      have b : l.heads.length ≤ 131 := by
        have := h l List.mem_cons_self
        unfold Lw.heads
        split
        · exact Nat.zero_le _
        · rw [List.length_map]; exact this
      omega
  have a := key m.ls fun l hl => (h.ok l hl).many
  have b := h.qs.1
  have c := h.ls
  unfold Nms Mdl.heads
  rw [List.length_append, List.length_map]
  omega
theorem nms_map (m : Mdl) : (m.qs.map V.str) ++ m.heads.map vH = (Nms m).map vH := by
  unfold Nms
  rw [List.map_append, List.map_map]
  rfl
def sp_is_model (K : PySem.W.Frag) (Ps : List Addr) : Sp := fun vs H Q _ => ∃ (v : V) (m : Mdl), vs = [v] ∧ MD K H v m ∧ BM m ∧ TGs Ps H ∧ ∀ (b : Bool) H', (b = true ↔ OkM m) → Lk H H' → TGs Ps H' → Q (.bl b) H'
theorem ok_is_model (T : Txt K mg) (TB : Tbs base T Ps) : FnOk P w K mg base CX0 7 T.is_model.a T.is_model.fd ["model"] (sp_is_model K Ps) := by
  refine T.is_model.ok sc_is_model (fun vs H Q E h => ?_) (fun A outer s H vs Q E hr h => ?_)
  · obtain ⟨v, m, rfl, _⟩ := h
    rfl
  · obtain ⟨v, m, rfl, hm, bm, tg, q⟩ := h
    refine ⟨_, (pss_cons (ps_asg (pv 0) (pg_tup rfl (pgs_cons (pg_name (i := 3) sc_is_model.nd rfl (.inr rfl)) (pgs_cons (pg_name (i := 1) sc_is_model.nd rfl (.inl rfl)) pgs_nil))))
      (pss_cons (ps_if (PW.pt (pw_or (pt_cmpR op_gt (pe_callB call_len_seq (by rfl) T.m_len (by decide +kernel) (pa_cons (pv 3) pa_nil)) (pe_glob (v := .int 30) rfl T.c_MOST_QUANTITIES ⟨_, rfl⟩) (nomark _)) (pw_or1 (pt_cmpR op_gt (pe_callB call_len_seq (by rfl) T.m_len (by decide +kernel) (pa_cons (pv 1) pa_nil)) (pe_glob (v := .int 40) rfl T.c_MOST_LAWS ⟨_, rfl⟩) (nomark _)))))
        (pss_one (ps_ret pe_bl))
        pss_nil)
      (pss_cons (ps_if (pt_not (pt_val (GN.pe_allG (own := [("told", 4)]) hr sc_is_model.nd (by rfl) T.m_all TB.is_model rfl (GN.nmOk_by (blkOk_by (N := ["model", "laws", "names", "quantities", "told", "name"]) (sc := defScope s_is_model) (by decide +kernel))) (pi_list (pv 1)) (fun _ _ _ _ _ _ => (pg_name (i := 4) sc_is_model.nd rfl (.inl rfl))) (fun _ _ _ _ _ _ hr2 gd2 => (pe_call (ok_is_law T TB) (hr2.mono (by decide)) (by rfl) T.is_law.g T.is_law.kp T.is_law.b .nil pass0 (pa_cons (pv 4) (pa_cons (pe_callB (id := "len") (r := rLenS K) call_lenC (by rfl) T.m_len (by decide +kernel) (pa_cons (pv 3) pa_nil)) pa_nil)))))))
        (pss_one (ps_ret pe_bl))
        pss_nil)
      (pss_cons (ps_set (i := 2) sc_is_model.nd rfl (.inl rfl) (pe_op op_cat (pv 3) (pe_call (ok_sizes_of T) (hr.mono (by decide)) (by rfl) T.sizes_of.g T.sizes_of.F.kp T.sizes_of.b .nil pass0 (pa_cons (pv 0) pa_nil))))
      (pss_one (ps_ret (pe_and (GN.pe_allG (own := [("name", 5)]) hr sc_is_model.nd (by rfl) T.m_all TB.is_model rfl (GN.nmOk_by (blkOk_by (N := ["model", "laws", "names", "quantities", "told", "name"]) (sc := defScope s_is_model) (by decide +kernel))) (pi_list (pv 2)) (fun _ _ _ _ _ _ => (pg_name (i := 5) sc_is_model.nd rfl (.inl rfl))) (fun _ _ _ _ _ _ hr2 gd2 => (pe_call (ok_is_name T TB) (hr2.mono (by decide)) (by rfl) T.is_name.g T.is_name.kp T.is_name.b .nil pass0 (pa_cons (pv 5) pa_nil)))) (pe_one (pe_not (pe_call (ok_has_twice T) (hr.mono (by decide)) (by rfl) T.has_twice.g T.has_twice.F.kp T.has_twice.b .nil pass0 (pa_cons (pv 2) pa_nil))))))))))), ?_⟩
    have no : ∀ {b : Bool}, ¬ OkM m → b = false → (b = true ↔ OkM m) := fun n e => by
      rw [e]
      exact ⟨fun z => (nomatch z), fun z => absurd z n⟩
    obtain ⟨a, qa, r, xs, rfl, h1, h2, h3, h4⟩ := id hm
    have el := h4.len
    refine ⟨_, rfl, a, _, rfl, h1, rfl, _, _, rfl, _, _, rfl, rfl, ?_⟩
    refine ⟨_, rfl, qa, _, rfl, .inl (.of h2), _, _, rfl, rfl, _, rfl, ?_⟩
    rw [List.length_map]
    refine ite2 (fun z1 => ?_) (fun z1 => ?_)
    · exact q false H (no (fun z => by have := of_decide_eq_true z1; have := z.q30; omega) rfl) Lk.refl tg
    have q30 : m.qs.length ≤ 30 := by
      have : ¬ ((30 : Int) < m.qs.length) := fun z => z1 (decide_eq_true z)
      omega
    refine ⟨_, rfl, r, _, rfl, .inl (.of h3), _, _, rfl, rfl, _, rfl, ?_⟩
    refine ite2 (fun z2 => ?_) (fun z2 => ?_)
    · exact q false H (no (fun z => by have := of_decide_eq_true z2; have := z.l40; omega) rfl) Lk.refl tg
    have l40 : m.ls.length ≤ 40 := by
      have : ¬ ((40 : Int) < xs.length) := fun z => z2 (decide_eq_true z)
      omega
    refine ⟨_, rfl, r, rfl, ⟨_, .of h3⟩, tg _ TB.m5, ?_⟩
    refine GN.gn_it (walk_list (xs := xs)) (fun i G => Lk H G ∧ TGs Ps G ∧ ∀ l ∈ m.ls.take i, OkL m.qs.length l) (fun G t => ⟨lk_tab (tg _ TB.m5) t, tg.tab t, fun p hp => by simp at hp⟩) (fun _ _ _ pv => pv.1.seqL (.of h3)) (fun i x G G' hi pv y => ?_) (fun G pv => ?_)
    · obtain ⟨lk, t, al⟩ := pv
      obtain ⟨rfl, hx⟩ := y
      obtain ⟨l, hl, rl⟩ := h4.get hx
      refine ⟨rfl, x, rfl, _, rfl, qa, _, rfl, .inl (.of (lk.lst h2)), x, l, (m.qs.map V.str).length, rfl, rl.lk lk, bm.ok l (mem_at hl), t, fun b G2 eb l2 t2 => ⟨_, rfl, ?_⟩⟩
      rw [List.length_map] at eb
      cases b with
      | true => exact GN.on_t ⟨lk.trans l2, t2, take_all hl al (eb.mp rfl)⟩
      | false =>
        refine GN.end_f ⟨_, rfl, iteT (q false G2 (no (fun z => ?_) rfl) (lk.trans l2) t2)⟩
        have := eb.mpr (z.ls l (mem_at hl))
        cases this
    · obtain ⟨lk, t, al⟩ := pv
      rw [el, List.take_length] at al
      refine ⟨_, rfl, iteF ?_⟩
      refine ⟨_, rfl, _, rfl, _, m, rfl, hm.lk lk, bm, fun H2 p s2 np hp => ?_⟩
      have lk2 := lk.trans (lk_of s2)
      have t2 := t.same s2
      have hl8 := heads_len bm
      have hsz : (m.qs.map V.str).length + (m.heads.map vH).length = (Nms m).length := by
        rw [← List.length_append, nms_map, List.length_map]
      refine ⟨qa, p, _, _, rfl, rfl, lk2.lst h2, hp, by rw [hsz]; exact small (by omega), fun u nu => ?_⟩
      rw [nms_map]
      have s3 := same_upd nu (o := .lst ((Nms m).map vH))
      have lk3 := lk2.trans (lk_of s3)
      have t3 := t2.same s3
      have hu : upd H2 u (.lst ((Nms m).map vH)) u = some (.lst ((Nms m).map vH)) := upd_same
      refine ⟨_, rfl, u, rfl, ⟨_, .of hu⟩, t3 _ TB.m5, ?_⟩
      refine GN.gn_it (walk_list (xs := (Nms m).map vH)) (fun i G => Lk (upd H2 u (.lst ((Nms m).map vH))) G ∧ TGs Ps G ∧ ∀ l ∈ (Nms m).take i, NMh l) (fun G t => ⟨lk_tab (t3 _ TB.m5) t, t3.tab t, fun p hp => by simp at hp⟩) (fun _ _ _ pv => pv.1.seqL (.of hu)) (fun i x G G' hi pv y => ?_) (fun G pv => ?_)
      · obtain ⟨lk4, t4, al2⟩ := pv
        obtain ⟨rfl, hx⟩ := y
        rw [List.getElem?_map] at hx
        obtain ⟨h, hh, rfl⟩ := Option.map_eq_some_iff.mp hx
        obtain ⟨s, rfl, gs⟩ := heads_str bm h (mem_at hh)
        refine ⟨rfl, _, rfl, s, rfl, by have := gs.1; omega, t4, fun b G2 eb l2 t5 => ⟨_, rfl, ?_⟩⟩
        cases b with
        | true => exact GN.on_t ⟨lk4.trans l2, t5, take_all hh al2 (show NMh (.inr s) from eb.mp rfl)⟩
        | false =>
          refine GN.end_f ⟨_, rfl, q false G2 (no (fun z => ?_) rfl) (lk3.trans (lk4.trans l2)) t5⟩
          have := eb.mpr (show NM s from z.nm _ (mem_at hh))
          cases this
      · obtain ⟨lk4, t4, al2⟩ := pv
        rw [List.length_map, List.take_length] at al2
        refine ⟨_, rfl, _, rfl, u, Nms m, rfl, .of (lk4.lst hu), by omega, fun b G2 eb s5 => ⟨_, rfl, ?_⟩⟩
        refine q (!b) G2 ?_ (lk3.trans (lk4.trans (lk_of s5))) (t4.same s5)
        cases b with
        | true => exact ⟨fun z => (nomatch z), fun z => absurd z.nd (eb.mp rfl)⟩
        | false =>
          refine ⟨fun _ => ⟨q30, l40, al, al2, ?_⟩, fun _ => rfl⟩
          by_cases z : (Nms m).Nodup
          · exact z
          · have := eb.mpr z
            cases this
end
end K05
-- J5
namespace K05
open PySem PySem.Spec PyProof.Rows L2 TL
section
variable {P : Program} {w : World} {K : PySem.W.Frag} {mg : Str → Option Value} {base : Heap}
def sp_law_is_name : Sp := fun vs H Q _ => ∃ s : Str, vs = [.str s] ∧ s.length ≤ 50000 ∧ ∀ (b : Bool), (b = true ↔ NM s) → Q (.bl b) H
theorem str_dec (a b : Str) : decide (V.str a = V.str b) = decide (a = b) := by
  by_cases h : a = b
  · rw [h]; simp
  · rw [decide_eq_false h, decide_eq_false fun e => h (V.str.inj e)]
theorem one_dot (c : Nat) : decide ((⟨#[c]⟩ : Str) = ".") = decide (c = 46) := by
  by_cases h : c = 46
  · subst h; decide +kernel
  · rw [decide_eq_false h]
    refine decide_eq_false fun e => h ?_
    have := congrArg tl e
    rw [show tl (".": Str) = [46] by decide +kernel] at this
    injection this
theorem ok_law_is_name (T : Txt K mg) : FnOk P w K mg base CX0 1 T.law_is_name.a T.law_is_name.fd ["text"] sp_law_is_name := by
  refine T.law_is_name.F.ok sc_law_is_name (fun vs H Q E h => ?_) (fun cdv A outer s H vs Q E hr h => ?_)
  · obtain ⟨s, rfl, _⟩ := h
    rfl
  · obtain ⟨s, rfl, hn, q⟩ := h
    refine ⟨_, (pss_cons (ps_if (PW.pt (pw_or (pt_cmpR op_lt (pe_callB call_len_str (by rfl) T.m_len (by decide +kernel) (pa_cons (pv 0) pa_nil)) pe_int (nomark _)) (pw_or1 (pt_cmpR op_gt (pe_callB call_len_str (by rfl) T.m_len (by decide +kernel) (pa_cons (pv 0) pa_nil)) pe_int (nomark _)))))
        (pss_one (ps_ret pe_bl))
        pss_nil)
      (pss_cons (ps_set (i := 1) sc_law_is_name.nd rfl (.inl rfl) pe_str)
      (pss_cons (ps_for PassesOwn.never rfl (pi_str (pv 0)) (pg_name (i := 2) sc_law_is_name.nd rfl (.inl rfl))
        (pss_cons (ps_if (PW.pt (pw_or (PW.pt (pw_and (pt_cmpR op_eq (pv 1) pe_str (nomark _)) (pw_and1 (pt_cmpR op_notin_str (pv 2) pe_str rfl)))) (pw_or1 (pt_cmpR op_notin_str (pv 2) pe_str rfl))))
          (pss_one (ps_ret pe_bl))
          pss_nil)
        (pss_one (ps_set (i := 1) sc_law_is_name.nd rfl (.inl rfl) (pv 2)))))
      (pss_one (ps_ret (pe_cmpR op_ne (pv 1) pe_str (nomark _))))))), ?_⟩
    have no : ∀ {b : Bool}, ¬ NM s → b = false → (b = true ↔ NM s) := fun n e => by
      rw [e]
      exact ⟨fun z => (nomatch z), fun z => absurd z n⟩
    refine ⟨_, rfl, s, rfl, small (by omega), _, _, rfl, rfl, _, rfl, ite2 (fun h1 => ?_) (fun h1 => ?_)⟩
    · exact q false (no (fun z => by have := of_decide_eq_true h1; have := z.1; omega) rfl)
    refine ⟨_, rfl, s, rfl, small (by omega), _, _, rfl, rfl, _, rfl, ite2 (fun h2 => ?_) (fun h2 => ?_)⟩
    · exact q false (no (fun z => by have := of_decide_eq_true h2; have := z.2.1; omega) rfl)
    have l1 : 1 ≤ s.length := by
      have : ¬ ((s.length : Int) < 1) := fun z => h1 (decide_eq_true z)
      omega
    have l2 : s.length ≤ 200 := by
      have : ¬ ((200 : Int) < s.length) := fun z => h2 (decide_eq_true z)
      omega
    have bad : aut true (tl s) = false → Q (.bl false) H := fun e => q false (no (fun z => by rw [z.2.2] at e; cases e) rfl)
    refine ⟨_, rfl, s, rfl, ?_⟩
    refine for_it walk_str (fun i σ G => ∃ (bf : Str) (x2 : Option V), σ = [some (.str s), some (.str bf), x2] ∧ G = H ∧ aut (decide (bf = ".")) ((tl s).drop i) = aut true (tl s)) ⟨".", none, rfl, rfl, by rw [decide_eq_true rfl, List.drop_zero]⟩ (fun _ _ _ _ _ => trivial) (fun i x σ G G' hi pv y => ?_) (fun σ G pv => ?_)
    · obtain ⟨bf, x2, rfl, rfl, ea⟩ := pv
      obtain ⟨rfl, c, hc, rfl⟩ := y
      have hc' : (tl s)[i]? = some c := by rw [show tl s = s.cps.toList from rfl, Array.getElem?_toList]; exact hc
      have hdr : (tl s).drop i = c :: (tl s).drop (i + 1) := by
        obtain ⟨h, e⟩ := List.getElem?_eq_some_iff.mp hc'
        rw [List.drop_eq_getElem_cons h, e]
      rw [hdr, aut_step] at ea
      refine ⟨_, rfl, rfl, _, rfl, ?_⟩
      rw [str_dec]
      have second : ∀ d : Bool, decide (bf = ".") = d → (d && !ltr c) = false → ∀ (Qt Qf : Prop), ((sgn c || decide (c = 46)) = false → Qt) → ((sgn c || decide (c = 46)) = true → aut (decide (c = 46)) ((tl s).drop (i + 1)) = aut true (tl s) → Qf) → if (!(sgn c || decide (c = 46))) = true then Qt else Qf := fun d ed hd Qt Qf qt qf => by
        rw [ed, hd, Bool.false_or] at ea
        cases hs : (sgn c || decide (c = 46)) with
        | true =>
          rw [hs] at ea
          exact iteF (qf hs ea)
        | false => exact iteT (qt hs)
      have badc : (sgn c || decide (c = 46)) = false → Q (.bl false) G' := fun h => bad (by rw [h] at ea; simpa using ea.symm)
      cases hd : decide (bf = ".") with
      | false =>
        refine iteF (iteF ⟨_, rfl, _, _, rfl, rfl, _, rfl, ?_⟩)
        rw [StrLaws.found_one, in_signs_dot]
        refine second false hd rfl _ _ badc fun hs e2 => ⟨_, rfl, ⟨#[c]⟩, _, rfl, rfl, ?_⟩
        rw [one_dot]
        exact e2
      | true =>
        refine iteT ⟨_, rfl, _, _, rfl, rfl, _, rfl, ?_⟩
        rw [StrLaws.found_one, in_letters]
        cases hl : ltr c with
        | false =>
          refine iteT (iteT (bad ?_))
          rw [hd, hl] at ea
          exact ea.symm
        | true =>
          refine iteF ⟨_, rfl, _, _, rfl, rfl, _, rfl, ?_⟩
          rw [StrLaws.found_one, in_signs_dot]
          refine second true hd (by rw [hl]; rfl) _ _ badc fun hs e2 => ⟨_, rfl, ⟨#[c]⟩, _, rfl, rfl, ?_⟩
          rw [one_dot]
          exact e2
    · obtain ⟨bf, x2, rfl, rfl, ea⟩ := pv
      refine ⟨_, rfl, rfl, ?_⟩
      rw [str_dec]
      rw [show s.cps.size = (tl s).length from Array.length_toList.symm, List.drop_length] at ea
      refine q _ ?_
      rw [show (!decide (bf = ".")) = aut (decide (bf = ".")) [] from rfl, ea]
      exact ⟨fun z => ⟨l1, l2, z⟩, fun z => z.2.2⟩
def sp_law_places_of (K : PySem.W.Frag) : Sp := fun vs H Q _ => ∃ (v : V) (l : Lw), vs = [v] ∧ LW K H v l ∧ l.ts.length ≤ 1000 ∧ ∀ H' p, Same H H' → H p = none → PL5 H' p l.places → Q (.ref p) H'
theorem ok_law_places_of (T : Txt K mg) : FnOk P w K mg base CX0 1 T.law_places_of.a T.law_places_of.fd ["law"] (sp_law_places_of K) := by
  refine T.law_places_of.F.ok sc_law_places_of (fun vs H Q E h => ?_) (fun cdv A outer s H vs Q E hr h => ?_)
  · obtain ⟨v, l, rfl, _⟩ := h
    rfl
  · obtain ⟨v, l, rfl, hl, hn, q⟩ := h
    refine ⟨_, (pss_cons (ps_if (pt_cmpR op_eq (pe_ix ix_tup (pv 0) pe_int (fun _ _ => rfl)) pe_str (nomark _))
        (pss_one (ps_ret (pe_lc (own := [("number", 1), ("k", 2), ("j", 3)]) (g := gTup K 3 (gCons (gName 1) (gCons (gName 2) (gCons (gName 3) gNil)))) rfl sc_law_places_of.nd (pi_list (pe_ix ix_tup (pv 0) pe_int (fun _ _ => rfl))) (blkOk_by (N := ["law", "number", "k", "j", "size"]) (sc := defScope s_law_places_of) (by decide +kernel)) (fun _ _ _ _ _ => (pg_tup rfl (pgs_cons (pg_name (i := 1) sc_law_places_of.nd rfl (.inl rfl)) (pgs_cons (pg_name (i := 2) sc_law_places_of.nd rfl (.inl rfl)) (pgs_cons (pg_name (i := 3) sc_law_places_of.nd rfl (.inl rfl)) pgs_nil))))) (fun _ _ _ _ _ => pts_nil) (fun _ _ _ _ _ => (pe_tup (pa_cons (pv 2) (pa_cons (pv 3) pa_nil)))))))
        pss_nil)
      (pss_one (ps_ret (pe_op op_cat (pe_lst (pa_cons (pe_tup (pa_cons (pe_ix ix_tup (pv 0) pe_int (fun _ _ => rfl)) (pa_cons (pe_ix ix_tup (pv 0) pe_int (fun _ _ => rfl)) pa_nil))) pa_nil)) (pe_lc (own := [("size", 4), ("k", 2), ("j", 3)]) (g := gTup K 3 (gCons (gName 4) (gCons (gName 2) (gCons (gName 3) gNil)))) rfl sc_law_places_of.nd (pi_list (pe_ix ix_tup (pv 0) pe_int (fun _ _ => rfl))) (blkOk_by (N := ["law", "number", "k", "j", "size"]) (sc := defScope s_law_places_of) (by decide +kernel)) (fun _ _ _ _ _ => (pg_tup rfl (pgs_cons (pg_name (i := 4) sc_law_places_of.nd rfl (.inl rfl)) (pgs_cons (pg_name (i := 2) sc_law_places_of.nd rfl (.inl rfl)) (pgs_cons (pg_name (i := 3) sc_law_places_of.nd rfl (.inl rfl)) pgs_nil))))) (fun _ _ _ _ _ => pts_nil) (fun _ _ _ _ _ => (pe_tup (pa_cons (pv 2) (pa_cons (pv 3) pa_nil))))))))), ?_⟩
    obtain ⟨a, xs, rfl, ht, h0⟩ := ex_eq hl
    refine ⟨_, rfl, a, xs, _, _, rfl, rfl, ht, h0, rfl, _, rfl, ?_⟩
    rw [str_ex]
    obtain ⟨a', p, e, ⟨xs, hx0, hr2⟩, ht2⟩ := hl
    injection e with e
    subst e
    have hx : SqL K H p xs := .of hx0
    rcases ht2 with ⟨z, h⟩ | ⟨z, h⟩
    · rw [z]
      refine iteT ⟨_, rfl, a, _, _, _, rfl, rfl, h, rfl, p, rfl, ⟨xs, hx⟩, fun D nD => ?_⟩
      refine lc_fm (walk_list (xs := xs)) l.ts (fun t => some (t.k, t.j)) (PX5 D) PX5.mono hr2.len.symm nD (fun H' s => s.seq hx) (small' (by have := hr2.len; omega)) (fun i x H' Hx ys t ht sm hD y Qt Qf qt qf => ?_) (fun H' ys sm hD hR => ?_)
      · obtain ⟨rfl, hx⟩ := y
        obtain ⟨t', ht', r⟩ := hr2.get hx
        obtain rfl := Option.some.inj (ht.symm.trans ht')
        obtain ⟨b, rfl, rb⟩ := r.same sm
        refine ⟨b, _, rfl, rb, rfl, _, _, rfl, _, _, rfl, _, _, rfl, rfl, rfl, _, rfl, _, rfl, by show 2 ≤ sizeLine; decide, fun c hc => ?_⟩
        exact qt _ _ _ rfl (same_upd hc) ⟨c, rfl, (fun z => by rw [z, hD] at hc; cases hc), upd_same⟩
      · rw [fm_id] at hR
        refine q H' D sm nD ⟨ys, hD, ?_⟩
        unfold Lw.places
        rw [z]
        exact hR.mono fun _ _ => PX5.pt
    · rw [z]
      refine iteF ⟨_, rfl, a, _, _, _, rfl, rfl, h, rfl, _, rfl, a, _, _, _, rfl, rfl, h, rfl, by show 2 ≤ sizeLine; decide, fun t nt => ?_⟩
      refine ⟨by show 1 ≤ sizeLine; decide, fun u nu => ?_⟩
      have st := same_upd nt (o := .tup [.int l.k, .int l.j])
      have su := same_upd nu (o := .lst [V.ref t])
      have h4 := Same.seqT (st.trans su) h
      have hx4 := (st.trans su).seq hx
      refine ⟨_, rfl, a, _, _, _, rfl, rfl, h4, rfl, p, rfl, ⟨xs, hx4⟩, fun D nD => ?_⟩
      refine lc_fm (walk_list (xs := xs)) l.ts (fun t => some (t.k, t.j)) (PX5 D) PX5.mono hr2.len.symm nD (fun H' s => s.seq hx4) (small' (by have := hr2.len; omega)) (fun i x H' Hx ys tm ht sm hD y Qt Qf qt qf => ?_) (fun H' ys sm hD hR => ?_)
      · obtain ⟨rfl, hx⟩ := y
        obtain ⟨t', ht', r⟩ := hr2.get hx
        obtain rfl := Option.some.inj (ht.symm.trans ht')
        obtain ⟨b, rfl, rb⟩ := r.same ((st.trans su).trans sm)
        refine ⟨b, _, rfl, rb, rfl, _, _, rfl, _, _, rfl, _, _, rfl, rfl, rfl, _, rfl, _, rfl, by show 2 ≤ sizeLine; decide, fun c hc => ?_⟩
        exact qt _ _ _ rfl (same_upd hc) ⟨c, rfl, (fun z => by rw [z, hD] at hc; cases hc), upd_same⟩
      · rw [fm_id] at hR
        have hu := sm _ _ (upd_same (H := upd H t (.tup [.int l.k, .int l.j])) (a := u) (o := .lst [V.ref t]))
        have htp := sm _ _ (su _ _ (upd_same (H := H) (a := t) (o := .tup [.int l.k, .int l.j])))
        refine ⟨u, D, _, _, rfl, rfl, hu, hD, ?_, fun r nr => ?_⟩
        · have := hR.len
          simp at this
          exact small (by simp; omega)
        · have s1 := (st.trans su).trans sm
          refine q _ r (s1.trans (same_upd nr)) (s1.free nr) ⟨_, upd_same, ?_⟩
          unfold Lw.places
          rw [z]
          exact .cons ⟨t, rfl, same_upd nr _ _ htp⟩ (hR.mono fun _ _ z => (PX5.pt z).same (same_upd nr))
end
end K05
-- K5
namespace K05
open PySem PySem.Spec PyProof.Rows L2 TL
theorem cut3 {xs : List V} {L : Nat} (h : L ≤ xs.length) : cutV xs none (some (L : Int)) = xs.take L := by
  unfold cutV
  rw [HT.sIx_none, HT.sIx_nat, List.drop_zero, Nat.min_eq_left h, Nat.sub_zero]
def dP5 (p : Int × Int) : PyData := .tuple [.int p.1, .int p.2]
theorem eqv_dP (p q : Int × Int) : PyData.eqv (dP5 p) (dP5 q) = decide (p = q) := by
  show ((p.1 == q.1) && ((p.2 == q.2) && true)) = _
  rw [Bool.and_true, Bool.eq_iff_iff, Bool.and_eq_true, beq_iff_eq, beq_iff_eq, decide_eq_true_eq, Prod.ext_iff]
theorem shaped_dP (p : Int × Int) : SeqAt.shaped (dP5 p) = true := shaped_of (by simp [dP5, PyData.canLay0, PyData.canLayAll0]) (by simp [dP5, PyData.depth, PyData.depthAll])
theorem lay_all {α : Type} {f : α → PyData} (h : ∀ p, (f p).canLay0 = true) : ∀ ps : List α, PyData.canLayAll0 (ps.map f) = true
  | [] => rfl
  | p :: r => by
    show ((f p).canLay0 && PyData.canLayAll0 (r.map f)) = true
    rw [h p, lay_all h r]; rfl
theorem depth_all {α : Type} {f : α → PyData} {n : Nat} (h : ∀ p, (f p).depth ≤ n) : ∀ ps : List α, PyData.depthAll (ps.map f) ≤ n
  | [] => Nat.zero_le _
  | p :: r => by
    show max (f p).depth (PyData.depthAll (r.map f)) ≤ n
    exact Nat.max_le.mpr ⟨h p, depth_all h r⟩
theorem shaped_dPs (ps : List (Int × Int)) : SeqAt.shaped (.list (ps.map dP5)) = true := shaped_of (lay_all (fun p => SeqAt.canLay_of_shaped (shaped_dP p)) ps)
  (Nat.le_trans (Nat.succ_le_succ (depth_all (n := 1) (fun p => by simp [dP5, PyData.depth, PyData.depthAll]) ps)) (by decide))
theorem any_dP (p : Int × Int) (ps : List (Int × Int)) : ((ps.map dP5).any fun z => PyData.eqv z (dP5 p)) = decide (p ∈ ps) := by
  rw [List.any_map, Bool.eq_iff_iff, List.any_eq_true, decide_eq_true_eq]
  constructor
  · rintro ⟨q, hq, e⟩
    have e : PyData.eqv (dP5 q) (dP5 p) = true := e
    rw [eqv_dP] at e
    have e := of_decide_eq_true e
    exact e ▸ hq
  · intro h
    refine ⟨p, h, ?_⟩
    show PyData.eqv (dP5 p) (dP5 p) = true
    rw [eqv_dP]
    exact decide_eq_true rfl
theorem inV_str (x : Str) : ∀ qs : List Str, inV (.str x) (qs.map V.str) = true ↔ x ∈ qs
  | [] => ⟨fun z => (nomatch z), fun z => (nomatch z)⟩
  | q :: r => by
    show ((q == x) || inV (.str x) (r.map V.str)) = true ↔ _
    rw [Bool.or_eq_true, inV_str x r, ← dec_str, decide_eq_true_eq, List.mem_cons]
    exact ⟨fun h => h.imp (fun e => (V.str.inj e).symm) id, fun h => h.imp (fun e => congrArg V.str e.symm) id⟩
theorem flat_strs : ∀ qs : List Str, (qs.map V.str).all flatV = true
  | [] => rfl
  | q :: r => by rw [List.map_cons, List.all_cons, flat_strs r]; rfl
section
variable {P : Program} {w : World} {K : PySem.W.Frag} {mg : Str → Option Value} {base : Heap}
theorem dp_pt5 {H : Hp} {v : V} {p : Int × Int} (h : PT5 H v p) : Dp K H v (dP5 p) := by
  obtain ⟨a, rfl, e⟩ := h
  exact .tup (.of e) (.cons (.int _) (.cons (.int _) .nil))
theorem A2.take {α β : Type} {R : α → β → Prop} : ∀ {as : List α} {bs : List β} (n : Nat), A2 R as bs → A2 R (as.take n) (bs.take n)
  | _, _, 0, _ => .nil
  | _, _, _ + 1, .nil => .nil
  | _, _, n + 1, .cons h t => .cons h (A2.take n t)
/-- what the law asks of a law -/
def Fit (many : Nat) (l : Lw) : Prop := OkL many l ∧ (l.ex = false → ∀ t ∈ l.ts, NMh t.h)
def sp_law_fits (K : PySem.W.Frag) : Sp := fun vs H Q _ => ∃ (v : V) (l : Lw) (many : Nat), vs = [v, .int (many : Nat)] ∧ LW K H v l ∧ BL l ∧ ∀ (b : Bool) H', (b = true ↔ Fit many l) → Same H H' → Q (.bl b) H'
theorem all_iff {α : Type} {p : α → Prop} : ∀ {xs : List α} {bs : List Bool}, A2 (fun b x => b = true ↔ p x) bs xs → (bs.all id = true ↔ ∀ x ∈ xs, p x)
  | _, _, .nil => ⟨fun _ _ z => (nomatch z), fun _ => rfl⟩
  | x :: xs, b :: bs, .cons h t => by
    rw [List.all_cons, Bool.and_eq_true, all_iff t, List.forall_mem_cons]
    exact and_congr h Iff.rfl
/-- a new list of truth values, item by item -/
theorem bools {α : Type} {p : α → Prop} {H : Hp} : ∀ {ys : List V} {xs : List α}, A2 (fun v x => ∃ b : Bool, v = .bl b ∧ (b = true ↔ p x)) ys xs → ∃ bs : List Bool, ys = bs.map V.bl ∧ A2 (fun b x => b = true ↔ p x) bs xs
  | _, _, .nil => ⟨[], rfl, .nil⟩
  | _, _, .cons ⟨b, e, h⟩ t => by
    obtain ⟨bs, e2, r⟩ := bools (H := H) t
    exact ⟨b :: bs, by rw [e, e2]; rfl, .cons h r⟩
theorem ok_law_fits (T : Txt K mg) : FnOk P w K mg base CX0 2 T.law_fits.a T.law_fits.fd ["law", "many"] (sp_law_fits K) := by
  refine T.law_fits.F.ok sc_law_fits (fun vs H Q E h => ?_) (fun cdv A outer s H vs Q E hr h => ?_)
  · obtain ⟨v, l, many, rfl, _⟩ := h
    rfl
  · obtain ⟨v, l, many, rfl, hl, bl, q⟩ := h
    refine ⟨_, (pss_cons (ps_set (i := 2) sc_law_fits.nd rfl (.inl rfl) (pe_call (ok_law_places_of T) (hr.mono (by decide)) (by rfl) T.law_places_of.g T.law_places_of.F.kp T.law_places_of.b .nil pass0 (pa_cons (pv 0) pa_nil)))
      (pss_cons (ps_for PassesOwn.never rfl (pi_range1 (by rfl) T.m_range (pa_cons (pe_callB call_len_seq (by rfl) T.m_len (by decide +kernel) (pa_cons (pv 2) pa_nil)) pa_nil)) (pg_name (i := 3) sc_law_fits.nd rfl (.inl rfl))
        (pss_one (ps_if (PW.pt (pw_or (pt_cmpR (op_inD (r65 hr)) (pe_ix ix_list (pv 2) (pv 3) (fun _ _ => rfl)) (pe_slice sl_list (pv 2) po_none (po_some (pv 3))) rfl) (pw_or (pt_not (pt_chain op_le op_le pe_int (pe_ix ix_tup (pe_ix ix_list (pv 2) (pv 3) (fun _ _ => rfl)) pe_int (fun _ _ => rfl)) pe_int)) (pw_or1 (pt_not (pt_chain op_le op_lt pe_int (pe_ix ix_tup (pe_ix ix_list (pv 2) (pv 3) (fun _ _ => rfl)) pe_int (fun _ _ => rfl)) (pv 1)))))))
          (pss_one (ps_ret pe_bl))
          pss_nil)))
      (pss_cons (ps_if (PW.pt (pw_and (pt_cmpR op_ne (pe_ix ix_tup (pv 0) (pe_un un_neg pe_int) (fun _ _ => rfl)) pe_str (nomark _)) (pw_and1 (pt_not (pt_val (pe_call (ok_law_is_name T) (hr.mono (by decide)) (by rfl) T.law_is_name.g T.law_is_name.F.kp T.law_is_name.b .nil pass0 (pa_cons (pe_ix ix_tup (pv 0) (pe_un un_neg pe_int) (fun _ _ => rfl)) pa_nil)))))))
        (pss_one (ps_ret pe_bl))
        pss_nil)
      (pss_cons (ps_if (pt_cmpR op_eq (pe_ix ix_tup (pv 0) pe_int (fun _ _ => rfl)) pe_str (nomark _))
        (pss_one (ps_ret (pe_callB (cr_all rfl) (by rfl) T.m_all (by decide +kernel) (pa_cons (pe_lc (own := [("number", 4), ("k", 3), ("j", 5)]) (g := gTup K 3 (gCons (gName 4) (gCons (gName 3) (gCons (gName 5) gNil)))) rfl sc_law_fits.nd (pi_list (pe_ix ix_tup (pv 0) pe_int (fun _ _ => rfl))) (blkOk_by (N := ["law", "many", "places", "k", "number", "j", "size"]) (sc := defScope s_law_fits) (by decide +kernel)) (fun _ _ _ _ _ => (pg_tup rfl (pgs_cons (pg_name (i := 4) sc_law_fits.nd rfl (.inl rfl)) (pgs_cons (pg_name (i := 3) sc_law_fits.nd rfl (.inl rfl)) (pgs_cons (pg_name (i := 5) sc_law_fits.nd rfl (.inl rfl)) pgs_nil))))) (fun _ _ _ _ _ => pts_nil) (fun _ _ _ _ _ => (pe_and (pe_cmpR op_ne (pv 4) pe_int (nomark _)) (pe_one (pe_cmpR op_le (pe_callB call_abs (by rfl) T.m_abs (by decide +kernel) (pa_cons (pv 4) pa_nil)) pe_int (nomark _)))))) pa_nil))))
        pss_nil)
      (pss_one (ps_ret (pe_and (pe_cmpR (op_neD hr.units) (pe_ix ix_tup (pv 0) pe_int (fun _ _ => rfl)) (pe_lst pa_nil) (nomark _)) (pe_one (pe_callB (cr_all rfl) (by rfl) T.m_all (by decide +kernel) (pa_cons (pe_lc (own := [("size", 6), ("k", 3), ("j", 5)]) (g := gTup K 3 (gCons (gName 6) (gCons (gName 3) (gCons (gName 5) gNil)))) rfl sc_law_fits.nd (pi_list (pe_ix ix_tup (pv 0) pe_int (fun _ _ => rfl))) (blkOk_by (N := ["law", "many", "places", "k", "number", "j", "size"]) (sc := defScope s_law_fits) (by decide +kernel)) (fun _ _ _ _ _ => (pg_tup rfl (pgs_cons (pg_name (i := 6) sc_law_fits.nd rfl (.inl rfl)) (pgs_cons (pg_name (i := 3) sc_law_fits.nd rfl (.inl rfl)) (pgs_cons (pg_name (i := 5) sc_law_fits.nd rfl (.inl rfl)) pgs_nil))))) (fun _ _ _ _ _ => pts_nil) (fun _ _ _ _ _ => (pe_call (ok_law_is_name T) (hr.mono (by decide)) (by rfl) T.law_is_name.g T.law_is_name.F.kp T.law_is_name.b .nil pass0 (pa_cons (pv 6) pa_nil)))) pa_nil)))))))))), ?_⟩
    have no : ∀ {b : Bool}, ¬ Fit many l → b = false → (b = true ↔ Fit many l) := fun n e => by
      rw [e]
      exact ⟨fun z => (nomatch z), fun z => absurd z n⟩
    have m131 := bl.many
    have pl132 := places_len bl
    refine ⟨v, rfl, v, l, rfl, hl, by omega, fun H1 p s1 np ⟨xs, hp, hA⟩ => ?_⟩
    have el := hA.len
    refine ⟨.ref p, rfl, p, _, rfl, .inl (.of hp), (xs.length : Nat), rfl, by omega, by omega, ?_⟩
    rw [Int.toNat_natCast]
    refine for_it (walk_range (lo := 0) (n := xs.length)) (fun i σ G => ∃ x3, σ = [some v, some (.int (many : Nat)), some (.ref p), x3, none, none, none] ∧ Same H1 G ∧ (l.places.take i).Nodup ∧ ∀ p ∈ l.places.take i, 0 ≤ p.1 ∧ p.1 ≤ 3 ∧ 0 ≤ p.2 ∧ p.2 < (many : Int)) ⟨none, rfl, Same.refl _, by simp, fun p hp => by simp at hp⟩ (fun _ _ _ _ _ => trivial) (fun i x σ G G' hi pv y => ?_) (fun σ G pv => ?_)
    · obtain ⟨x3, rfl, sm, nd, rg⟩ := pv
      obtain ⟨rfl, rfl⟩ := y
      have hi' : i < l.places.length := by omega
      obtain ⟨r, hr3⟩ : ∃ r, l.places[i]? = some r := ⟨_, List.getElem?_eq_getElem hi'⟩
      obtain ⟨u, hu, ru⟩ := hA.get' hr3
      have at0 : atI xs (0 + (i : Int)) = some u := by rw [Int.zero_add]; exact atI_nat hu
      have hp3 := sm _ _ hp
      have bad : ∀ G2, Same G' G2 → ¬ (r ∉ l.places.take i ∧ 0 ≤ r.1 ∧ r.1 ≤ 3 ∧ 0 ≤ r.2 ∧ r.2 < (many : Int)) → Q (.bl false) G2 := fun G2 s2 n => q false G2 (no (fun z => n ⟨fun m => twice_at hr3 m z.1.nd, z.1.rg r (mem_at hr3)⟩) rfl) (s1.trans (sm.trans s2))
      refine ⟨.ref p, rfl, _, rfl, p, _, _, _, rfl, rfl, .of hp3, at0, .ref p, rfl, _, rfl, _, rfl, p, _, rfl, .of hp3, fun S nS => ?_⟩
      rw [Int.zero_add, cut3 (by omega)]
      have sS := same_upd nS (o := .lst (xs.take i))
      have ruS := (ru.lk (lk_of sm)).lk (lk_of sS)
      refine ⟨dP5 r, (l.places.take i).map dP5, dp_pt5 ruS, .lst (.of upd_same) (dpAll_of (f := dP5) (fun _ _ z => dp_pt5 ((PT5.lk (lk_of sm) z).lk (lk_of sS))) (A2.take i hA)), shaped_dP r, shaped_dPs _, _, rfl, ?_⟩
      rw [any_dP]
      refine ite2 (fun m => ?_) (fun m => ?_)
      · exact bad _ sS fun z => z.1 (of_decide_eq_true m)
      have nm : r ∉ l.places.take i := of_decide_eq_false (Bool.eq_false_iff.mpr m)
      obtain ⟨b, rfl, hb⟩ := ruS
      have hp4 := sS _ _ hp3
      refine ⟨.ref p, rfl, _, rfl, p, _, _, _, rfl, rfl, .of hp4, at0, b, _, _, _, rfl, rfl, .of hb, rfl, _, _, rfl, rfl, _, rfl, ?_⟩
      refine ite2 (fun c1 => ?_) (fun c1 => ⟨_, rfl, iteT (bad _ sS fun z => c1 (decide_eq_true z.2.1))⟩)
      refine ⟨_, _, rfl, rfl, _, rfl, ?_⟩
      by_cases c2 : r.1 ≤ 3
      · rw [decide_eq_true c2]
        refine iteF ⟨.ref p, rfl, _, rfl, p, _, _, _, rfl, rfl, .of hp4, at0, b, _, _, _, rfl, rfl, .of hb, rfl, _, _, rfl, rfl, _, rfl, ?_⟩
        refine ite2 (fun c3 => ?_) (fun c3 => ⟨_, rfl, iteT (bad _ sS fun z => c3 (decide_eq_true z.2.2.2.1))⟩)
        refine ⟨_, rfl, _, _, rfl, rfl, _, rfl, ?_⟩
        by_cases c4 : r.2 < (many : Int)
        · rw [decide_eq_true c4]
          exact iteF ⟨_, rfl, sm.trans sS, once_at hr3 nd nm, take_all hr3 rg ⟨of_decide_eq_true c1, c2, of_decide_eq_true c3, c4⟩⟩
        · rw [decide_eq_false c4]
          exact iteT (bad _ sS fun z => c4 z.2.2.2.2)
      · rw [decide_eq_false c2]
        exact iteT (bad _ sS fun z => c2 z.2.2.1)
    · obtain ⟨x3, rfl, sm, nd, rg⟩ := pv
      rw [el, List.take_length] at nd rg
      have lk3 := s1.trans sm
      have hl3 := hl.same lk3
      obtain ⟨a, xt, rfl, ht, hs⟩ := src_at hl3
      have last : ∀ (x3 : Option V), (l.src = "" ∨ NM l.src) → tSeq (tIfS (tTest (tOp rEq (tOp (rIxT K) (tVar 0) (tC (.int 0))) (tC (.str "exact")))) (tRet (tCB (rAll K) (tCons (tLc (iList K (tOp (rIxT K) (tVar 0) (tC (.int 1)))) (gTup K 3 (gCons (gName 4) (gCons (gName 3) (gCons (gName 5) gNil)))) tYes (tAndV (tOp rNe (tVar 4) (tC (.int 0))) (tOp (rI0 fun i j => .bl (decide (i ≤ j))) (tCB (fun xs H Q => ∃ i, xs = [.int i] ∧ Q (.int (if i < 0 then -i else i)) H) (tCons (tVar 4) tNil)) (tC (.int 1000000)))) [4, 3, 5]) tNil))) tNext)
        (tRet (tAndV (tOp (rNeD K) (tOp (rIxT K) (tVar 0) (tC (.int 3))) (tLst tNil)) (tCB (rAll K) (tCons (tLc (iList K (tOp (rIxT K) (tVar 0) (tC (.int 3)))) (gTup K 3 (gCons (gName 6) (gCons (gName 3) (gCons (gName 5) gNil)))) tYes (tCall sp_law_is_name [] E0 (tCons (tVar 6) tNil)) [6, 3, 5]) tNil)))) { nx := fun _ G => Q .non G, rt := Q } [some (.ref a), some (.int (many : Nat)), some (.ref p), x3, none, none, none] G := fun x3 sr => by
        obtain ⟨a2, p2, e2, ⟨zs, hz, hT⟩, hd⟩ := id hl3
        injection e2 with e2
        subst e2
        have okl : InR l → OkL many l := fun z => okl_iff.mpr ⟨z, nd, sr, fun p hp => (rg p hp).2.2⟩
        have rg2 : ∀ p ∈ l.places, 0 ≤ p.1 ∧ p.1 ≤ 3 := fun p hp => ⟨(rg p hp).1, (rg p hp).2.1⟩
        have elz := hT.len
        obtain ⟨a3, xs3, e3, ht3, h03⟩ := ex_eq hl3
        injection e3 with e3
        subst e3
        refine ⟨_, rfl, a, xs3, _, _, rfl, rfl, ht3, h03, rfl, _, rfl, ?_⟩
        rw [str_ex]
        rcases hd with ⟨ex, hd⟩ | ⟨ex, hd⟩
        · rw [ex]
          refine iteT ⟨_, rfl, a, _, _, _, rfl, rfl, hd, rfl, p2, rfl, ⟨zs, .of hz⟩, fun D nD => ?_⟩
          refine lc_inv (walk_list (xs := zs)) (fun i G2 ys => A2 (fun v t => ∃ b : Bool, v = .bl b ∧ (b = true ↔ NumOk t)) ys (l.ts.take i)) nD (fun H' s => s.seq (.of hz)) (small' (by omega)) .nil (fun i x G2 Hx ys hi sm2 hD hR y Qt Qf qt qf => ?_) (fun G2 ys sm2 hD hR => ?_)
          · obtain ⟨rfl, hx⟩ := y
            obtain ⟨tm, htm, b, rfl, hb⟩ := hT.get hx
            obtain ⟨n, en, bn⟩ := bl.num ex tm (mem_at htm)
            rw [en] at hb
            have nk : NumOk tm ↔ n ≠ 0 ∧ n.natAbs ≤ 1000000 := ⟨fun z => z n en, fun z m e => by
              rw [en] at e
              injection e with e
              exact e ▸ z⟩
            refine ⟨b, _, rfl, Same.seqT sm2 hb, rfl, _, _, rfl, _, _, rfl, _, _, rfl, rfl, rfl, _, rfl, rfl, _, rfl, ?_⟩
            have fin : ∀ c : Bool, (c = true ↔ NumOk tm) → Qt (.bl c) Hx := fun c hc => qt _ _ (Same.refl _) (by rw [take_snoc htm]; exact A2.snoc ⟨c, rfl, hc⟩ hR)
            refine ite2 (fun h1 => ?_) (fun h1 => ?_)
            · have h1 : n ≠ 0 := by
                intro z
                rw [z] at h1
                exact absurd h1 (by decide)
              refine ⟨_, rfl, n, rfl, _, _, rfl, rfl, fin _ ?_⟩
              rw [decide_eq_true_eq, nk]
              refine ⟨fun z => ⟨h1, ?_⟩, fun z => ?_⟩
              · by_cases c : n < 0
                · rw [if_pos c] at z; omega
                · rw [if_neg c] at z; omega
              · split <;> omega
            · refine fin false ⟨fun z => (nomatch z), fun z => absurd ?_ h1⟩
              show (!decide (V.int n = V.int 0)) = true
              rw [decide_eq_false fun e => (nk.mp z).1 (V.int.inj e)]; rfl
          · rw [elz, List.take_length] at hR
            obtain ⟨bs, rfl, hb⟩ := bools (H := G2) hR
            refine ⟨D, bs, rfl, .of hD, q _ G2 ?_ (lk3.trans sm2)⟩
            rw [all_iff hb]
            exact ⟨fun z => ⟨okl ⟨rg2, fun _ => z, fun y => (by rw [ex] at y; cases y)⟩, fun y => (by rw [ex] at y; cases y)⟩, fun z => z.1.num ex⟩
        · rw [ex]
          refine iteF ⟨_, rfl, a, _, _, _, rfl, rfl, hd, rfl, by show 0 ≤ sizeLine; decide, fun u nu => ?_⟩
          have su := same_upd nu (o := .lst [])
          have dt : Dp K (upd G u (.lst [])) (.ref p2) (.list (l.ts.map dTm)) := .lst (.of (su _ _ hz)) (dpAll_of (f := dTm) (fun _ _ z => dp_tm (z.same su)) hT)
          refine ⟨_, .list [], dt, .lst (.of upd_same) .nil, (gd_tms bl).shp (by decide), rfl, ?_⟩
          rw [eqv_nil]
          refine ⟨_, rfl, ite2 (fun h1 => ?_) (fun h1 => ?_)⟩
          · rw [Bool.not_eq_true', decide_eq_false_iff_not, List.map_eq_nil_iff] at h1
            refine ⟨_, rfl, a, _, _, _, rfl, rfl, Same.seqT su hd, rfl, p2, rfl, ⟨zs, .of (su _ _ hz)⟩, fun D nD => ?_⟩
            refine lc_inv (walk_list (xs := zs)) (fun i G2 ys => A2 (fun v t => ∃ b : Bool, v = .bl b ∧ (b = true ↔ NMh t.h)) ys (l.ts.take i)) nD (fun H' s => s.seq (.of (su _ _ hz))) (small' (by omega)) .nil (fun i x G2 Hx ys hi sm2 hD hR y Qt Qf qt qf => ?_) (fun G2 ys sm2 hD hR => ?_)
            · obtain ⟨rfl, hx⟩ := y
              obtain ⟨tm, htm, b, rfl, hb⟩ := hT.get hx
              obtain ⟨s, es, gs⟩ := bl.nam ex tm (mem_at htm)
              rw [es] at hb
              refine ⟨b, _, rfl, Same.seqT (su.trans sm2) hb, rfl, _, _, rfl, _, _, rfl, _, _, rfl, rfl, rfl, _, rfl, s, rfl, by have := gs.1; omega, fun c hc => ?_⟩
              refine qt _ _ (Same.refl _) ?_
              rw [take_snoc htm]
              exact A2.snoc ⟨c, rfl, by rw [es]; exact hc⟩ hR
            · rw [elz, List.take_length] at hR
              obtain ⟨bs, rfl, hb⟩ := bools (H := G2) hR
              refine ⟨D, bs, rfl, .of hD, q _ G2 ?_ (lk3.trans (su.trans sm2))⟩
              rw [all_iff hb]
              exact ⟨fun z => ⟨okl ⟨rg2, fun y => (by rw [ex] at y; cases y), fun _ => h1⟩, fun _ => z⟩, fun z => z.2 ex⟩
          · refine q false _ (no (fun z => h1 ?_) rfl) (lk3.trans su)
            rw [Bool.not_eq_true', decide_eq_false_iff_not, List.map_eq_nil_iff]
            exact z.1.any ex
      refine ⟨_, rfl, _, rfl, a, _, _, _, rfl, rfl, ht, hs, rfl, _, rfl, ?_⟩
      refine ite2 (fun h3 => ?_) (fun h3 => ?_)
      · have ne : l.src ≠ "" := by
          intro z
          rw [z] at h3
          exact absurd h3 (by decide)
        refine ⟨_, rfl, _, rfl, a, _, _, _, rfl, rfl, ht, hs, l.src, rfl, by have := bl.src.1; omega, fun b4 e4 => ⟨_, rfl, ite2 (fun h4 => ?_) (fun h4 => ?_)⟩⟩
        · refine q false G (no (fun z => ?_) rfl) lk3
          rw [e4.mpr (z.1.src.resolve_left ne)] at h4
          cases h4
        · exact last _ (.inr (e4.mp (by cases b4 with | true => rfl | false => exact absurd rfl h4)))
      · refine iteF (last _ (.inl ?_))
        by_cases z : l.src = ""
        · exact z
        · refine absurd ?_ h3
          show (!decide (V.str l.src = V.str "")) = true
          rw [decide_eq_false fun e => z (V.str.inj e)]; rfl
/-! ### what is due -/
theorem okm_iff (m : Mdl) : OkM m ↔ (Nms m).Nodup ∧ m.qs.length ≤ 30 ∧ m.ls.length ≤ 40 ∧ (∀ q ∈ m.qs, NM q) ∧ ∀ l ∈ m.ls, Fit m.qs.length l := by
  have hd : ∀ (l : Lw), l ∈ m.ls → l.ex = false → ∀ t ∈ l.ts, t.h ∈ Nms m := fun l hl ex t ht => by
    refine List.mem_append_right _ (List.mem_flatten.mpr ⟨l.heads, List.mem_map.mpr ⟨l, hl, rfl⟩, ?_⟩)
    unfold Lw.heads
    rw [ex]
    exact List.mem_map.mpr ⟨t, ht, rfl⟩
  constructor
  · intro h
    exact ⟨h.nd, h.q30, h.l40, fun q hq => h.nm (.inr q) (List.mem_append_left _ (List.mem_map.mpr ⟨q, hq, rfl⟩)), fun l hl => ⟨h.ls l hl, fun ex t ht => h.nm _ (hd l hl ex t ht)⟩⟩
  · rintro ⟨a, b, c, d, e⟩
    refine ⟨b, c, fun l hl => (e l hl).1, fun x hx => ?_, a⟩
    rcases List.mem_append.mp hx with hx | hx
    · obtain ⟨s, hs, rfl⟩ := List.mem_map.mp hx
      exact d s hs
    · obtain ⟨hl, h1, h2⟩ := List.mem_flatten.mp hx
      obtain ⟨l, hl, rfl⟩ := List.mem_map.mp h1
      unfold Lw.heads at h2
      cases ex : l.ex with
      | true => rw [ex] at h2; cases h2
      | false =>
        rw [ex] at h2
        obtain ⟨t, ht, rfl⟩ := List.mem_map.mp h2
        exact (e l hl).2 ex t ht
theorem strs_of : ∀ {xs : List Hd}, (∀ x ∈ xs, ∃ s : Str, x = .inr s) → ∃ ss : List Str, xs = ss.map Sum.inr
  | [], _ => ⟨[], rfl⟩
  | x :: r, h => by
    obtain ⟨s, rfl⟩ := h x List.mem_cons_self
    obtain ⟨ss, rfl⟩ := strs_of fun y hy => h y (List.mem_cons_of_mem _ hy)
    exact ⟨s :: ss, rfl⟩
theorem inr_map (ss : List Str) : (ss.map (Sum.inr : Str → Hd)).map vH = ss.map V.str := by rw [List.map_map]; rfl
theorem nodup_inr (ss : List Str) : (ss.map (Sum.inr : Str → Hd)).Nodup ↔ ss.Nodup := by
  unfold List.Nodup
  rw [List.pairwise_map]
  exact ⟨fun h => h.imp fun n e => n (congrArg _ e), fun h => h.imp fun n e => n (Sum.inr.inj e)⟩
/-- the names of the quantities and of the first i laws -/
def nmsTo (m : Mdl) (i : Nat) : List Hd := m.qs.map Sum.inr ++ ((m.ls.take i).map Lw.heads).flatten
theorem nmsTo_snoc {m : Mdl} {i : Nat} {l : Lw} (h : m.ls[i]? = some l) : nmsTo m (i + 1) = nmsTo m i ++ l.heads := by
  unfold nmsTo
  rw [take_snoc h, List.map_append, List.flatten_append, List.append_assoc]
  simp
theorem nmsTo_len {m : Mdl} (h : BM m) (i : Nat) : (nmsTo m i).length ≤ 8500 := by
  refine Nat.le_trans ?_ (heads_len h)
  unfold nmsTo Nms Mdl.heads
  rw [List.length_append, List.length_append, List.length_map]
  have : ((m.ls.take i).map Lw.heads).flatten.length + ((m.ls.drop i).map Lw.heads).flatten.length = (m.ls.map Lw.heads).flatten.length := by
    rw [← List.length_append, ← List.flatten_append, ← List.map_append, List.take_append_drop]
  omega
theorem str_sz (b : Bool) : decide (V.str (if b then "exact" else "sized") = V.str "sized") = !b := by
  cases b <;> decide +kernel
def sp_law_due (K : PySem.W.Frag) : Sp := fun vs H Q _ => ∃ (v : V) (m : Mdl), vs = [v] ∧ MD K H v m ∧ BM m ∧ ∀ (b : Bool) H', (b = true ↔ OkM m) → Same H H' → Q (.bl b) H'
theorem ok_law_due (T : Txt K mg) : FnOk P w K mg base CX0 3 T.law_due.a T.law_due.fd ["model"] (sp_law_due K) := by
  refine T.law_due.F.ok sc_law_due (fun vs H Q E h => ?_) (fun cdv A outer s H vs Q E hr h => ?_)
  · obtain ⟨v, m, rfl, _⟩ := h
    rfl
  · obtain ⟨v, m, rfl, hm, bm, q⟩ := h
    refine ⟨_, (pss_cons (ps_asg (pv 0) (pg_tup rfl (pgs_cons (pg_name (i := 1) sc_law_due.nd rfl (.inr rfl)) (pgs_cons (pg_name (i := 2) sc_law_due.nd rfl (.inl rfl)) pgs_nil))))
      (pss_cons (ps_set (i := 3) sc_law_due.nd rfl (.inl rfl) (pe_callTy call_list_of (by rfl) T.m_list (by decide +kernel) (pa_cons (pv 1) pa_nil)))
      (pss_cons (ps_for PassesOwn.never rfl (pi_list (pv 2)) (pg_name (i := 4) sc_law_due.nd rfl (.inl rfl))
        (pss_one (ps_if (pt_cmpR op_eq (pe_ix ix_tup (pv 4) pe_int (fun _ _ => rfl)) pe_str (nomark _))
          (pss_one (ps_set (i := 3) sc_law_due.nd rfl (.inl rfl) (pe_op op_cat (pv 3) (pe_lc (own := [("term", 6)]) rfl sc_law_due.nd (pi_list (pe_ix ix_tup (pv 4) pe_int (fun _ _ => rfl))) (blkOk_by (N := ["model", "quantities", "laws", "names", "law", "k", "term", "name"]) (sc := defScope s_law_due) (by decide +kernel)) (fun _ _ _ _ _ => (pg_name (i := 6) sc_law_due.nd rfl (.inl rfl))) (fun _ _ _ _ _ => pts_nil) (fun _ _ _ _ _ => (pe_ix (r := rIxT K) ix_tup (pv 6) pe_int (fun _ _ => rfl)))))))
          pss_nil)))
      (pss_cons (ps_for PassesOwn.never rfl (pi_range1 (by rfl) T.m_range (pa_cons (pe_callB call_len_seq (by rfl) T.m_len (by decide +kernel) (pa_cons (pv 3) pa_nil)) pa_nil)) (pg_name (i := 5) sc_law_due.nd rfl (.inl rfl))
        (pss_one (ps_if (pt_cmpR op_in_seq (pe_ix ix_list (pv 3) (pv 5) (fun _ _ => rfl)) (pe_slice sl_list (pv 3) po_none (po_some (pv 5))) rfl)
          (pss_one (ps_ret pe_bl))
          pss_nil)))
      (pss_cons (ps_if (PW.pt (pw_or (pt_cmpR op_gt (pe_callB call_len_seq (by rfl) T.m_len (by decide +kernel) (pa_cons (pv 1) pa_nil)) pe_int (nomark _)) (pw_or (pt_cmpR op_gt (pe_callB call_len_seq (by rfl) T.m_len (by decide +kernel) (pa_cons (pv 2) pa_nil)) pe_int (nomark _)) (pw_or1 (pt_not (pt_val (pe_callB (cr_all rfl) (by rfl) T.m_all (by decide +kernel) (pa_cons (pe_lc (own := [("name", 7)]) rfl sc_law_due.nd (pi_list (pv 1)) (blkOk_by (N := ["model", "quantities", "laws", "names", "law", "k", "term", "name"]) (sc := defScope s_law_due) (by decide +kernel)) (fun _ _ _ _ _ => (pg_name (i := 7) sc_law_due.nd rfl (.inl rfl))) (fun _ _ _ _ _ => pts_nil) (fun _ _ _ _ _ => (pe_call (ok_law_is_name T) (hr.mono (by decide)) (by rfl) T.law_is_name.g T.law_is_name.F.kp T.law_is_name.b .nil pass0 (pa_cons (pv 7) pa_nil)))) pa_nil))))))))
        (pss_one (ps_ret pe_bl))
        pss_nil)
      (pss_one (ps_ret (pe_callB (cr_all rfl) (by rfl) T.m_all (by decide +kernel) (pa_cons (pe_lc (own := [("law", 4)]) rfl sc_law_due.nd (pi_list (pv 2)) (blkOk_by (N := ["model", "quantities", "laws", "names", "law", "k", "term", "name"]) (sc := defScope s_law_due) (by decide +kernel)) (fun _ _ _ _ _ => (pg_name (i := 4) sc_law_due.nd rfl (.inl rfl))) (fun _ _ _ _ _ => pts_nil) (fun _ _ _ _ _ => (pe_call (ok_law_fits T) (hr.mono (by decide)) (by rfl) T.law_fits.g T.law_fits.F.kp T.law_fits.b .nil pass0 (pa_cons (pv 4) (pa_cons (pe_callB (id := "len") (r := rLenS K) call_lenC (by rfl) T.m_len (by decide +kernel) (pa_cons (pv 1) pa_nil)) pa_nil))))) pa_nil))))))))), ?_⟩
    have no : ∀ {b : Bool}, ¬ OkM m → b = false → (b = true ↔ OkM m) := fun n e => by
      rw [e]
      exact ⟨fun z => (nomatch z), fun z => absurd z n⟩
    obtain ⟨a, qa, r, xs, rfl, h1, h2, h3, h4⟩ := id hm
    have el := h4.len
    have hl8 := heads_len bm
    refine ⟨_, rfl, a, _, rfl, h1, rfl, _, _, rfl, _, _, rfl, rfl, ?_⟩
    refine ⟨_, rfl, qa, _, rfl, .inl (.of h2), fun u0 nu0 => ?_⟩
    have su0 := same_upd nu0 (o := .lst (m.qs.map V.str))
    refine ⟨_, rfl, r, rfl, ⟨_, .of (su0 _ _ h3)⟩, ?_⟩
    refine for_it (walk_list (xs := xs)) (fun i σ G => ∃ (un : Addr) (x4 : Option V), σ = [some (.ref a), some (.ref qa), some (.ref r), some (.ref un), x4, none, none, none] ∧ Same H G ∧ G un = some (.lst ((nmsTo m i).map vH))) ⟨u0, none, rfl, su0, by rw [upd_same]; unfold nmsTo; simp; intro x _; rfl⟩ (fun i σ G _ pv => ?_) (fun i x σ G G' hi pv y => ?_) (fun σ G pv => ?_)
    · obtain ⟨_, _, _, sm, _⟩ := pv
      exact .of (sm _ _ h3)
    · obtain ⟨un, x4, rfl, sm, hun⟩ := pv
      obtain ⟨rfl, hx⟩ := y
      obtain ⟨l, hl, rl⟩ := h4.get hx
      have bl := bm.ok l (mem_at hl)
      have rl2 := rl.same sm
      obtain ⟨b, xt, rfl, ht, h0⟩ := ex_eq rl2
      refine ⟨_, rfl, b, xt, _, _, rfl, rfl, ht, h0, rfl, _, rfl, ?_⟩
      rw [str_sz]
      obtain ⟨b2, p2, e2, ⟨zs, hz, hT⟩, hd⟩ := id rl2
      injection e2 with e2
      subst e2
      have m131 := bl.many
      have elz := hT.len
      rcases hd with ⟨ex, hd⟩ | ⟨ex, hd⟩
      · rw [ex]
        refine iteF ⟨_, _, rfl, sm, ?_⟩
        rw [nmsTo_snoc hl, show l.heads = [] by unfold Lw.heads; rw [ex]; rfl, List.append_nil]
        exact hun
      · rw [ex]
        have eh : l.heads = l.ts.map (·.h) := by unfold Lw.heads; rw [ex]; rfl
        refine iteT ⟨_, rfl, _, rfl, b, _, _, _, rfl, rfl, hd, rfl, p2, rfl, ⟨zs, .of hz⟩, fun D nD => ?_⟩
        refine lc_fm (walk_list (xs := zs)) l.ts (fun t => some t.h) (fun _ v b => v = vH b) (fun _ _ _ _ _ z => z) hT.len.symm nD (fun H' s => s.seq (.of hz)) (small' (by omega)) (fun i x G2 Hx ys t ht sm2 hD y Qt Qf qt qf => ?_) (fun G2 ys sm2 hD hR => ?_)
        · obtain ⟨rfl, hx⟩ := y
          obtain ⟨t', ht', r⟩ := hT.get hx
          obtain rfl := Option.some.inj (ht.symm.trans ht')
          obtain ⟨b3, rfl, rb⟩ := r.same sm2
          exact ⟨rfl, _, rfl, b3, _, _, _, rfl, rfl, rb, rfl, qt _ _ _ rfl (Same.refl _) rfl⟩
        · rw [fm_id] at hR
          have ey := a2_eq hR
          have n1 := nmsTo_len bm i
          have n2 := nmsTo_len bm (i + 1)
          rw [nmsTo_snoc hl, List.length_append] at n2
          refine ⟨un, D, _, _, rfl, rfl, sm2 _ _ hun, hD, ?_, fun v nv => ?_⟩
          · rw [ey, List.length_map, List.length_map, ← eh]
            exact small (by omega)
          · refine ⟨v, _, rfl, same_over (sm.trans sm2) ((sm.trans sm2).free nv), ?_⟩
            rw [upd_same, nmsTo_snoc hl, List.map_append, ey, eh]
    · obtain ⟨un, x4, rfl, sm, hun⟩ := pv
      obtain ⟨ss, hss⟩ := strs_of (xs := Nms m) fun x hx => let ⟨s, e, _⟩ := heads_str bm x hx; ⟨s, e⟩
      rw [el, show nmsTo m m.ls.length = Nms m by unfold nmsTo Nms Mdl.heads; rw [List.take_length], hss, inr_map] at hun
      have sl : ss.length ≤ 8500 := by have := hl8; rw [hss, List.length_map] at this; exact this
      refine ⟨.ref un, rfl, un, _, rfl, .inl (.of hun), ((ss.map V.str).length : Nat), rfl, by rw [List.length_map]; omega, by rw [List.length_map]; omega, ?_⟩
      rw [Int.toNat_natCast]
      refine for_it (walk_range (lo := 0) (n := (ss.map V.str).length)) (fun i σ G2 => ∃ x5, σ = [some (.ref a), some (.ref qa), some (.ref r), some (.ref un), x4, x5, none, none] ∧ Same G G2 ∧ (ss.take i).Nodup) ⟨none, rfl, Same.refl _, by simp⟩ (fun _ _ _ _ _ => trivial) (fun i x σ G2 G' hi pv y => ?_) (fun σ G2 pv => ?_)
      · obtain ⟨x5, rfl, sm2, nd⟩ := pv
        obtain ⟨rfl, rfl⟩ := y
        rw [List.length_map] at hi
        obtain ⟨s, hs⟩ : ∃ s, ss[i]? = some s := ⟨_, List.getElem?_eq_getElem hi⟩
        have hu := sm2 _ _ hun
        have at0 : atI (ss.map V.str) (0 + (i : Int)) = some (.str s) := by rw [Int.zero_add]; exact atI_nat (by rw [List.getElem?_map, hs]; rfl)
        refine ⟨.ref un, rfl, _, rfl, un, _, _, _, rfl, rfl, .of hu, at0, .ref un, rfl, _, rfl, _, rfl, un, _, rfl, .of hu, fun S nS => ?_⟩
        rw [Int.zero_add, cut3 (by rw [List.length_map]; omega), ← List.map_take]
        refine ⟨S, _, rfl, .inl (.of upd_same), rfl, flat_strs _, _, rfl, ?_⟩
        refine ite2 (fun c => ?_) (fun c => ?_)
        · refine q false _ (no (fun z => twice_at hs ((inV_str s _).mp c) ((nodup_inr ss).mp (hss ▸ z.nd))) rfl) ((sm.trans sm2).trans (same_upd nS))
        · exact ⟨_, rfl, sm2.trans (same_upd nS), once_at hs nd fun m => c ((inV_str s _).mpr m)⟩
      · obtain ⟨x5, rfl, sm2, nd⟩ := pv
        rw [List.length_map, List.take_length] at nd
        have ndN : (Nms m).Nodup := by rw [hss]; exact (nodup_inr ss).mpr nd
        have s3 := sm.trans sm2
        refine ⟨_, rfl, qa, _, rfl, .inl (.of (s3 _ _ h2)), _, _, rfl, rfl, _, rfl, ?_⟩
        rw [List.length_map]
        refine ite2 (fun z1 => ?_) (fun z1 => ?_)
        · exact q false G2 (no (fun z => by have := of_decide_eq_true z1; have := z.q30; omega) rfl) s3
        have q30 : m.qs.length ≤ 30 := by
          have : ¬ ((30 : Int) < m.qs.length) := fun z => z1 (decide_eq_true z)
          omega
        refine ⟨_, rfl, r, _, rfl, .inl (.of (s3 _ _ h3)), _, _, rfl, rfl, _, rfl, ?_⟩
        refine ite2 (fun z2 => ?_) (fun z2 => ?_)
        · exact q false G2 (no (fun z => by have := of_decide_eq_true z2; have := z.l40; omega) rfl) s3
        have l40 : m.ls.length ≤ 40 := by
          have : ¬ ((40 : Int) < xs.length) := fun z => z2 (decide_eq_true z)
          omega
        refine ⟨_, rfl, qa, rfl, ⟨_, .of (s3 _ _ h2)⟩, fun D nD => ?_⟩
        refine lc_inv (walk_list (xs := m.qs.map V.str)) (fun i G3 ys => A2 (fun v s => ∃ b : Bool, v = .bl b ∧ (b = true ↔ NM s)) ys (m.qs.take i)) nD (fun H' s => .of (s _ _ (s3 _ _ h2))) (small' (by rw [List.length_map]; omega)) .nil (fun i x G3 Hx ys hi sm4 hD hR y Qt Qf qt qf => ?_) (fun G3 ys sm4 hD hR => ?_)
        · obtain ⟨rfl, hx⟩ := y
          rw [List.getElem?_map] at hx
          obtain ⟨s, hs, rfl⟩ := Option.map_eq_some_iff.mp hx
          refine ⟨rfl, _, rfl, s, rfl, by have := (bm.qs.2 s (mem_at hs)).1; omega, fun c hc => ?_⟩
          refine qt _ _ (Same.refl _) ?_
          rw [take_snoc hs]
          exact A2.snoc ⟨c, rfl, hc⟩ hR
        · rw [List.length_map, List.take_length] at hR
          obtain ⟨bs, rfl, hb⟩ := bools (H := G3) hR
          have s5 := s3.trans sm4
          refine ⟨D, bs, rfl, .of hD, _, rfl, ?_⟩
          refine ite2 (fun c => ?_) (fun c => ?_)
          · refine q false G3 (no (fun z => ?_) rfl) s5
            have : ∀ x ∈ m.qs, NM x := ((okm_iff m).mp z).2.2.2.1
            rw [(all_iff hb).mpr this] at c
            cases c
          · have qn : ∀ x ∈ m.qs, NM x := (all_iff hb).mp (by cases e : bs.all id with | true => rfl | false => rw [e] at c; exact absurd rfl c)
            refine ⟨_, rfl, r, rfl, ⟨_, .of (s5 _ _ h3)⟩, fun D2 nD2 => ?_⟩
            refine lc_inv (walk_list (xs := xs)) (fun i G4 ys => A2 (fun v l => ∃ b : Bool, v = .bl b ∧ (b = true ↔ Fit m.qs.length l)) ys (m.ls.take i)) nD2 (fun H' s => .of (s _ _ (s5 _ _ h3))) (small' (by omega)) .nil (fun i x G4 Hx ys hi sm6 hD2 hR y Qt Qf qt qf => ?_) (fun G4 ys sm6 hD2 hR => ?_)
            · obtain ⟨rfl, hx⟩ := y
              obtain ⟨l, hl, rl⟩ := h4.get hx
              refine ⟨rfl, x, rfl, _, rfl, qa, _, rfl, .inl (.of (sm6 _ _ (s5 _ _ h2))), x, l, (m.qs.map V.str).length, rfl, rl.same (s5.trans sm6), bm.ok l (mem_at hl), fun b G5 hb5 s7 => ?_⟩
              rw [List.length_map] at hb5
              refine qt _ _ s7 ?_
              rw [take_snoc hl]
              exact A2.snoc ⟨b, rfl, hb5⟩ hR
            · rw [el, List.take_length] at hR
              obtain ⟨bs2, rfl, hb2⟩ := bools (H := G4) hR
              refine ⟨D2, bs2, rfl, .of hD2, q _ G4 ?_ (s5.trans sm6)⟩
              rw [all_iff hb2, okm_iff]
              exact ⟨fun z => ⟨ndN, q30, l40, qn, z⟩, fun z => z.2.2.2.2⟩
end
end K05
-- L5
namespace K05
open PySem PySem.Spec PyProof.Rows L2 TL
section
variable {P : Program} {w : World} {K : PySem.W.Frag} {mg : Str → Option Value} {base : Heap}
/-! ### what a law draws -/
def cf (ns : List Int) (m : Nat) : Int := ns.getD m 0
theorem at_map' {ns : List Int} {i : Int} {m : Nat} (e : i = (m : Int)) (h : m < ns.length) : atI (ns.map V.int) i = some (V.int (cf ns m)) := by
  rw [e]
  refine atI_nat ?_
  rw [List.getElem?_map, at_getD (d := 0) h]; rfl
def sp_law_draws (K : PySem.W.Frag) : Sp := fun vs H Q _ => ∃ (a : Addr) (ns : List Int), vs = [.ref a] ∧ SqL K H a (ns.map V.int) ∧ ns.length ≤ 63 ∧ ∀ H' p ds, Same H H' → H p = none → IL H' p ds → ds.length ≤ 4000 → Q (.ref p) H'
theorem ok_law_draws (T : Txt K mg) : FnOk P w K mg base CX0 1 T.law_draws.a T.law_draws.fd ["script"] (sp_law_draws K) := by
  refine T.law_draws.F.ok sc_law_draws (fun vs H Q E h => ?_) (fun cdv A outer s H vs Q E hr h => ?_)
  · obtain ⟨a, ns, rfl, _⟩ := h
    rfl
  · obtain ⟨a, ns, rfl, ha, hl, q⟩ := h
    refine ⟨_, (pss_cons (ps_set (i := 1) sc_law_draws.nd rfl (.inl rfl) (pe_lst pa_nil))
      (pss_cons (ps_for PassesOwn.never rfl (pi_range1 (by rfl) T.m_range (pa_cons (pe_callB (call_min2 rfl) (by rfl) T.m_min (by decide +kernel) (pa_cons pe_int (pa_cons (pe_callB call_len_seq (by rfl) T.m_len (by decide +kernel) (pa_cons (pv 0) pa_nil)) pa_nil))) pa_nil)) (pg_name (i := 2) sc_law_draws.nd rfl (.inl rfl))
        (pss_cons (ps_set (i := 3) sc_law_draws.nd rfl (.inl rfl) (pe_callB call_abs (by rfl) T.m_abs (by decide +kernel) (pa_cons (pe_ix ix_list (pv 0) (pv 2) (fun _ _ => rfl)) pa_nil)))
        (pss_one (ps_if (pt_cmpR op_ge (pv 3) (pe_op op_pow pe_int pe_int) (nomark _))
          (pss_one (ps_for PassesOwn.never rfl (pi_range1 (by rfl) T.m_range (pa_cons pe_int pa_nil)) (pg_name (i := 4) sc_law_draws.nd rfl (.inl rfl))
            (pss_one (ps_if (pt_cmpR op_gt (pv 3) pe_int (nomark _))
              (pss_cons (ps_expr (pe_bm PySem.F.plainAttrs_list PySem.F.slot_list_append PySem.F.type_list_append mt_append (pv 1) (pa_cons (pe_op op_mod (pe_callTy call_int1 (by rfl) T.m_int (by decide +kernel) (pa_cons (pv 3) pa_nil)) pe_int) pa_nil)))
              (pss_one (ps_set (i := 3) sc_law_draws.nd rfl (.inl rfl) (pe_op op_fdiv (pv 3) pe_int))))
              pss_nil))))
          (pss_cons (ps_set (i := 5) sc_law_draws.nd rfl (.inl rfl) (pe_op op_mod (pe_callTy call_int1 (by rfl) T.m_int (by decide +kernel) (pa_cons (pe_op op_add (pe_op op_mul (pv 3) pe_int) (pe_op op_mul (pe_op op_add (pv 2) pe_int) pe_int)) pa_nil)) pe_int))
          (pss_cons (ps_set (i := 5) sc_law_draws.nd rfl (.inl rfl) (pe_op op_mod (pe_callTy call_int1 (by rfl) T.m_int (by decide +kernel) (pa_cons (pe_op op_add (pe_op op_add (pe_op op_mul (pv 5) pe_int) (pe_op op_mul pe_int (pv 2))) pe_int) pa_nil)) pe_int))
          (pss_cons (ps_expr (pe_bm PySem.F.plainAttrs_list PySem.F.slot_list_append PySem.F.type_list_append mt_append (pv 1) (pa_cons (pe_op op_mod (pe_callTy call_int1 (by rfl) T.m_int (by decide +kernel) (pa_cons (pv 5) pa_nil)) pe_int) pa_nil)))
          (pss_one (ps_expr (pe_bm PySem.F.plainAttrs_list PySem.F.slot_list_append PySem.F.type_list_append mt_append (pv 1) (pa_cons (pe_op op_mod (pe_callTy call_int1 (by rfl) T.m_int (by decide +kernel) (pa_cons (pe_op op_fdiv (pv 5) pe_int) pa_nil)) pe_int) pa_nil)))))))))))
      (pss_one (ps_ret (pv 1))))), ?_⟩
    refine ⟨Nat.zero_le _, fun p hp => ?_⟩
    have s0 := same_upd (o := .lst []) hp
    obtain ⟨L, hL, eL⟩ : ∃ L : Nat, L ≤ ns.length ∧ L ≤ 63 ∧ (if ((ns.map V.int).length : Int) < 63 then ((ns.map V.int).length : Int) else 63) = (L : Int) := by
      refine ⟨min ns.length 63, Nat.min_le_left _ _, Nat.min_le_right _ _, ?_⟩
      rw [List.length_map]
      split <;> omega
    refine ⟨.ref a, rfl, a, _, rfl, .inl (s0.seq ha), 63, _, rfl, (L : Int), congrArg (fun z => [V.int z]) eL.2, by omega, by omega, ?_⟩
    refine for_range (n := (L : Int).toNat) (lo := 0) (fun i σ H' => Same H H' ∧ ∃ ds v2 v3 v4 v5, σ = [some (.ref a), some (.ref p), v2, v3, v4, v5] ∧ IL H' p ds ∧ ds.length ≤ 60 * i) ⟨s0, [], none, none, none, none, rfl, upd_same, Nat.zero_le _⟩ (fun i σ H' hi hP => ?_) (fun σ H' hP => ?_)
    · obtain ⟨sm, ds, v2, v3, v4, v5, rfl, hd, hn⟩ := hP
      have hi' : i < ns.length := by omega
      refine ⟨.ref a, rfl, _, rfl, a, _, _, _, rfl, rfl, sm.seq ha, at_map' (m := i) (by omega) hi', _, rfl, ?_⟩
      obtain ⟨r, hr1, er⟩ : ∃ r : Int, 0 ≤ r ∧ (if cf ns i < 0 then -cf ns i else cf ns i) = r := ⟨_, by split <;> omega, rfl⟩
      rw [er]
      refine ⟨_, rfl, _, _, rfl, rfl, ⟨by decide, by decide, by decide⟩, _, _, rfl, rfl, _, rfl, ?_⟩
      refine ite2 (fun _ => ?_) (fun hlt => ?_)
      · refine ⟨60, rfl, by decide, by decide, ?_⟩
        refine for_range (n := 60) (lo := 0) (fun j σ H' => Same H H' ∧ ∃ ds v2 v4 v5 r, σ = [some (.ref a), some (.ref p), v2, some (.int r), v4, v5] ∧ 0 ≤ r ∧ IL H' p ds ∧ ds.length ≤ 60 * i + j) ⟨sm, ds, _, _, _, r, rfl, hr1, hd, hn⟩ (fun j σ H' hj hP => ?_) (fun σ H' hP => ?_)
        · obtain ⟨sm, ds, v2, v4, v5, r, rfl, hr1, hd, hn⟩ := hP
          refine ⟨_, rfl, _, _, rfl, rfl, _, rfl, ?_⟩
          refine ite2 (fun _ => ?_) (fun _ => ⟨sm, ds, _, _, _, r, rfl, hr1, hd, by omega⟩)
          refine ⟨.ref p, rfl, .inl ⟨rfl, _, hd.sq⟩, _, rfl, .inl ⟨_, rfl, _, _, rfl, rfl, (by show (0 : Int) < _; decide), p, _, _, rfl, rfl, hd, by rw [List.length_map]; exact small' (by omega), ?_⟩⟩
          rw [app_ints]
          refine ⟨_, rfl, _, _, rfl, rfl, ⟨by decide, by decide⟩, ?_⟩
          exact ⟨same_over sm hp, _, _, _, _, _, rfl, by omega, il_upd, by rw [List.length_append]; show _ + 1 ≤ _; omega⟩
        · obtain ⟨sm, ds, v2, v4, v5, r, rfl, hr1, hd, hn⟩ := hP
          exact ⟨sm, ds, _, _, _, _, rfl, hd, by omega⟩
      · have hr2 : r < 10 ^ 18 := by
          have e : ((10 : Int) ^ (18 : Int).toNat) = 10 ^ 18 := rfl
          rw [e] at hlt
          have := of_decide_eq_false (Bool.eq_false_iff.mpr hlt)
          omega
        refine ⟨_, rfl, _, _, rfl, rfl, .inl ⟨by omega, by omega⟩, _, rfl, _, _, rfl, rfl, _, _, rfl, rfl, .inr ⟨by decide, by decide⟩, _, _, rfl, rfl, .inl ⟨_, rfl, _, _, rfl, rfl, (by show (0 : Int) < _; decide), ?_⟩⟩
        refine ⟨_, rfl, _, _, rfl, rfl, .inr ⟨by decide, by decide⟩, _, rfl, _, _, rfl, rfl, .inl ⟨by decide, by decide⟩, _, _, rfl, rfl, _, _, rfl, rfl, .inl ⟨_, rfl, _, _, rfl, rfl, (by show (0 : Int) < _; decide), ?_⟩⟩
        refine ⟨.ref p, rfl, .inl ⟨rfl, _, hd.sq⟩, _, rfl, .inl ⟨_, rfl, _, _, rfl, rfl, (by show (0 : Int) < _; decide), p, _, _, rfl, rfl, hd, by rw [List.length_map]; exact small' (by omega), ?_⟩⟩
        rw [app_ints]
        refine ⟨.ref p, rfl, .inl ⟨rfl, _, il_upd.sq⟩, _, rfl, _, _, rfl, rfl, ⟨by decide, by decide⟩, .inl ⟨_, rfl, _, _, rfl, rfl, (by show (0 : Int) < _; decide), p, _, _, rfl, rfl, il_upd, by rw [List.length_map, List.length_append]; exact small' (by show _ + 1 < _; omega), ?_⟩⟩
        rw [app_ints]
        exact ⟨same_over (same_over sm hp) hp, _, _, _, _, _, rfl, il_upd, by rw [List.length_append, List.length_append]; show _ + 1 + 1 ≤ _; omega⟩
    · obtain ⟨sm, ds, v2, v3, v4, v5, rfl, hd, hn⟩ := hP
      exact ⟨_, rfl, q H' p ds sm hp hd (by omega)⟩
def sp_law_at : Sp := fun vs H Q _ => ∃ (a : Addr) (ds : List Int) (k many : Int), vs = [.ref a, .int k, .int many] ∧ IL H a ds ∧ 0 ≤ k ∧ 0 < many ∧ ∀ r, 0 ≤ r → r < many → Q (.int r) H
theorem ok_law_at (T : Txt K mg) : FnOk P w K mg base CX0 1 T.law_at.a T.law_at.fd ["draws", "k", "many"] sp_law_at := by
  refine T.law_at.F.ok sc_law_at (fun vs H Q E h => ?_) (fun cdv A outer s H vs Q E hr h => ?_)
  · obtain ⟨a, ds, k, m, rfl, _⟩ := h
    rfl
  · obtain ⟨a, ds, k, m, rfl, ha, hk, hm, q⟩ := h
    refine ⟨_, (pss_cons (ps_if (pt_cmpR op_lt (pv 1) (pe_callB call_len_seq (by rfl) T.m_len (by decide +kernel) (pa_cons (pv 0) pa_nil)) (nomark _))
        (pss_one (ps_ret (pe_op op_mod (pe_callTy call_int1 (by rfl) T.m_int (by decide +kernel) (pa_cons (pe_ix ix_list (pv 0) (pv 1) (fun _ _ => rfl)) pa_nil)) (pv 2))))
        pss_nil)
      (pss_one (ps_ret pe_int))), ?_⟩
    refine ⟨_, rfl, .ref a, rfl, a, _, rfl, .inl ha.sq, _, _, rfl, rfl, _, rfl, ?_⟩
    rw [List.length_map]
    refine ite2 (fun h => ?_) (fun _ => ?_)
    · have hlt := of_decide_eq_true h
      refine ⟨.ref a, rfl, _, rfl, a, _, _, _, rfl, rfl, ha.sq, at_map' (m := k.toNat) (by omega) (by omega), .inl ⟨_, rfl, _, rfl, _, _, rfl, rfl, hm, ?_⟩⟩
      exact q _ (Int.emod_nonneg _ (by omega)) (Int.emod_lt_of_pos _ hm)
    · exact q 0 (Int.le_refl _) hm
def sp_law_mixed (K : PySem.W.Frag) : Sp := fun vs H Q _ => ∃ (a : Addr) (ds : List Int) (many : Nat), vs = [.ref a, .int (many : Nat)] ∧ IL H a ds ∧ ds.length ≤ 4000 ∧ many ≤ 1000 ∧ ∀ H' p es, Same H H' → H p = none → IL H' p es → Q (.ref p) H'
theorem ok_law_mixed (T : Txt K mg) : FnOk P w K mg base CX0 1 T.law_mixed.a T.law_mixed.fd ["draws", "many"] (sp_law_mixed K) := by
  refine T.law_mixed.F.ok sc_law_mixed (fun vs H Q E h => ?_) (fun cdv A outer s H vs Q E hr h => ?_)
  · obtain ⟨a, ds, m, rfl, _⟩ := h
    rfl
  · obtain ⟨a, ds, many, rfl, ha, hd, hm, q⟩ := h
    refine ⟨_, (pss_cons (ps_set (i := 2) sc_law_mixed.nd rfl (.inl rfl) (pe_lst pa_nil))
      (pss_cons (ps_for PassesOwn.never rfl (pi_range1 (by rfl) T.m_range (pa_cons (pv 1) pa_nil)) (pg_name (i := 3) sc_law_mixed.nd rfl (.inl rfl))
        (pss_cons (ps_set (i := 4) sc_law_mixed.nd rfl (.inl rfl) pe_int)
        (pss_cons (ps_if (pt_cmpR op_gt (pe_callB call_len_seq (by rfl) T.m_len (by decide +kernel) (pa_cons (pv 0) pa_nil)) pe_int (nomark _))
          (pss_one (ps_set (i := 4) sc_law_mixed.nd rfl (.inl rfl) (pe_ix ix_list (pv 0) (pe_op op_mod (pe_callTy call_int1 (by rfl) T.m_int (by decide +kernel) (pa_cons (pv 3) pa_nil)) (pe_callB call_len_seq (by rfl) T.m_len (by decide +kernel) (pa_cons (pv 0) pa_nil))) (fun _ _ => rfl))))
          pss_nil)
        (pss_cons (ps_if (pt_cmpR op_ge (pv 3) (pe_callB call_len_seq (by rfl) T.m_len (by decide +kernel) (pa_cons (pv 0) pa_nil)) (nomark _))
          (pss_one (ps_set (i := 4) sc_law_mixed.nd rfl (.inl rfl) (pe_op op_mod (pe_callTy call_int1 (by rfl) T.m_int (by decide +kernel) (pa_cons (pe_op op_fdiv (pe_callTy call_int1 (by rfl) T.m_int (by decide +kernel) (pa_cons (pe_op op_add (pe_op op_mul (pv 4) pe_int) (pe_op op_mul (pv 3) pe_int)) pa_nil)) pe_int) pa_nil)) pe_int)))
          pss_nil)
        (pss_one (ps_expr (pe_bm PySem.F.plainAttrs_list PySem.F.slot_list_append PySem.F.type_list_append mt_append (pv 2) (pa_cons (pv 4) pa_nil))))))))
      (pss_one (ps_ret (pv 2))))), ?_⟩
    refine ⟨by show 0 ≤ sizeLine; decide, fun p np => ⟨_, rfl, (many : Nat), rfl, by omega, by omega, ?_⟩⟩
    rw [Int.toNat_natCast]
    refine for_it (walk_range (lo := 0) (n := many)) (fun i σ G => ∃ (v3 v4 : Option V) (es : List Int), σ = [some (.ref a), some (.int (many : Nat)), some (.ref p), v3, v4] ∧ Same H G ∧ IL G p es ∧ es.length = i) ⟨none, none, [], rfl, same_upd np, upd_same, rfl⟩ (fun _ _ _ _ _ => trivial) (fun i x σ G G' hi pv y => ?_) (fun σ G pv => ?_)
    · obtain ⟨v3, v4, es, rfl, sm, he, hn⟩ := pv
      obtain ⟨rfl, rfl⟩ := y
      have ha2 : SqL K G' a (ds.map V.int) := (ha.same sm).sq
      have fin : ∀ (x3 : Option V) (val : Int), ∃ (v3' v4' : Option V) (es' : List Int), [some (V.ref a), some (V.int (many : Nat)), some (V.ref p), x3, some (V.int val)] = [some (.ref a), some (.int (many : Nat)), some (.ref p), v3', v4'] ∧ Same H (upd G' p (.lst (es.map V.int ++ [V.int val]))) ∧ IL (upd G' p (.lst (es.map V.int ++ [V.int val]))) p es' ∧ es'.length = i + 1 := fun x3 val =>
        ⟨_, _, es ++ [val], rfl, same_over sm np, by unfold IL; rw [upd_same, List.map_append]; rfl, by rw [List.length_append, hn]; rfl⟩
      have lt : (es.map V.int).length < sizeLine := small' (by rw [List.length_map]; omega)
      refine ⟨.ref a, rfl, a, _, rfl, .inl ha2, _, _, rfl, rfl, _, rfl, ?_⟩
      rw [List.length_map]
      refine ite2 (fun h1 => ?_) (fun h1 => ?_)
      · have h1 := of_decide_eq_true h1
        have b0 : 0 ≤ (0 + (i : Int)) % ((ds.map V.int).length : Int) := Int.emod_nonneg _ (by rw [List.length_map]; omega)
        have b1 : (0 + (i : Int)) % ((ds.map V.int).length : Int) < (ds.map V.int).length := Int.emod_lt_of_pos _ (by rw [List.length_map]; omega)
        have b2 : ((ds.map V.int).length : Int) = ds.length := by rw [List.length_map]
        obtain ⟨j, hj, ej⟩ : ∃ j : Nat, j < ds.length ∧ (0 + (i : Int)) % ((ds.map V.int).length : Int) = (j : Int) := ⟨((0 + (i : Int)) % ((ds.map V.int).length : Int)).toNat, by omega, (Int.toNat_of_nonneg b0).symm⟩
        refine ⟨.ref a, rfl, _, rfl, .inl ⟨_, rfl, .ref a, rfl, a, _, rfl, .inl ha2, _, _, rfl, rfl, by rw [List.length_map]; exact h1, a, _, _, _, rfl, rfl, ha2, at_map' (m := j) ej hj, ?_⟩⟩
        refine ⟨_, rfl, .ref a, rfl, a, _, rfl, .inl ha2, _, _, rfl, rfl, _, rfl, ite2 (fun _ => ?_) (fun _ => ?_)⟩
        · refine ⟨_, rfl, _, _, rfl, rfl, .inr ⟨by decide, by decide⟩, _, rfl, _, _, rfl, rfl, .inr ⟨by decide, by decide⟩, _, _, rfl, rfl, .inl ⟨_, rfl, _, _, rfl, rfl, ⟨by decide, by decide⟩, .inl ⟨_, rfl, _, _, rfl, rfl, (by show (0 : Int) < _; decide), ?_⟩⟩⟩
          exact ⟨.ref p, rfl, .inl ⟨rfl, _, he.sq⟩, _, rfl, p, _, _, rfl, rfl, he, lt, fin _ _⟩
        · exact ⟨.ref p, rfl, .inl ⟨rfl, _, he.sq⟩, _, rfl, p, _, _, rfl, rfl, he, lt, fin _ _⟩
      · refine ⟨_, rfl, .ref a, rfl, a, _, rfl, .inl ha2, _, _, rfl, rfl, _, rfl, ite2 (fun _ => ?_) (fun _ => ?_)⟩
        · refine ⟨_, rfl, _, _, rfl, rfl, .inr ⟨by decide, by decide⟩, _, rfl, _, _, rfl, rfl, .inr ⟨by decide, by decide⟩, _, _, rfl, rfl, .inl ⟨_, rfl, _, _, rfl, rfl, ⟨by decide, by decide⟩, .inl ⟨_, rfl, _, _, rfl, rfl, (by show (0 : Int) < _; decide), ?_⟩⟩⟩
          exact ⟨.ref p, rfl, .inl ⟨rfl, _, he.sq⟩, _, rfl, p, _, _, rfl, rfl, he, lt, fin _ _⟩
        · exact ⟨.ref p, rfl, .inl ⟨rfl, _, he.sq⟩, _, rfl, p, _, _, rfl, rfl, he, lt, fin _ _⟩
    · obtain ⟨v3, v4, es, rfl, sm, he, hn⟩ := pv
      exact ⟨_, rfl, q G p es sm np he⟩
/-! ### texts -/
theorem GS.mono {n m : Nat} {s : Str} (h : GS n s) (l : n ≤ m) : GS m s := ⟨Nat.le_trans h.1 l, h.2⟩
theorem GS.add {n m : Nat} {s t : Str} (a : GS n s) (b : GS m t) : GS (n + m) (s ++ t) := by
  refine ⟨by rw [Str.length_append]; exact Nat.add_le_add a.1 b.1, fun c hc => ?_⟩
  rw [Str.cps_append, Array.toList_append] at hc
  exact (List.mem_append.mp hc).elim (a.2 c) (b.2 c)
theorem GS.one {c : Nat} (h : c < 200) : GS 1 ⟨#[c]⟩ := ⟨Nat.le_refl _, fun x hx => by simp at hx; omega⟩
theorem mem_reps (c : Array Nat) : ∀ (k : Nat) (acc : Array Nat), ∀ x ∈ ((List.replicate k c).foldl (· ++ ·) acc).toList, x ∈ acc.toList ∨ x ∈ c.toList
  | 0, acc, x, h => .inl h
  | k + 1, acc, x, h => by
    rw [List.replicate_succ, List.foldl_cons] at h
    rcases mem_reps c k _ x h with h | h
    · rw [Array.toList_append] at h
      exact List.mem_append.mp h
    · exact .inr h
theorem GS.mul {s : Str} {n : Int} {k : Nat} (h : GS 1 s) (hn : n ≤ (k : Int)) : GS k (Txt.mul s n) := by
  refine ⟨?_, fun c hc => h.2 c ?_⟩
  · have e := len_mul s n
    have h1 : (s.length : Int) ≤ 1 := by have := h.1; omega
    have h0 : (0 : Int) ≤ s.length := by omega
    by_cases hz : n < 0
    · rw [if_pos (decide_eq_true hz), Int.mul_zero] at e; omega
    · rw [if_neg (fun z => hz (of_decide_eq_true z))] at e
      have : (s.length : Int) * n ≤ 1 * n := Int.mul_le_mul_of_nonneg_right h1 (by omega)
      omega
  · unfold Txt.mul at hc
    split at hc
    · simp [Str.empty] at hc
    · split at hc
      · exact hc
      · rcases mem_reps _ _ _ c hc with z | z
        · simp at z
        · exact z
theorem at_ex {α : Type} {xs : List α} {i : Int} (h0 : 0 ≤ i) (h1 : i < xs.length) : ∃ c, atI xs i = some c ∧ c ∈ xs := by
  obtain ⟨n, rfl⟩ : ∃ n : Nat, i = (n : Int) := ⟨i.toNat, by omega⟩
  have h : n < xs.length := by omega
  exact ⟨xs[n], atI_nat (by simp [h]), List.getElem_mem h⟩
theorem sign {z : Str} {n : Nat} (hz : z.cps.toList.length = n) (hg : ∀ c ∈ z.cps.toList, c < 200) {i : Int} (h0 : 0 ≤ i) (h1 : i < n) : ∃ c, atI z.cps.toList i = some c ∧ c < 200 := by
  obtain ⟨c, h, m⟩ := at_ex (xs := z.cps.toList) h0 (by rw [hz]; exact h1)
  exact ⟨c, h, hg c m⟩
theorem let26 {i : Int} (h0 : 0 ≤ i) (h1 : i < 26) : ∃ c, atI ("abcdefghijklmnopqrstuvwxyz" : Str).cps.toList i = some c ∧ c < 200 := sign (n := 26) (by decide +kernel) (by decide +kernel) h0 h1
theorem let12 {i : Int} (h0 : 0 ≤ i) (h1 : i < 12) : ∃ c, atI ("0123456789ab" : Str).cps.toList i = some c ∧ c < 200 := sign (n := 12) (by decide +kernel) (by decide +kernel) h0 h1
theorem let2 {i : Int} (h0 : 0 ≤ i) (h1 : i < 2) : ∃ c, atI ("ab" : Str).cps.toList i = some c ∧ c < 200 := sign (n := 2) (by decide +kernel) (by decide +kernel) h0 h1
theorem gs_int : ∀ m : Fin 201, (toString ((m.val : Nat) : Int) : Str).length ≤ 3 ∧ ∀ c ∈ (toString ((m.val : Nat) : Int) : Str).cps.toList, c < 200 := by decide +kernel
theorem GS.int {m : Nat} (h : m ≤ 200) : GS 3 (toString ((m : Nat) : Int) : Str) := gs_int ⟨m, by omega⟩
theorem p0 {n : Int} (h : 0 < n) (x : Int) : 0 ≤ x % n := Int.emod_nonneg _ (by omega)
/-! ### a drawn name -/
theorem let26q {i : Int} (h0 : 0 ≤ i) (h1 : i < 26) : ∃ c, atI ("abcdefghijklmnopqrstuvwxyz" : Str).cps.toList i = some c ∧ ltr c = true := by
  obtain ⟨c, h, m⟩ := at_ex (xs := ("abcdefghijklmnopqrstuvwxyz" : Str).cps.toList) h0 (by rw [show ("abcdefghijklmnopqrstuvwxyz" : Str).cps.toList.length = 26 by decide +kernel]; exact h1)
  exact ⟨c, h, by rw [← in_letters]; exact decide_eq_true m⟩
theorem let12q {i : Int} (h0 : 0 ≤ i) (h1 : i < 12) : ∃ c, atI ("0123456789ab" : Str).cps.toList i = some c ∧ x2ok c = true := by
  obtain ⟨c, h, m⟩ := at_ex (xs := ("0123456789ab" : Str).cps.toList) h0 (by rw [show ("0123456789ab" : Str).cps.toList.length = 12 by decide +kernel]; exact h1)
  exact ⟨c, h, (show ∀ c ∈ ("0123456789ab" : Str).cps.toList, x2ok c = true by decide +kernel) c m⟩
theorem tl_z (n : Int) : tl (Txt.mul ("z" : Str) n) = List.replicate n.toNat 122 := mul_one_list 122 n
/-- a name of a quantity, with a second sign of its own -/
def QN1 (s : Str) : Prop := QN s ∧ (tl s)[1]? ≠ some 113
def sp_law_name : Sp := fun vs H Q _ => ∃ (a : Addr) (ds : List Int) (k : Int), vs = [.ref a, .int k] ∧ IL H a ds ∧ 0 ≤ k ∧ ∀ s, QN1 s → Q (.str s) H
theorem ok_law_name (T : Txt K mg) : FnOk P w K mg base CX0 2 T.law_name.a T.law_name.fd ["draws", "k"] sp_law_name := by
  refine T.law_name.F.ok sc_law_name (fun vs H Q E h => ?_) (fun cdv A outer s H vs Q E hr h => ?_)
  · obtain ⟨a, ds, k, rfl, _⟩ := h
    rfl
  · obtain ⟨a, ds, k, rfl, ha, hk, q⟩ := h
    refine ⟨_, (pss_cons (ps_set (i := 2) sc_law_name.nd rfl (.inl rfl) (pe_call (ok_law_at T) (hr.mono (by decide)) (by rfl) T.law_at.g T.law_at.F.kp T.law_at.b .nil pass0 (pa_cons (pv 0) (pa_cons (pv 1) (pa_cons pe_int pa_nil)))))
      (pss_cons (ps_set (i := 3) sc_law_name.nd rfl (.inl rfl) pe_str)
      (pss_cons (ps_set (i := 4) sc_law_name.nd rfl (.inl rfl) (pe_op op_add_str (pe_ix ix_str (pv 3) (pe_op op_mod (pe_callTy call_int1 (by rfl) T.m_int (by decide +kernel) (pa_cons (pv 2) pa_nil)) pe_int) (fun _ _ => rfl)) (pe_op op_mulS (pe_ix ix_str pe_str (pe_op op_mod (pe_callTy call_int1 (by rfl) T.m_int (by decide +kernel) (pa_cons (pe_op op_fdiv (pv 2) pe_int) pa_nil)) pe_int) (fun _ _ => rfl)) (pe_op op_mod (pe_callTy call_int1 (by rfl) T.m_int (by decide +kernel) (pa_cons (pe_op op_fdiv (pv 2) pe_int) pa_nil)) pe_int))))
      (pss_cons (ps_if (pt_cmpR op_eq (pe_op op_mod (pe_callTy call_int1 (by rfl) T.m_int (by decide +kernel) (pa_cons (pe_op op_fdiv (pv 2) pe_int) pa_nil)) pe_int) pe_int (nomark _))
        (pss_one (ps_set (i := 4) sc_law_name.nd rfl (.inl rfl) (pe_op op_add_str (pe_op op_add_str (pv 4) pe_str) (pe_ix ix_str (pv 3) (pe_op op_mod (pe_callTy call_int1 (by rfl) T.m_int (by decide +kernel) (pa_cons (pe_op op_fdiv (pv 2) pe_int) pa_nil)) pe_int) (fun _ _ => rfl)))))
        pss_nil)
      (pss_cons (ps_if (pt_cmpR op_eq (pe_op op_mod (pe_callTy call_int1 (by rfl) T.m_int (by decide +kernel) (pa_cons (pe_op op_fdiv (pv 2) pe_int) pa_nil)) pe_int) pe_int (nomark _))
        (pss_one (ps_set (i := 4) sc_law_name.nd rfl (.inl rfl) (pe_op op_add_str (pv 4) (pe_op op_mulS pe_str (pe_op op_sub pe_int (pe_callB call_len_str (by rfl) T.m_len (by decide +kernel) (pa_cons (pv 4) pa_nil)))))))
        pss_nil)
      (pss_one (ps_ret (pv 4)))))))), ?_⟩
    refine ⟨.ref a, rfl, _, rfl, a, ds, k, 60000, rfl, ha, hk, by decide, fun cell c0 c1 => ?_⟩
    obtain ⟨x1, a1, g1⟩ := let26q (i := cell % 26) (by omega) (by omega)
    obtain ⟨x2, a2, g2⟩ := let12q (i := cell / 26 % 12) (by omega) (by omega)
    obtain ⟨x3, a3, g3⟩ := let26q (i := cell / 3744 % 26) (by omega) (by omega)
    refine ⟨_, rfl, _, rfl, .inl ⟨_, rfl, _, _, rfl, rfl, (by show (0 : Int) < _; decide), _, _, x1, rfl, rfl, (by decide +kernel), a1, ?_⟩⟩
    refine ⟨_, rfl, _, _, rfl, rfl, ⟨by decide, by decide⟩, .inl ⟨_, rfl, _, _, rfl, rfl, (by show (0 : Int) < _; decide), _, _, x2, rfl, rfl, (by decide +kernel), a2, ?_⟩⟩
    -- the middle
    have lm : (Txt.mul (⟨#[x2]⟩ : Str) (cell / 312 % 3)).length ≤ 2 := by rw [len_tl, show tl (Txt.mul (⟨#[x2]⟩ : Str) (cell / 312 % 3)) = _ from mul_one_list x2 _, List.length_replicate]; omega
    refine ⟨_, rfl, _, _, rfl, rfl, ⟨by decide, by decide⟩, .inl ⟨_, rfl, _, _, rfl, rfl, (by show (0 : Int) < _; decide), _, _, rfl, rfl, Nat.le_refl _, by omega, by omega, _, _, rfl, rfl, small (by show 1 + _ ≤ _; omega), ?_⟩⟩
    refine ⟨_, rfl, _, _, rfl, rfl, ⟨by decide, by decide⟩, .inl ⟨_, rfl, _, _, rfl, rfl, (by show (0 : Int) < _; decide), rfl, _, rfl, ?_⟩⟩
    have l12 : ((⟨#[x1]⟩ : Str) ++ Txt.mul ⟨#[x2]⟩ (cell / 312 % 3)).length ≤ 3 := by rw [Str.length_append]; show 1 + _ ≤ _; omega
    have t12 : tl ((⟨#[x1]⟩ : Str) ++ Txt.mul ⟨#[x2]⟩ (cell / 312 % 3)) = x1 :: List.replicate (cell / 312 % 3).toNat x2 := by
      rw [tl_append, show tl (Txt.mul (⟨#[x2]⟩ : Str) (cell / 312 % 3)) = _ from mul_one_list x2 _]; rfl
    generalize (⟨#[x1]⟩ : Str) ++ Txt.mul ⟨#[x2]⟩ (cell / 312 % 3) = wd at l12 t12
    have qn : ∀ (s : Str) (D : List Nat) (m : Nat), (D = [] ∨ ∃ x3, ltr x3 = true ∧ D = [46, x3]) → tl s = tl wd ++ (D ++ List.replicate m 122) → s.length ≤ 200 → Q (.str s) H := fun s D m hD e hl => by
      refine q s (drawn_qn (x1 := x1) (x2 := x2) (k := (cell / 312 % 3).toNat) (m := m) (D := D) ?_ g1 g2 hD hl)
      rw [e, t12]; rfl
    have zs : ∀ (w2 : Str), w2.length ≤ 5 → (w2 ++ Txt.mul ("z" : Str) (200 - (w2.length : Nat))).length = 200 ∧ (Txt.mul ("z" : Str) (200 - (w2.length : Nat))).length ≤ 200 := fun w2 h => by
      have : (Txt.mul ("z" : Str) (200 - (w2.length : Nat))).length = 200 - w2.length := by rw [len_tl, tl_z, List.length_replicate]; omega
      rw [Str.length_append]
      omega
    refine ite2 (fun _ => ?_) (fun _ => ?_)
    · have e3 : tl (wd ++ ("." : Str) ++ (⟨#[x3]⟩ : Str)) = tl wd ++ [46, x3] := by
        rw [tl_append, tl_append, show tl (".": Str) = [46] by decide +kernel, List.append_assoc]; rfl
      have l3 : (wd ++ ("." : Str) ++ (⟨#[x3]⟩ : Str)).length = wd.length + 2 := by rw [len_tl, e3, List.length_append, ← len_tl]; rfl
      have l2 : (wd ++ ("." : Str)).length = wd.length + 1 := by rw [Str.length_append]; rfl
      refine ⟨_, rfl, _, _, rfl, rfl, small (by show wd.length + 1 ≤ _; omega), _, rfl, _, rfl, _, _, rfl, rfl, ⟨by decide, by decide⟩, .inl ⟨_, rfl, _, _, rfl, rfl, (by show (0 : Int) < _; decide), _, _, x3, rfl, rfl, (by decide +kernel), a3, _, _, rfl, rfl, small (by rw [l2]; show _ + 1 ≤ _; omega), ?_⟩⟩
      refine ⟨_, rfl, _, _, rfl, rfl, ⟨by decide, by decide⟩, .inl ⟨_, rfl, _, _, rfl, rfl, (by show (0 : Int) < _; decide), rfl, _, rfl, ?_⟩⟩
      refine ite2 (fun _ => ?_) (fun _ => ?_)
      · obtain ⟨z1, z2⟩ := zs _ (show (wd ++ ("." : Str) ++ (⟨#[x3]⟩ : Str)).length ≤ 5 by omega)
        refine ⟨_, rfl, _, rfl, _, rfl, small (by omega), _, _, rfl, rfl, _, _, rfl, rfl, by decide, by omega, by omega, _, _, rfl, rfl, small (by omega), _, rfl, ?_⟩
        refine qn _ [46, x3] (200 - (wd ++ ("." : Str) ++ (⟨#[x3]⟩ : Str)).length) (.inr ⟨x3, g3, rfl⟩) ?_ (Nat.le_of_eq z1)
        rw [tl_append, e3, tl_z, List.append_assoc]
        congr 3
        omega
      · refine ⟨_, rfl, qn _ [46, x3] 0 (.inr ⟨x3, g3, rfl⟩) (by rw [e3]; simp) (by omega)⟩
    · refine ⟨_, rfl, _, _, rfl, rfl, ⟨by decide, by decide⟩, .inl ⟨_, rfl, _, _, rfl, rfl, (by show (0 : Int) < _; decide), rfl, _, rfl, ?_⟩⟩
      refine ite2 (fun _ => ?_) (fun _ => ?_)
      · obtain ⟨z1, z2⟩ := zs wd (by omega)
        refine ⟨_, rfl, _, rfl, _, rfl, small (by omega), _, _, rfl, rfl, _, _, rfl, rfl, by decide, by omega, by omega, _, _, rfl, rfl, small (by omega), _, rfl, ?_⟩
        refine qn _ [] (200 - wd.length) (.inl rfl) ?_ (Nat.le_of_eq z1)
        rw [tl_append, tl_z, List.nil_append]
        congr 2
        omega
      · exact ⟨_, rfl, qn _ [] 0 (.inl rfl) (by simp) (by omega)⟩
end
end K05
-- O5
namespace K05
open PySem PySem.Spec PyProof.Rows L2 TL
section
variable {P : Program} {w : World} {K : PySem.W.Frag} {mg : Str → Option Value} {base : Heap}
theorem nm_sign {c : Nat} : ∀ {l : List Nat} {d : Bool}, aut d l = true → c ∈ l → c < 200
  | [], _, _, h => (nomatch h)
  | a :: r, d, e, h => by
    rw [aut_step] at e
    split at e
    · cases e
    · rename_i z
      rcases List.mem_cons.mp h with rfl | h
      · cases hs : (sgn c || decide (c = 46)) with
        | false => rw [hs] at z; simp at z
        | true =>
          unfold sgn ltr at hs
          simp only [Bool.or_eq_true, Bool.and_eq_true, decide_eq_true_eq] at hs
          omega
      · exact nm_sign e h
theorem NM.gs {s : Str} (h : NM s) : GS 200 s := ⟨h.2.1, fun c hc => nm_sign h.2.2 hc⟩
/-- the quantities drawn in the first i turns -/
structure QsI (i : Nat) (qs : List Str) : Prop where
  nd : qs.Nodup
  qn : ∀ q ∈ qs, QN q
  z : ∀ q ∈ qs, (tl q)[1]? ≠ some 113 ∨ ∃ t, t < i ∧ q = zqN t
theorem QsI.snoc {i : Nat} {qs : List Str} (h : QsI i qs) {nm : Str} (q : QN nm) (f : nm ∉ qs) (z : (tl nm)[1]? ≠ some 113 ∨ nm = zqN i) : QsI (i + 1) (qs ++ [nm]) := by
  refine ⟨?_, fun q hq => ?_, fun q hq => ?_⟩
  · rw [List.nodup_append]
    refine ⟨h.nd, by simp, fun x hx y hy e => ?_⟩
    rw [List.mem_singleton.mp hy] at e
    exact f (e ▸ hx)
  · rcases List.mem_append.mp hq with hq | hq
    · exact h.qn q hq
    · rw [List.mem_singleton.mp hq]; assumption
  · rcases List.mem_append.mp hq with hq | hq
    · exact (h.z q hq).imp id fun ⟨t, a, b⟩ => ⟨t, by omega, b⟩
    · rw [List.mem_singleton.mp hq]
      exact z.imp id fun e => ⟨i, by omega, e⟩
theorem QsI.fresh {i : Nat} {qs : List Str} (h : QsI i qs) (hi : i < 41) : zqN i ∉ qs := fun m => by
  rcases h.z _ m with e | ⟨t, ht, e⟩
  · exact e (zq_f hi).two
  · have := congrArg (fun s => dval (tl s)) e
    simp only [(zq_f hi).val, (zq_f (show t < 41 by omega)).val] at this
    omega
def sp_law_quantities : Sp := fun vs H Q _ => ∃ (a : Addr) (ds : List Int) (k : Int) (many : Nat), vs = [.ref a, .int k, .int (many : Nat)] ∧ IL H a ds ∧ 0 ≤ k ∧ many ≤ 30 ∧
  ∀ (H' : Hp) (p : Addr) (qs : List Str), Same H H' → H p = none → H' p = some (.lst (qs.map V.str)) → qs.length = many → QsI many qs → Q (.ref p) H'
theorem ok_law_quantities (T : Txt K mg) : FnOk P w K mg base CX0 3 T.law_quantities.a T.law_quantities.fd ["draws", "k", "many"] sp_law_quantities := by
  refine T.law_quantities.F.ok sc_law_quantities (fun vs H Q E h => ?_) (fun cdv A outer s H vs Q E hr h => ?_)
  · obtain ⟨a, ds, k, m, rfl, _⟩ := h
    rfl
  · obtain ⟨a, ds, k, many, rfl, ha, hk, hm, q⟩ := h
    refine ⟨_, (pss_cons (ps_set (i := 3) sc_law_quantities.nd rfl (.inl rfl) (pe_lst pa_nil))
      (pss_cons (ps_for PassesOwn.never rfl (pi_range1 (by rfl) T.m_range (pa_cons (pv 2) pa_nil)) (pg_name (i := 4) sc_law_quantities.nd rfl (.inl rfl))
        (pss_cons (ps_set (i := 5) sc_law_quantities.nd rfl (.inl rfl) (pe_call (ok_law_name T) (hr.mono (by decide)) (by rfl) T.law_name.g T.law_name.F.kp T.law_name.b .nil pass0 (pa_cons (pv 0) (pa_cons (pe_op op_add (pv 1) (pv 4)) pa_nil))))
        (pss_cons (ps_if (PW.pt (pw_or (pt_cmpR op_in_seq (pv 5) (pv 3) rfl) (pw_or1 (PW.pt (pw_and (pt_cmpR op_gt (pe_callB call_len_str (by rfl) T.m_len (by decide +kernel) (pa_cons (pv 5) pa_nil)) pe_int (nomark _)) (pw_and1 (pt_cmpR op_gt (pv 4) pe_int (nomark _))))))))
          (pss_one (ps_set (i := 5) sc_law_quantities.nd rfl (.inl rfl) (pe_op op_add_str pe_str (pe_callTy call_str_int (by rfl) T.m_str (by decide +kernel) (pa_cons (pv 4) pa_nil)))))
          pss_nil)
        (pss_one (ps_expr (pe_bm PySem.F.plainAttrs_list PySem.F.slot_list_append PySem.F.type_list_append mt_append (pv 3) (pa_cons (pv 5) pa_nil)))))))
      (pss_one (ps_ret (pv 3))))), ?_⟩
    refine ⟨by show 0 ≤ sizeLine; decide, fun p np => ⟨_, rfl, (many : Nat), rfl, by omega, by omega, ?_⟩⟩
    rw [Int.toNat_natCast]
    refine for_it (walk_range (lo := 0) (n := many)) (fun i σ G => Same H G ∧ ∃ (v4 v5 : Option V) (qs : List Str), σ = [some (.ref a), some (.int k), some (.int (many : Nat)), some (.ref p), v4, v5] ∧ G p = some (.lst (qs.map V.str)) ∧ qs.length = i ∧ QsI i qs) ⟨same_upd np, none, none, [], rfl, upd_same, rfl, ⟨by simp, (fun _ h => by cases h), fun _ h => by cases h⟩⟩ (fun _ _ _ _ _ => trivial) (fun i x σ G G' hi pv y => ?_) (fun σ G pv => ?_)
    · obtain ⟨sm, v4, v5, qs, rfl, hp, hn, hg⟩ := pv
      obtain ⟨rfl, rfl⟩ := y
      refine ⟨.ref a, rfl, _, rfl, _, rfl, _, _, rfl, rfl, a, ds, _, rfl, ha.same sm, by omega, fun nm gn => ?_⟩
      have fin : ∀ (nm : Str) (v5 : Option V), QN nm → nm ∉ qs → ((tl nm)[1]? ≠ some 113 ∨ nm = zqN i) → Same H (upd G' p (.lst (qs.map V.str ++ [V.str nm]))) ∧ ∃ (v4' v5' : Option V) (qs' : List Str), [some (V.ref a), some (V.int k), some (V.int (many : Nat)), some (V.ref p), some (V.int (0 + (i : Int))), v5] = [some (V.ref a), some (V.int k), some (V.int (many : Nat)), some (V.ref p), v4', v5'] ∧
          upd G' p (.lst (qs.map V.str ++ [V.str nm])) p = some (.lst (qs'.map V.str)) ∧ qs'.length = i + 1 ∧ QsI (i + 1) qs' := fun nm v5 g1 g2 g3 =>
        ⟨same_over sm np, _, _, qs ++ [nm], rfl, by rw [upd_same, List.map_append]; rfl, by simp [hn], hg.snoc g1 g2 g3⟩
      have lt : (qs.map V.str).length < sizeLine := small' (by rw [List.length_map]; omega)
      have ez : ("zq" : Str) ++ (toString (0 + (i : Int)) : Str) = zqN i := by rw [Int.zero_add]; rfl
      have qz := zq_qn (show i < 41 by omega)
      have finz : ∀ v5, _ := fun v5 => fin (zqN i) v5 qz (hg.fresh (by omega)) (.inr rfl)
      have lg : (0 + (i : Int)).natAbs.log2 < 1920 := by
        have : (0 + (i : Int)).natAbs < 2 ^ 30 := by omega
        exact log_small this
      have lz : ("zq" : Str).length + (toString (0 + (i : Int)) : Str).length ≤ sizeLine := small (by have := qz.nm.2.1; rw [← ez, Str.length_append] at this; omega)
      refine ⟨_, rfl, .ref p, rfl, p, _, rfl, .inl (.of hp), rfl, flat_strs qs, _, rfl, ?_⟩
      refine ite2 (fun _ => ?_) (fun nin => ?_)
      · refine ⟨_, rfl, _, rfl, lg, _, _, rfl, rfl, lz, .ref p, rfl, .inl ⟨rfl, _, .of hp⟩, _, rfl, p, _, _, rfl, rfl, hp, lt, ?_⟩
        rw [ez]
        exact finz _
      · have nin : nm ∉ qs := fun m => nin ((inV_str nm qs).mpr m)
        refine ⟨_, rfl, _, rfl, small (by have := gn.1.nm.2.1; omega), _, _, rfl, rfl, _, rfl, ?_⟩
        refine ite2 (fun _ => ?_) (fun _ => ?_)
        · refine ⟨_, rfl, _, _, rfl, rfl, _, rfl, ite2 (fun _ => ?_) (fun _ => ?_)⟩
          · refine ⟨_, rfl, _, rfl, lg, _, _, rfl, rfl, lz, .ref p, rfl, .inl ⟨rfl, _, .of hp⟩, _, rfl, p, _, _, rfl, rfl, hp, lt, ?_⟩
            rw [ez]
            exact finz _
          · refine ⟨.ref p, rfl, .inl ⟨rfl, _, .of hp⟩, _, rfl, p, _, _, rfl, rfl, hp, lt, ?_⟩
            exact fin _ _ gn.1 nin (.inl gn.2)
        · refine iteF ⟨.ref p, rfl, .inl ⟨rfl, _, .of hp⟩, _, rfl, p, _, _, rfl, rfl, hp, lt, ?_⟩
          exact fin _ _ gn.1 nin (.inl gn.2)
    · obtain ⟨sm, v4, v5, qs, rfl, hp, hn, hg⟩ := pv
      exact ⟨_, rfl, q G p qs sm np hp hn hg⟩
/-! ### places -/
def cP (p : Nat × Nat) : Int × Int := ((p.1 : Nat), (p.2 : Nat))
theorem cP_inj {p q : Nat × Nat} (h : cP p = cP q) : p = q := by
  unfold cP at h
  injection h with a b
  exact Prod.ext (by omega) (by omega)
/-- a drawn place, not the list D itself -/
def PTX (K : PySem.W.Frag) (D : Addr) (H : Hp) (v : V) (p : Nat × Nat) : Prop := ∃ a, v = .ref a ∧ a ≠ D ∧ SqT K H a [.int (p.1 : Nat), .int (p.2 : Nat)]
theorem PTX.mono {D : Addr} (H H' : Hp) (v : V) (b : Nat × Nat) (s : SameX D H H') (h : PTX K D H v b) : PTX K D H' v b := let ⟨a, e, n, q⟩ := h; ⟨a, e, n, s.seqT n q⟩
theorem PTX.pt {D : Addr} {H : Hp} {v : V} {b : Nat × Nat} (h : PTX K D H v b) : PT2 K H v b := let ⟨a, e, _, q⟩ := h; ⟨a, e, q⟩
theorem dp_all {H : Hp} {R : V → Nat × Nat → Prop} (h : ∀ v p, R v p → PT2 K H v p) : ∀ {xs : List V} {ps : List (Nat × Nat)}, A2 R xs ps → DpAll K H xs ((ps.map cP).map dP5)
  | _, _, .nil => .nil
  | _, _, .cons a t => by
    obtain ⟨b, rfl, q⟩ := h _ _ a
    exact .cons (.tup q (.cons (.int _) (.cons (.int _) .nil))) (dp_all h t)
def sp_law_places (K : PySem.W.Frag) : Sp := fun vs H Q _ => ∃ (a : Addr) (ds : List Int) (k : Int) (many size : Nat), vs = [.ref a, .int k, .int (many : Nat), .int (size : Nat)] ∧ IL H a ds ∧ 0 ≤ k ∧ 0 < many ∧ size ≤ 100 ∧
  ∀ H' p ps, Same H H' → H p = none → PL K H' p ps → (∀ x ∈ ps, x.1 < 4 ∧ x.2 < many) → ps.length ≤ size → (0 < size → ps ≠ []) → (ps.map cP).Nodup → Q (.ref p) H'
theorem ok_law_places (T : Txt K mg) : FnOk P w K mg base CX0 2 T.law_places.a T.law_places.fd ["draws", "k", "many", "size"] (sp_law_places K) := by
  refine T.law_places.F.ok sc_law_places (fun vs H Q E h => ?_) (fun cdv A outer s H vs Q E hr h => ?_)
  · obtain ⟨a, ds, k, m, z, rfl, _⟩ := h
    rfl
  · obtain ⟨a, ds, k, many, size, rfl, ha, hk, hm, hz, q⟩ := h
    refine ⟨_, (pss_cons (ps_set (i := 4) sc_law_places.nd rfl (.inl rfl) (pe_lst pa_nil))
      (pss_cons (ps_for PassesOwn.never rfl (pi_range1 (by rfl) T.m_range (pa_cons (pv 3) pa_nil)) (pg_name (i := 5) sc_law_places.nd rfl (.inl rfl))
        (pss_cons (ps_set (i := 6) sc_law_places.nd rfl (.inl rfl) (pe_call (ok_law_at T) (hr.mono (by decide)) (by rfl) T.law_at.g T.law_at.F.kp T.law_at.b .nil pass0 (pa_cons (pv 0) (pa_cons (pe_op op_add (pv 1) (pv 5)) (pa_cons pe_int pa_nil)))))
        (pss_cons (ps_set (i := 7) sc_law_places.nd rfl (.inl rfl) (pe_tup (pa_cons (pe_op op_mod (pe_callTy call_int1 (by rfl) T.m_int (by decide +kernel) (pa_cons (pv 6) pa_nil)) pe_int) (pa_cons (pe_op op_mod (pe_callTy call_int1 (by rfl) T.m_int (by decide +kernel) (pa_cons (pe_op op_fdiv (pv 6) pe_int) pa_nil)) (pv 2)) pa_nil))))
        (pss_one (ps_if (pt_cmpR (op_notInD (r65 hr)) (pv 7) (pv 4) rfl)
          (pss_one (ps_expr (pe_bm PySem.F.plainAttrs_list PySem.F.slot_list_append PySem.F.type_list_append mt_append (pv 4) (pa_cons (pv 7) pa_nil))))
          pss_nil)))))
      (pss_one (ps_ret (pv 4))))), ?_⟩
    refine ⟨by show 0 ≤ sizeLine; decide, fun p np => ⟨_, rfl, (size : Nat), rfl, by omega, by omega, ?_⟩⟩
    rw [Int.toNat_natCast]
    refine for_it (walk_range (lo := 0) (n := size)) (fun i σ G => Same H G ∧ ∃ v5 v6 v7 xs ps, σ = [some (.ref a), some (.int k), some (.int (many : Nat)), some (.int (size : Nat)), some (.ref p), v5, v6, v7] ∧ G p = some (.lst xs) ∧ A2 (PTX K p G) xs ps ∧ (∀ x ∈ ps, x.1 < 4 ∧ x.2 < many) ∧ ps.length ≤ i ∧ (0 < i → ps ≠ []) ∧ (ps.map cP).Nodup)
      ⟨same_upd np, none, none, none, [], [], rfl, upd_same, .nil, (fun _ h => by cases h), Nat.le_refl _, (fun h => absurd h (by decide)), by simp⟩ (fun _ _ _ _ _ => trivial) (fun i x σ G G' hi pv y => ?_) (fun σ G pv => ?_)
    · obtain ⟨sm, v5, v6, v7, xs, ps, rfl, hp, hA, hb, hn, h0, hnd⟩ := pv
      obtain ⟨rfl, rfl⟩ := y
      refine ⟨.ref a, rfl, _, rfl, _, rfl, _, _, rfl, rfl, a, ds, _, 60000, rfl, ha.same sm, by omega, by decide, fun cell c0 c1 => ?_⟩
      refine ⟨_, rfl, .inl ⟨_, rfl, _, _, rfl, rfl, (by show (0 : Int) < _; decide), _, rfl, _, _, rfl, rfl, ⟨by decide, by decide⟩, .inl ⟨_, rfl, _, rfl, _, _, rfl, rfl, by omega, by show 2 ≤ sizeLine; decide, fun t nt => ?_⟩⟩⟩
      have e1 : cell % 4 = (((cell % 4).toNat : Nat) : Int) := by omega
      have b2 : 0 ≤ cell / 4 % (many : Int) := Int.emod_nonneg _ (by omega)
      have b3 : cell / 4 % (many : Int) < many := Int.emod_lt_of_pos _ (by omega)
      obtain ⟨j, ej⟩ : ∃ j : Nat, cell / 4 % (many : Int) = (j : Int) := ⟨_, (Int.toNat_of_nonneg b2).symm⟩
      have lj : j < many := by omega
      dsimp only
      rw [ej]
      rw [e1]
      have lk : (cell % 4).toNat < 4 := by omega
      generalize (cell % 4).toNat = kk at lk ⊢
      have tp : t ≠ p := fun z => by rw [z, hp] at nt; cases nt
      have hp2 := same_upd nt (o := .tup [.int (kk : Nat), .int (j : Nat)]) _ _ hp
      have hA2 : A2 (PTX K p (upd G' t (.tup [.int (kk : Nat), .int (j : Nat)]))) xs ps := hA.mono fun v b z => PTX.mono _ _ v b (sx (same_upd nt)) z
      refine ⟨_, rfl, .ref p, rfl, dP5 (cP (kk, j)), (ps.map cP).map dP5, .tup (.of upd_same) (.cons (.int _) (.cons (.int _) .nil)), .lst (.of hp2) (dp_all (fun _ _ => PTX.pt) hA2), shaped_dP _, shaped_dPs _, _, rfl, ?_⟩
      rw [any_dP]
      refine ite2 (fun hin => ?_) (fun hin => ?_)
      · refine ⟨.ref p, rfl, .inl ⟨rfl, _, .of hp2⟩, _, rfl, p, _, _, rfl, rfl, hp2, small' (by have := hA.len; omega), ?_⟩
        refine ⟨same_over (sm.trans (same_upd nt)) np, _, _, _, xs ++ [.ref t], ps ++ [(kk, j)], rfl, upd_same, A2.snoc ⟨t, rfl, tp, .of (by rw [upd_ne tp]; exact upd_same)⟩ (hA2.mono fun v b z => PTX.mono _ _ v b SameX.put z), fun x hx => ?_, by rw [List.length_append]; exact Nat.succ_le_succ hn, (fun _ => by simp), by
          rw [List.map_append, List.nodup_append]
          refine ⟨hnd, by simp, fun x hx y hy e => ?_⟩
          rw [List.mem_singleton.mp hy] at e
          rw [e] at hx
          rw [decide_eq_true hx] at hin
          cases hin⟩
        rcases List.mem_append.mp hx with hx | hx
        · exact hb x hx
        · simp at hx; subst hx; exact ⟨lk, lj⟩
      · refine ⟨sm.trans (same_upd nt), _, _, _, xs, ps, rfl, hp2, hA2, hb, by omega, fun _ z => ?_, hnd⟩
        subst z
        exact hin rfl
    · obtain ⟨sm, v5, v6, v7, xs, ps, rfl, hp, hA, hb, hn, h0, hnd⟩ := pv
      exact ⟨_, rfl, q G p ps sm np ⟨xs, hp, hA.mono fun _ _ => PTX.pt⟩ hb hn h0 hnd⟩
end
end K05
-- Q5
namespace K05
open PySem PySem.Spec PyProof.Rows L2 TL
section
variable {P : Program} {w : World} {K : PySem.W.Frag} {mg : Str → Option Value} {base : Heap}
/-- a law is handed back, its list of terms is new -/
def OutLaw (K : PySem.W.Frag) (many : Nat) (fam : Option Nat) (H : Hp) (Q : VK) : Prop := ∀ H' v l p, Same H H' → H p = none → LWp K H' v l p → TsL K H' p l.ts → VL many fam l → Q v H'
/-- a term, not the list D itself -/
def TmX (K : PySem.W.Frag) (D : Addr) (H : Hp) (v : V) (t : Trm) : Prop := ∃ a, v = .ref a ∧ a ≠ D ∧ SqT K H a [vH t.h, .int t.k, .int t.j]
theorem TmX.mono {D : Addr} (H H' : Hp) (v : V) (b : Trm) (s : SameX D H H') (h : TmX K D H v b) : TmX K D H' v b := let ⟨a, e, n, q⟩ := h; ⟨a, e, n, s.seqT n q⟩
theorem TmX.tm {D : Addr} {H : Hp} {v : V} {b : Trm} (h : TmX K D H v b) : TmV K H v b := let ⟨a, e, _, q⟩ := h; ⟨a, e, q⟩
/-- the i-th place is read -/
theorem pl_at {H : Hp} {xs : List V} {ps : List (Nat × Nat)} (h : A2 (PT2 K H) xs ps) {i : Nat} (hi : i < ps.length) : ∃ b, atI xs ((i : Nat) : Int) = some (.ref b) ∧ SqT K H b [.int ((ps[i]'hi).1 : Nat), .int ((ps[i]'hi).2 : Nat)] := by
  obtain ⟨v, hv, b, rfl, q⟩ := h.get' (i := i) (b := ps[i]) (by simp [hi])
  exact ⟨b, atI_nat hv, q⟩
def pl (t : Trm) : Int × Int := (t.k, t.j)
def NumT (t : Trm) : Prop := ∃ n : Int, t.h = .inl n ∧ n ≠ 0 ∧ n.natAbs ≤ 1000000
theorem cP_rg {many : Nat} {ps : List (Nat × Nat)} (h : ∀ x ∈ ps, x.1 < 4 ∧ x.2 < many) : ∀ p ∈ ps.map cP, 0 ≤ p.1 ∧ p.1 < 4 ∧ 0 ≤ p.2 ∧ p.2 < (many : Int) := fun p hp => by
  obtain ⟨x, hx, rfl⟩ := List.mem_map.mp hp
  obtain ⟨a, b⟩ := h x hx
  unfold cP
  refine ⟨?_, ?_, ?_, ?_⟩ <;> simp only <;> omega
theorem vl_ex {many : Nat} {fam : Option Nat} {ts : List Trm} {s : Str} {ps : List (Nat × Nat)} (e : ts.map pl = ps.map cP) (hb : ∀ x ∈ ps, x.1 < 4 ∧ x.2 < many) (nd : (ps.map cP).Nodup) (num : ∀ t ∈ ts, NumT t) (src : s = "" ∨ NM s) (hl : ts.length ≤ 130) : VL many fam ⟨true, 0, 0, ts, s⟩ := by
  have ep : (Lw.mk true 0 0 ts s).places = ps.map cP := e
  refine ⟨fun p hp => ?_, by rw [ep]; exact nd, fun _ => ⟨rfl, rfl, num⟩, (fun z => by cases z), (fun z => by cases z), src, hl⟩
  rw [ep] at hp
  exact cP_rg hb p hp
theorem vl_sz {many n : Nat} {ts : List Trm} {s : Str} {p0 : Nat × Nat} {ps : List (Nat × Nat)} (e : ts.map pl = ps.map cP) (hb : ∀ x ∈ p0 :: ps, x.1 < 4 ∧ x.2 < many) (nd : ((p0 :: ps).map cP).Nodup) (ne : ts ≠ []) (hn : n < 41) (h7 : ts.length < 7)
    (nam : ∀ (i : Nat) (t : Trm), ts[i]? = some t → t.h = .inr (szN n (i + 1))) (src : s = "" ∨ NM s) : VL many (some n) ⟨false, p0.1, p0.2, ts, s⟩ := by
  have ep : (Lw.mk false p0.1 p0.2 ts s).places = (p0 :: ps).map cP := by
    show (((p0.1 : Nat) : Int), ((p0.2 : Nat) : Int)) :: ts.map pl = _
    rw [e]; rfl
  refine ⟨fun p hp => ?_, by rw [ep]; exact nd, (fun z => by cases z), fun _ => ⟨ne, fun m em => ?_⟩, (fun _ z => by cases z), src, by show ts.length ≤ 130; omega⟩
  · rw [ep] at hp
    exact cP_rg hb p hp
  · injection em with em
    subst em
    exact ⟨hn, h7, nam⟩
theorem nm_f : NM "f" := nmB_iff.mp (by decide +kernel)
theorem nm_load : NM "load.f" := nmB_iff.mp (by decide +kernel)
theorem g_all : ∀ n : Fin 41, nmB (("g" : Str) ++ txt n.val) = true := by decide +kernel
theorem nm_g {n : Nat} (h : n < 41) : NM (("g" : Str) ++ txt n) := nmB_iff.mp (g_all ⟨n, h⟩)
theorem take_map {α β : Type} (f : α → β) {xs : List α} {i : Nat} (h : i < xs.length) : (xs.take (i + 1)).map f = (xs.take i).map f ++ [f (xs[i]'h)] := by
  rw [take_snoc (List.getElem?_eq_getElem h), List.map_append]; rfl
theorem nam_snoc {ts : List Trm} {f : Nat → Hd} {t : Trm} {i : Nat} (hn : ts.length = i) (h : ∀ (j : Nat) (x : Trm), ts[j]? = some x → x.h = f j) (ht : t.h = f i) : ∀ (j : Nat) (x : Trm), (ts ++ [t])[j]? = some x → x.h = f j := fun j x hx => by
  rcases Nat.lt_or_ge j ts.length with lt | ge
  · rw [List.getElem?_append_left lt] at hx
    exact h j x hx
  · rw [List.getElem?_append_right ge] at hx
    have : j - ts.length = 0 := by
      rcases Nat.eq_zero_or_pos (j - ts.length) with z | z
      · exact z
      · rw [List.getElem?_eq_none (by show 1 ≤ _; omega)] at hx
        cases hx
    rw [this] at hx
    cases hx
    rw [ht]
    congr 1
    omega
def sp_law_one (K : PySem.W.Frag) : Sp := fun vs H Q _ => ∃ (a : Addr) (ds : List Int) (k : Int) (many number : Nat), vs = [.ref a, .int k, .int (many : Nat), .int (number : Nat)] ∧ IL H a ds ∧ 0 ≤ k ∧ many ≤ 30 ∧ number < 41 ∧ OutLaw K many (some number) H Q
theorem ok_law_one (T : Txt K mg) : FnOk P w K mg base CX0 3 T.law_one.a T.law_one.fd ["draws", "k", "many", "number"] (sp_law_one K) := by
  refine T.law_one.F.ok sc_law_one (fun vs H Q E h => ?_) (fun cdv A outer s H vs Q E hr h => ?_)
  · obtain ⟨a, ds, k, m, z, rfl, _⟩ := h
    rfl
  · obtain ⟨a, ds, k, many, number, rfl, ha, hk, hm, hn, q⟩ := h
    refine ⟨_, (pss_cons (ps_set (i := 4) sc_law_one.nd rfl (.inl rfl) (pe_ix ix_list (pe_lst (pa_cons pe_str (pa_cons pe_str (pa_cons (pe_op op_add_str pe_str (pe_callTy call_str_int (by rfl) T.m_str (by decide +kernel) (pa_cons (pv 3) pa_nil))) (pa_cons pe_str pa_nil))))) (pe_call (ok_law_at T) (hr.mono (by decide)) (by rfl) T.law_at.g T.law_at.F.kp T.law_at.b .nil pass0 (pa_cons (pv 0) (pa_cons (pv 1) (pa_cons pe_int pa_nil)))) (fun _ _ => rfl)))
      (pss_cons (ps_set (i := 5) sc_law_one.nd rfl (.inl rfl) (pe_call (ok_law_at T) (hr.mono (by decide)) (by rfl) T.law_at.g T.law_at.F.kp T.law_at.b .nil pass0 (pa_cons (pv 0) (pa_cons (pe_op op_add (pv 1) pe_int) (pa_cons pe_int pa_nil)))))
      (pss_cons (ps_if (pt_cmpR op_eq (pv 2) pe_int (nomark _))
        (pss_one (ps_ret (pe_tup (pa_cons pe_str (pa_cons (pe_lst pa_nil) (pa_cons (pv 4) pa_nil))))))
        pss_nil)
      (pss_cons (ps_if (pt_cmpR op_eq (pe_call (ok_law_at T) (hr.mono (by decide)) (by rfl) T.law_at.g T.law_at.F.kp T.law_at.b .nil pass0 (pa_cons (pv 0) (pa_cons (pe_op op_add (pv 1) pe_int) (pa_cons pe_int pa_nil)))) pe_int (nomark _))
        (pss_cons (ps_set (i := 6) sc_law_one.nd rfl (.inr rfl) (pe_call (ok_law_places T) (hr.mono (by decide)) (by rfl) T.law_places.g T.law_places.F.kp T.law_places.b .nil pass0 (pa_cons (pv 0) (pa_cons (pe_op op_add (pv 1) pe_int) (pa_cons (pv 2) (pa_cons (pv 5) pa_nil))))))
        (pss_cons (ps_set (i := 7) sc_law_one.nd rfl (.inl rfl) (pe_lst pa_nil))
        (pss_cons (ps_for PassesOwn.never rfl (pi_range1 (by rfl) T.m_range (pa_cons (pe_callB call_len_seq (by rfl) T.m_len (by decide +kernel) (pa_cons (pv 6) pa_nil)) pa_nil)) (pg_name (i := 8) sc_law_one.nd rfl (.inl rfl))
          (pss_cons (ps_set (i := 9) sc_law_one.nd rfl (.inl rfl) (pe_call (ok_law_at T) (hr.mono (by decide)) (by rfl) T.law_at.g T.law_at.F.kp T.law_at.b .nil pass0 (pa_cons (pv 0) (pa_cons (pe_op op_add (pe_op op_add (pv 1) pe_int) (pv 8)) (pa_cons pe_int pa_nil)))))
          (pss_cons (ps_set (i := 10) sc_law_one.nd rfl (.inl rfl) (pe_ix ix_list (pe_lst (pa_cons pe_int (pa_cons (pe_un un_neg pe_int) (pa_cons pe_int (pa_cons (pe_un un_neg pe_int) (pa_cons (pe_op op_add pe_int (pe_callTy call_int1 (by rfl) T.m_int (by decide +kernel) (pa_cons (pe_op op_fdiv (pv 9) pe_int) pa_nil))) (pa_cons (pe_op op_sub (pe_un un_neg pe_int) (pe_callTy call_int1 (by rfl) T.m_int (by decide +kernel) (pa_cons (pe_op op_fdiv (pv 9) pe_int) pa_nil))) pa_nil))))))) (pe_op op_mod (pe_callTy call_int1 (by rfl) T.m_int (by decide +kernel) (pa_cons (pv 9) pa_nil)) pe_int) (fun _ _ => rfl)))
          (pss_one (ps_expr (pe_bm PySem.F.plainAttrs_list PySem.F.slot_list_append PySem.F.type_list_append mt_append (pv 7) (pa_cons (pe_tup (pa_cons (pv 10) (pa_cons (pe_ix ix_tup (pe_ix ix_list (pv 6) (pv 8) (fun _ _ => rfl)) pe_int (fun _ _ => rfl)) (pa_cons (pe_ix ix_tup (pe_ix ix_list (pv 6) (pv 8) (fun _ _ => rfl)) pe_int (fun _ _ => rfl)) pa_nil)))) pa_nil)))))))
        (pss_one (ps_ret (pe_tup (pa_cons pe_str (pa_cons (pv 7) (pa_cons (pv 4) pa_nil)))))))))
        pss_nil)
      (pss_cons (ps_set (i := 6) sc_law_one.nd rfl (.inr rfl) (pe_call (ok_law_places T) (hr.mono (by decide)) (by rfl) T.law_places.g T.law_places.F.kp T.law_places.b .nil pass0 (pa_cons (pv 0) (pa_cons (pe_op op_add (pv 1) pe_int) (pa_cons (pv 2) (pa_cons (pe_op op_add (pv 5) pe_int) pa_nil))))))
      (pss_cons (ps_setLc (i := 7) (own := [("turn", 8)]) rfl sc_law_one.nd rfl rfl (sw_true rfl rfl rfl (by decide +kernel)) (pi_range2 (by rfl) T.m_range (pa_cons pe_int (pa_cons (pe_callB call_len_seq (by rfl) T.m_len (by decide +kernel) (pa_cons (pv 6) pa_nil)) pa_nil))) (blkOk_by (N := ["draws", "k", "many", "number", "source", "size", "places", "terms", "turn", "cell", "value"]) (sc := defScope s_law_one) (by decide +kernel)) (fun _ _ _ _ _ => (pg_name (i := 8) sc_law_one.nd rfl (.inl rfl))) (fun _ _ _ _ _ => pts_nil) (fun _ _ _ _ _ => (pe_tup (pa_cons (pe_op op_add_str (pe_op op_add_str (pe_op op_add_str (pe_op op_add_str pe_str (pe_callTy call_str_int (by rfl) T.m_str (by decide +kernel) (pa_cons (pv 3) pa_nil))) pe_str) (pe_ix ix_str pe_str (pe_op op_fdiv (pv 8) pe_int) (fun _ _ => rfl))) (pe_callTy call_str_int (by rfl) T.m_str (by decide +kernel) (pa_cons (pv 8) pa_nil))) (pa_cons (pe_ix (r := rIxT K) ix_tup (pe_ix (r := rIxL K) ix_list (pv 6) (pv 8) (fun _ _ => rfl)) pe_int (fun _ _ => rfl)) (pa_cons (pe_ix (r := rIxT K) ix_tup (pe_ix (r := rIxL K) ix_list (pv 6) (pv 8) (fun _ _ => rfl)) pe_int (fun _ _ => rfl)) pa_nil))))))
      (pss_cons (ps_if (pt_cmpR op_eq (pe_callB call_len_seq (by rfl) T.m_len (by decide +kernel) (pa_cons (pv 7) pa_nil)) pe_int (nomark _))
        (pss_one (ps_ret (pe_tup (pa_cons pe_str (pa_cons (pe_lst (pa_cons (pe_tup (pa_cons pe_int (pa_cons (pe_ix ix_tup (pe_ix ix_list (pv 6) pe_int (fun _ _ => rfl)) pe_int (fun _ _ => rfl)) (pa_cons (pe_ix ix_tup (pe_ix ix_list (pv 6) pe_int (fun _ _ => rfl)) pe_int (fun _ _ => rfl)) pa_nil)))) pa_nil)) (pa_cons (pv 4) pa_nil))))))
        pss_nil)
      (pss_one (ps_ret (pe_tup (pa_cons pe_str (pa_cons (pe_ix ix_tup (pe_ix ix_list (pv 6) pe_int (fun _ _ => rfl)) pe_int (fun _ _ => rfl)) (pa_cons (pe_ix ix_tup (pe_ix ix_list (pv 6) pe_int (fun _ _ => rfl)) pe_int (fun _ _ => rfl)) (pa_cons (pv 7) (pa_cons (pv 4) pa_nil))))))))))))))), ?_⟩
    have lgn : ((number : Nat) : Int).natAbs.log2 < 1920 := log_small (by omega)
    have gn : GS 3 (toString ((number : Nat) : Int) : Str) := GS.int (by omega)
    have ng : NM ((("g" : Str) ++ (toString ((number : Nat) : Int) : Str))) := nm_g hn
    have g1 : GS 4 (("g" : Str) ++ (toString ((number : Nat) : Int) : Str)) := GS.add (n := 1) ⟨by decide +kernel, by decide +kernel⟩ gn
    refine ⟨_, rfl, _, rfl, lgn, _, _, rfl, rfl, small (by have := g1.1; rw [Str.length_append] at this; omega), by show 4 ≤ sizeLine; decide, fun l0 n0 => ?_⟩
    have s1 := same_upd n0 (o := .lst [V.str "", V.str "f", V.str (("g" : Str) ++ (toString ((number : Nat) : Int) : Str)), V.str "load.f"])
    refine ⟨.ref a, rfl, _, rfl, a, ds, k, 4, rfl, ha.same s1, hk, by decide, fun r0 r1 r2 => ?_⟩
    obtain ⟨sv, hs, ms⟩ := at_ex (xs := [V.str "", V.str "f", V.str (("g" : Str) ++ (toString ((number : Nat) : Int) : Str)), V.str "load.f"]) (i := r0) r1 r2
    obtain ⟨src, rfl, gs⟩ : ∃ src : Str, sv = .str src ∧ (src = "" ∨ NM src) := by
      rcases List.mem_cons.mp ms with rfl | ms
      · exact ⟨_, rfl, .inl rfl⟩
      rcases List.mem_cons.mp ms with rfl | ms
      · exact ⟨_, rfl, .inr nm_f⟩
      rcases List.mem_cons.mp ms with rfl | ms
      · exact ⟨_, rfl, .inr ng⟩
      rcases List.mem_cons.mp ms with rfl | ms
      · exact ⟨_, rfl, .inr nm_load⟩
      · cases ms
    refine ⟨l0, _, r0, _, rfl, rfl, .of upd_same, hs, ?_⟩
    refine ⟨.ref a, rfl, _, rfl, _, _, rfl, rfl, a, ds, _, 4, rfl, ha.same s1, by omega, by decide, fun sz z1 z2 => ?_⟩
    obtain ⟨size, rfl⟩ : ∃ n : Nat, sz = (n : Int) := ⟨sz.toNat, by omega⟩
    generalize upd H l0 _ = Ha at s1
    refine ⟨_, rfl, rfl, _, rfl, ?_⟩
    refine ite2 (fun h => ?_) (fun h => ?_)
    · refine ⟨by show 0 ≤ sizeLine; decide, fun p np => ⟨_, rfl, by show 3 ≤ sizeLine; decide, fun t nt => ?_⟩⟩
      have s2 : Same Ha (upd (upd Ha p (.lst [])) t (.tup [.str "exact", .ref p, .str src])) := (same_upd np).trans (same_upd nt)
      exact q _ (.ref t) ⟨true, 0, 0, [], src⟩ p (s1.trans s2) (s1.free np) ⟨t, rfl, .inl ⟨rfl, .of upd_same⟩⟩ ⟨[], same_upd nt _ _ upd_same, .nil⟩ (vl_ex (ps := []) rfl (fun _ z => by cases z) (by simp) (fun _ z => by cases z) gs (by decide))
    have hm0 : 0 < many := by
      rcases Nat.eq_zero_or_pos many with rfl | z
      · exact absurd (decide_eq_true rfl) h
      · exact z
    refine ⟨.ref a, rfl, _, rfl, _, _, rfl, rfl, a, ds, _, 2, rfl, ha.same s1, by omega, by decide, fun b0 b1 b2 => ?_⟩
    refine ⟨rfl, _, rfl, ite2 (fun _ => ?_) (fun _ => ?_)⟩
    · -- an exact law
      refine ⟨.ref a, rfl, _, rfl, _, _, rfl, rfl, _, rfl, _, rfl, a, ds, _, many, size, rfl, ha.same s1, by omega, hm0, by omega, fun Hb p ps sb np ⟨xs, hp, hA⟩ hb hl _ hnd => ?_⟩
      have s2 := s1.trans sb
      refine ⟨by show 0 ≤ sizeLine; decide, fun tl nt => ?_⟩
      have hp2 := same_upd nt (o := .lst []) _ _ hp
      have hA2 := hA.mono fun v b z => PT2.same (same_upd nt (o := .lst [])) z
      refine ⟨.ref p, rfl, p, _, rfl, .inl (.of hp2), (xs.length : Nat), rfl, by have := hA.len; omega, by have := hA.len; omega, ?_⟩
      rw [Int.toNat_natCast]
      refine for_it (walk_range (lo := 0) (n := xs.length)) (fun i σ G => Same Hb G ∧ ∃ (v8 v9 v10 : Option V) (zs : List V) (ts : List Trm), σ = [some (.ref a), some (.int k), some (.int (many : Nat)), some (.int (number : Nat)), some (.str src), some (.int (size : Nat)), some (.ref p), some (.ref tl), v8, v9, v10] ∧
          G tl = some (.lst zs) ∧ A2 (TmX K tl G) zs ts ∧ (ts.map pl = (ps.take i).map cP ∧ ∀ t ∈ ts, NumT t) ∧ ts.length = i) ⟨same_upd nt, none, none, none, [], [], rfl, upd_same, .nil, ⟨rfl, fun _ z => by cases z⟩, rfl⟩ (fun _ _ _ _ _ => trivial) (fun i x σ G G' hi pv y => ?_) (fun σ G pv => ?_)
      · obtain ⟨sm, v8, v9, v10, zs, ts, rfl, ht, hT, he, hn2⟩ := pv
        obtain ⟨rfl, rfl⟩ := y
        have hi' : i < ps.length := by rw [← hA.len]; exact hi
        obtain ⟨b, ab, qb⟩ := pl_at hA hi'
        obtain ⟨pk, pj⟩ := hb _ (List.getElem_mem hi')
        rw [← Int.zero_add ((i : Nat) : Int)] at ab
        refine ⟨.ref a, rfl, _, rfl, _, _, rfl, rfl, _, rfl, _, _, rfl, rfl, a, ds, _, 60000, rfl, ha.same (s2.trans sm), by omega, by decide, fun cell c0 c1 => ?_⟩
        refine ⟨_, rfl, _, rfl, _, rfl, _, _, rfl, rfl, ⟨by decide, by decide⟩, .inl ⟨_, rfl, _, _, rfl, rfl, _, rfl, _, rfl, _, _, rfl, rfl, ⟨by decide, by decide⟩, .inl ⟨_, rfl, _, _, rfl, rfl, by show 6 ≤ sizeLine; decide, fun l1 n1 => ?_⟩⟩⟩
        refine ⟨_, rfl, .inl ⟨_, rfl, _, _, rfl, rfl, (by show (0 : Int) < _; decide), ?_⟩⟩
        dsimp only
        obtain ⟨nv, hnv, mnv⟩ := at_ex (xs := [V.int 1, V.int (-1), V.int 1000000, V.int (-1000000), V.int (1 + cell / 6), V.int (-1 - cell / 6)]) (i := cell % 6) (by omega) (by show cell % 6 < 6; omega)
        obtain ⟨n, rfl, n0, nb⟩ : ∃ n : Int, nv = .int n ∧ n ≠ 0 ∧ n.natAbs ≤ 1000000 := by
          simp only [List.mem_cons, List.not_mem_nil, or_false] at mnv
          rcases mnv with rfl | rfl | rfl | rfl | rfl | rfl
          · exact ⟨_, rfl, by decide, by decide⟩
          · exact ⟨_, rfl, by decide, by decide⟩
          · exact ⟨_, rfl, by decide, by decide⟩
          · exact ⟨_, rfl, by decide, by decide⟩
          · exact ⟨_, rfl, by omega, by omega⟩
          · exact ⟨_, rfl, by omega, by omega⟩
        refine ⟨l1, _, _, _, rfl, rfl, .of upd_same, hnv, ?_⟩
        have s3 := sm.trans (same_upd n1 (o := .lst [V.int 1, V.int (-1), V.int 1000000, V.int (-1000000), V.int (1 + cell / 6), V.int (-1 - cell / 6)]))
        have ht3 := same_upd n1 (o := .lst [V.int 1, V.int (-1), V.int 1000000, V.int (-1000000), V.int (1 + cell / 6), V.int (-1 - cell / 6)]) _ _ ht
        have hT3 : A2 (TmX K tl (upd G' l1 (.lst [V.int 1, V.int (-1), V.int 1000000, V.int (-1000000), V.int (1 + cell / 6), V.int (-1 - cell / 6)]))) zs ts := hT.mono fun v b z => TmX.mono _ _ v b (sx (same_upd n1)) z
        generalize upd G' l1 _ = G3 at s3 ht3 hT3
        have hp3 := s3 _ _ hp
        have qb3 := Same.seqT s3 qb
        refine ⟨.ref tl, rfl, .inl ⟨rfl, _, .of ht3⟩, _, rfl, .ref p, rfl, _, rfl, p, _, _, _, rfl, rfl, .of hp3, ab, b, _, _, _, rfl, rfl, qb3, rfl, .ref p, rfl, _, rfl, p, _, _, _, rfl, rfl, .of hp3, ab, b, _, _, _, rfl, rfl, qb3, rfl, by show 3 ≤ sizeLine; decide, fun t nt3 => ?_⟩
        have tt : t ≠ tl := fun z => by rw [z, ht3] at nt3; cases nt3
        refine ⟨tl, _, _, rfl, rfl, same_upd nt3 _ _ ht3, small' (by have := hT3.len; omega), same_over (s3.trans (same_upd nt3)) nt, _, _, _, _, ts ++ [⟨.inl n, (ps[i]).1, (ps[i]).2⟩], rfl, upd_same, A2.snoc ⟨t, rfl, tt, .of (by rw [upd_ne tt]; exact upd_same)⟩ (hT3.mono fun v b z => TmX.mono _ _ v b ((sx (same_upd nt3)).trans SameX.put) z), ⟨by rw [List.map_append, he.1, take_map cP hi']; rfl, fun x hx => ?_⟩, by rw [List.length_append, hn2]; rfl⟩
        rcases List.mem_append.mp hx with hx | hx
        · exact he.2 x hx
        · simp at hx; subst hx; exact ⟨n, rfl, n0, nb⟩
      · obtain ⟨sm, v8, v9, v10, zs, ts, rfl, ht, hT, he, hn2⟩ := pv
        refine ⟨_, rfl, _, rfl, by show 3 ≤ sizeLine; decide, fun t nt2 => ?_⟩
        exact q _ (.ref t) ⟨true, 0, 0, ts, src⟩ tl (s2.trans (sm.trans (same_upd nt2))) (s2.free nt) ⟨t, rfl, .inl ⟨rfl, .of upd_same⟩⟩ ⟨zs, same_upd nt2 _ _ ht, hT.mono fun v b z => (TmX.tm z).same (same_upd nt2)⟩ (vl_ex (by rw [he.1, List.take_of_length_le (by rw [hA.len]; exact Nat.le_refl _)]) hb hnd he.2 gs (by have := hA.len; omega))
    · -- a sized law, or one number
      refine ⟨.ref a, rfl, _, rfl, _, _, rfl, rfl, _, rfl, _, rfl, _, _, rfl, rfl, a, ds, _, many, size + 2, rfl, ha.same s1, by omega, hm0, by omega, fun Hb p ps sb np ⟨xs, hp, hA⟩ hb hl hne hnd => ?_⟩
      have s2 := s1.trans sb
      have h0 : 0 < ps.length := by
        rcases Nat.eq_zero_or_pos ps.length with z | z
        · exact absurd (List.length_eq_zero_iff.mp z) (hne (by omega))
        · exact z
      have el := hA.len
      have eps : ps = ps[0] :: ps.drop 1 := by
        have := List.drop_eq_getElem_cons (l := ps) (i := 0) h0
        rw [List.drop_zero] at this
        exact this
      refine ⟨.ref p, rfl, p, _, rfl, .inl (.of hp), 1, (xs.length : Nat), rfl, ⟨by decide, by decide, by omega, by omega⟩, fun D nD => ?_⟩
      have gab : ∀ i : Nat, 1 + i < 8 → atI ("ab" : Str).cps.toList ((1 + (i : Int)) / 8) = some 97 := fun i h => by
        rw [show (1 + (i : Int)) / 8 = ((0 : Nat) : Int) by omega]
        exact atI_nat (by decide +kernel)
      refine lc_inv (walk_range (lo := 1) (n := ((xs.length : Nat) - (1 : Int)).toNat)) (fun i G ys => ∃ ts : List Trm, A2 (TmX K D G) ys ts ∧ (ts.map pl = ((ps.drop 1).take i).map cP ∧ ∀ (j : Nat) (x : Trm), ts[j]? = some x → x.h = .inr (szN number (j + 1))) ∧ ts.length = i) nD (fun _ _ => trivial) (small' (by omega)) ⟨[], .nil, ⟨rfl, fun j x z => by simp at z⟩, rfl⟩ (fun i x G Hx ys hi sm hD hR y Qt Qf qt qf => ?_) (fun G ys sm hD hR => ?_)
      · obtain ⟨rfl, rfl⟩ := y
        obtain ⟨ts, hT, he, hn2⟩ := hR
        have hi' : 1 + i < ps.length := by omega
        have e1 : (1 + (i : Int)) = ((1 + i : Nat) : Int) := by omega
        obtain ⟨b, ab, qb⟩ := pl_at hA hi'
        obtain ⟨pk, pj⟩ := hb _ (List.getElem_mem hi')
        rw [← e1] at ab
        have hc := gab i (by omega)
        have gc : (97 : Nat) < 200 := by decide
        have gt : GS 3 (toString (1 + (i : Int)) : Str) := by rw [e1]; exact GS.int (by omega)
        have lgt : (1 + (i : Int)).natAbs.log2 < 1920 := log_small (by omega)
        have k1 : GS 4 (("s" : Str) ++ (toString ((number : Nat) : Int) : Str)) := GS.add (n := 1) ⟨by decide +kernel, by decide +kernel⟩ gn
        have k2 : GS 5 (("s" : Str) ++ (toString ((number : Nat) : Int) : Str) ++ ("." : Str)) := k1.add (m := 1) ⟨by decide +kernel, by decide +kernel⟩
        have k3 := k2.add (GS.one gc)
        have k4 := k3.add gt
        have z1 := k1.1
        have z2 := k2.1
        have z3 := k3.1
        have z4 := k4.1
        rw [Str.length_append] at z1 z2 z3 z4
        have hp3 := sm _ _ hp
        have qb3 := Same.seqT sm qb
        refine ⟨rfl, _, rfl, _, rfl, lgn, _, _, rfl, rfl, small (by omega), _, _, rfl, rfl, small (by omega), _, rfl, _, _, rfl, rfl, ⟨by decide, by decide⟩, _, _, 97, rfl, rfl, (by decide +kernel), hc, _, _, rfl, rfl, small (by omega), _, rfl, _, rfl, lgt, _, _, rfl, rfl, small (by omega),
          .ref p, rfl, _, rfl, p, _, _, _, rfl, rfl, .of hp3, ab, b, _, _, _, rfl, rfl, qb3, rfl, .ref p, rfl, _, rfl, p, _, _, _, rfl, rfl, .of hp3, ab, b, _, _, _, rfl, rfl, qb3, rfl, by show 3 ≤ sizeLine; decide, fun t nt3 => ?_⟩
        have tD : t ≠ D := fun z => by rw [z, hD] at nt3; cases nt3
        refine qt _ _ (same_upd nt3) ⟨ts ++ [⟨.inr _, (ps[1 + i]).1, (ps[1 + i]).2⟩], A2.snoc ⟨t, rfl, tD, .of (by rw [upd_ne tD]; exact upd_same)⟩ (hT.mono fun v b z => TmX.mono _ _ v b ((sx (same_upd nt3)).trans SameX.put) z), ⟨?_, nam_snoc (f := fun j => .inr (szN number (j + 1))) hn2 he.2 ?_⟩, by rw [List.length_append, hn2]; rfl⟩
        · rw [List.map_append, he.1, take_map cP (xs := ps.drop 1) (i := i) (by rw [List.length_drop]; omega), List.getElem_drop]; rfl
        · rw [show (1 + (i : Int)) = ((i + 1 : Nat) : Int) by omega]; rfl
      · obtain ⟨ts, hT, he, hn2⟩ := hR
        obtain ⟨b, ab, qb⟩ := pl_at hA h0
        obtain ⟨pk, pj⟩ := hb _ (List.getElem_mem h0)
        have hp3 := sm _ _ hp
        have qb3 := Same.seqT sm qb
        refine ⟨.ref D, rfl, D, _, rfl, .inl (.of hD), rfl, _, rfl, ite2 (fun _ => ?_) (fun hne2 => ?_)⟩
        · refine ⟨.ref p, rfl, p, _, _, _, rfl, rfl, .of hp3, ab, b, _, _, _, rfl, rfl, qb3, rfl, .ref p, rfl, p, _, _, _, rfl, rfl, .of hp3, ab, b, _, _, _, rfl, rfl, qb3, rfl, by show 3 ≤ sizeLine; decide, fun t nt => ?_⟩
          refine ⟨by show 1 ≤ sizeLine; decide, fun l nl => ⟨_, rfl, by show 3 ≤ sizeLine; decide, fun u nu => ?_⟩⟩
          have tl : t ≠ l := fun z => by rw [← z, upd_same] at nl; cases nl
          refine q _ (.ref u) ⟨true, 0, 0, [⟨.inl 2, (ps[0]).1, (ps[0]).2⟩], src⟩ l (s2.trans (sm.trans ((same_upd nt).trans ((same_upd nl).trans (same_upd nu))))) ((s2.trans (sm.trans (same_upd nt))).free nl) ⟨u, rfl, .inl ⟨rfl, .of upd_same⟩⟩ ⟨_, same_upd nu _ _ upd_same, .cons ⟨t, rfl, .of (same_upd nu _ _ (same_upd nl _ _ upd_same))⟩ .nil⟩ (vl_ex (ps := [ps[0]]) rfl (fun x hx => ?_) (by simp) (fun x hx => ?_) gs (by show 1 ≤ 130; decide))
          · rw [List.mem_singleton.mp hx]; exact ⟨pk, pj⟩
          · rw [List.mem_singleton.mp hx]; exact ⟨2, rfl, by decide, by decide⟩
        · refine ⟨.ref p, rfl, p, _, _, _, rfl, rfl, .of hp3, ab, b, _, _, _, rfl, rfl, qb3, rfl, .ref p, rfl, p, _, _, _, rfl, rfl, .of hp3, ab, b, _, _, _, rfl, rfl, qb3, rfl, _, rfl, _, rfl, by show 5 ≤ sizeLine; decide, fun u nu => ?_⟩
          refine q _ (.ref u) ⟨false, (ps[0]).1, (ps[0]).2, ts, src⟩ D (s2.trans (sm.trans (same_upd nu))) (s2.free nD) ⟨u, rfl, .inr ⟨rfl, .of upd_same⟩⟩ ⟨_, same_upd nu _ _ hD, hT.mono fun v b z => (TmX.tm z).same (same_upd nu)⟩ (vl_sz (p0 := ps[0]) (ps := ps.drop 1) (by rw [he.1, List.take_of_length_le (by rw [List.length_drop]; omega)]) (fun x hx => hb x (by rw [eps]; exact hx)) (by rw [← eps]; exact hnd) (fun z => ?_) hn (by omega) he.2 gs)
          rw [z] at hn2
          have : (ys.length : Int) = 0 := by have := hT.len; rw [z] at this; simp at this; rw [this]; rfl
          rw [this] at hne2
          exact hne2 rfl
end
end K05
-- R5
namespace K05
open PySem PySem.Spec PyProof.Rows L2 TL
section
variable {P : Program} {w : World} {K : PySem.W.Frag} {mg : Str → Option Value} {base : Heap}
def lp (t : Nat) : Nat × Nat := (t % 4, t / 4)
theorem lp_nd (n : Nat) : (((List.range n).map lp).map cP).Nodup := by
  rw [List.map_map]
  unfold List.Nodup
  rw [List.pairwise_map]
  refine (show (List.range n).Nodup from List.nodup_range).imp fun {a b} ne e => ne ?_
  have := cP_inj e
  unfold lp at this
  injection this with h1 h2
  omega
theorem nm_w : NM (Txt.mul ("w" : Str) 200) := nmB_iff.mp (by decide +kernel)
theorem vl_lg {many : Nat} {ts : List Trm} {p0 : Nat × Nat} {ps : List (Nat × Nat)} (e : ts.map pl = ps.map cP) (hb : ∀ x ∈ p0 :: ps, x.1 < 4 ∧ x.2 < many) (nd : ((p0 :: ps).map cP).Nodup) (ne : ts ≠ []) (h7 : ts.length < 120)
    (nam : ∀ (i : Nat) (t : Trm), ts[i]? = some t → t.h = .inr (lgN (decide (i + 1 = ts.length)) (i + 1))) : VL many none ⟨false, p0.1, p0.2, ts, ""⟩ := by
  have ep : (Lw.mk false p0.1 p0.2 ts "").places = (p0 :: ps).map cP := by
    show (((p0.1 : Nat) : Int), ((p0.2 : Nat) : Int)) :: ts.map pl = _
    rw [e]; rfl
  refine ⟨fun p hp => ?_, by rw [ep]; exact nd, (fun z => by cases z), fun _ => ⟨ne, fun m em => by cases em⟩, fun _ _ => ⟨h7, nam⟩, .inl rfl, by show ts.length ≤ 130; omega⟩
  rw [ep] at hp
  exact cP_rg hb p hp
def sp_law_long (K : PySem.W.Frag) : Sp := fun vs H Q _ => ∃ (a : Addr) (ds : List Int) (k : Int) (many : Nat), vs = [.ref a, .int k, .int (many : Nat)] ∧ IL H a ds ∧ 0 ≤ k ∧ 0 < many ∧ many ≤ 30 ∧ OutLaw K many none H Q
theorem ok_law_long (T : Txt K mg) : FnOk P w K mg base CX0 2 T.law_long.a T.law_long.fd ["draws", "first", "many"] (sp_law_long K) := by
  refine T.law_long.F.ok sc_law_long (fun vs H Q E h => ?_) (fun cdv A outer s H vs Q E hr h => ?_)
  · obtain ⟨a, ds, k, m, rfl, _⟩ := h
    rfl
  · obtain ⟨a, ds, k, many, rfl, ha, hk, hm0, hm, q⟩ := h
    refine ⟨_, (pss_cons (ps_set (i := 3) sc_law_long.nd rfl (.inr rfl) (pe_op op_add pe_int (pe_call (ok_law_at T) (hr.mono (by decide)) (by rfl) T.law_at.g T.law_at.F.kp T.law_at.b .nil pass0 (pa_cons (pv 0) (pa_cons (pv 1) (pa_cons (pe_op op_mul pe_int (pv 2)) pa_nil))))))
      (pss_cons (ps_set (i := 4) sc_law_long.nd rfl (.inr rfl) (pe_lc (own := [("t", 6)]) rfl sc_law_long.nd (pi_range1 (by rfl) T.m_range (pa_cons (pv 3) pa_nil)) (blkOk_by (N := ["draws", "first", "many", "size", "places", "terms", "t"]) (sc := defScope s_law_long) (by decide +kernel)) (fun _ _ _ _ _ => (pg_name (i := 6) sc_law_long.nd rfl (.inl rfl))) (fun _ _ _ _ _ => pts_nil) (fun _ _ _ _ _ => (pe_tup (pa_cons (pe_op op_mod (pe_callTy call_int1 (by rfl) T.m_int (by decide +kernel) (pa_cons (pv 6) pa_nil)) pe_int) (pa_cons (pe_op op_mod (pe_callTy call_int1 (by rfl) T.m_int (by decide +kernel) (pa_cons (pe_op op_fdiv (pv 6) pe_int) pa_nil)) (pv 2)) pa_nil))))))
      (pss_cons (ps_if (PW.pt (pw_or (pt_cmpR op_lt (pv 3) pe_int (nomark _)) (pw_or1 (pt_cmpR op_eq (pe_call (ok_law_at T) (hr.mono (by decide)) (by rfl) T.law_at.g T.law_at.F.kp T.law_at.b .nil pass0 (pa_cons (pv 0) (pa_cons (pe_op op_add (pv 1) pe_int) (pa_cons pe_int pa_nil)))) pe_int (nomark _)))))
        (pss_one (ps_ret (pe_tup (pa_cons pe_str (pa_cons (pe_lc (own := [("t", 6)]) rfl sc_law_long.nd (pi_range1 (by rfl) T.m_range (pa_cons (pv 3) pa_nil)) (blkOk_by (N := ["draws", "first", "many", "size", "places", "terms", "t"]) (sc := defScope s_law_long) (by decide +kernel)) (fun _ _ _ _ _ => (pg_name (i := 6) sc_law_long.nd rfl (.inl rfl))) (fun _ _ _ _ _ => pts_nil) (fun _ _ _ _ _ => (pe_tup (pa_cons (pe_op op_sub (pe_op op_add pe_int (pe_op op_mul pe_int (pv 6))) pe_int) (pa_cons (pe_ix (r := rIxT K) ix_tup (pe_ix (r := rIxL K) ix_list (pv 4) (pv 6) (fun _ _ => rfl)) pe_int (fun _ _ => rfl)) (pa_cons (pe_ix (r := rIxT K) ix_tup (pe_ix (r := rIxL K) ix_list (pv 4) (pv 6) (fun _ _ => rfl)) pe_int (fun _ _ => rfl)) pa_nil)))))) (pa_cons (pe_op op_mulS pe_str pe_int) pa_nil))))))
        pss_nil)
      (pss_cons (ps_setLc (i := 5) (own := [("t", 6)]) rfl sc_law_long.nd rfl rfl (sw_true rfl rfl rfl (by decide +kernel)) (pi_range2 (by rfl) T.m_range (pa_cons pe_int (pa_cons (pv 3) pa_nil))) (blkOk_by (N := ["draws", "first", "many", "size", "places", "terms", "t"]) (sc := defScope s_law_long) (by decide +kernel)) (fun _ _ _ _ _ => (pg_name (i := 6) sc_law_long.nd rfl (.inl rfl))) (fun _ _ _ _ _ => pts_nil) (fun _ _ _ _ _ => (pe_tup (pa_cons (pe_op op_add_str (pe_op op_add_str pe_str (pe_callTy call_str_int (by rfl) T.m_str (by decide +kernel) (pa_cons (pv 6) pa_nil))) (pe_op op_mulS pe_str (pe_op op_mul pe_int (pe_callTy call_int1 (by rfl) T.m_int (by decide +kernel) (pa_cons (pe_cmpR op_eq (pv 6) (pe_op op_sub (pv 3) pe_int) (nomark _)) pa_nil))))) (pa_cons (pe_ix (r := rIxT K) ix_tup (pe_ix (r := rIxL K) ix_list (pv 4) (pv 6) (fun _ _ => rfl)) pe_int (fun _ _ => rfl)) (pa_cons (pe_ix (r := rIxT K) ix_tup (pe_ix (r := rIxL K) ix_list (pv 4) (pv 6) (fun _ _ => rfl)) pe_int (fun _ _ => rfl)) pa_nil))))))
      (pss_one (ps_ret (pe_tup (pa_cons pe_str (pa_cons (pe_ix ix_tup (pe_ix ix_list (pv 4) pe_int (fun _ _ => rfl)) pe_int (fun _ _ => rfl)) (pa_cons (pe_ix ix_tup (pe_ix ix_list (pv 4) pe_int (fun _ _ => rfl)) pe_int (fun _ _ => rfl)) (pa_cons (pv 5) (pa_cons pe_str pa_nil)))))))))))), ?_⟩
    refine ⟨.ref a, rfl, _, rfl, _, rfl, _, _, rfl, rfl, .inl ⟨by decide, by decide⟩, a, ds, _, 4 * (many : Int), rfl, ha, hk, by omega, fun r r1 r2 => ?_⟩
    obtain ⟨size, es, z1, z2, z4⟩ : ∃ n : Nat, (1 + r) = (n : Int) ∧ 1 ≤ n ∧ n ≤ 120 ∧ n ≤ 4 * many := ⟨(1 + r).toNat, by omega, by omega, by omega, by omega⟩
    refine ⟨_, _, rfl, rfl, ?_⟩
    dsimp only
    rw [es]
    refine ⟨_, rfl, (size : Nat), rfl, by omega, by omega, fun D nD => ?_⟩
    rw [Int.toNat_natCast]
    refine lc_inv (walk_range (lo := 0) (n := size)) (fun i G ys => ∃ ps : List (Nat × Nat), A2 (PTX K D G) ys ps ∧ (∀ x ∈ ps, x.1 < 4 ∧ x.2 < many) ∧ ps = (List.range i).map lp) nD (fun _ _ => trivial) (small' (by omega)) ⟨[], .nil, (fun _ z => by cases z), rfl⟩ (fun i x G Hx ys hi sm hD hR y Qt Qf qt qf => ?_) (fun G xs sm hD hR => ?_)
    · obtain ⟨rfl, rfl⟩ := y
      obtain ⟨ps, hA, hb, hn⟩ := hR
      refine ⟨rfl, _, rfl, .inl ⟨_, rfl, _, _, rfl, rfl, (by show (0 : Int) < _; decide), _, rfl, _, _, rfl, rfl, ⟨by decide, by decide⟩, .inl ⟨_, rfl, _, rfl, _, _, rfl, rfl, by omega, by show 2 ≤ sizeLine; decide, fun t nt => ?_⟩⟩⟩
      dsimp only
      obtain ⟨k1, e1⟩ : ∃ j : Nat, (0 + (i : Int)) % 4 = (j : Int) := ⟨((0 + (i : Int)) % 4).toNat, by omega⟩
      have b2 : 0 ≤ (0 + (i : Int)) / 4 % (many : Int) := Int.emod_nonneg _ (by omega)
      have b3 : (0 + (i : Int)) / 4 % (many : Int) < many := Int.emod_lt_of_pos _ (by omega)
      obtain ⟨j1, e2⟩ : ∃ j : Nat, (0 + (i : Int)) / 4 % (many : Int) = (j : Int) := ⟨_, (Int.toNat_of_nonneg b2).symm⟩
      rw [e1, e2]
      have tD : t ≠ D := fun z => by rw [z, hD] at nt; cases nt
      refine qt _ _ (same_upd nt) ⟨ps ++ [(k1, j1)], A2.snoc ⟨t, rfl, tD, .of (by rw [upd_ne tD]; exact upd_same)⟩ (hA.mono fun v b z => PTX.mono _ _ v b ((sx (same_upd nt)).trans SameX.put) z), fun x hx => ?_, by rw [hn, List.range_succ, List.map_append]; congr 1; show [(k1, j1)] = [(i % 4, i / 4)]; rw [Int.zero_add] at e1 e2; rw [Int.emod_eq_of_lt (by omega) (by omega)] at e2; rw [show k1 = i % 4 by omega, show j1 = i / 4 by omega]⟩
      rcases List.mem_append.mp hx with hx | hx
      · exact hb x hx
      · simp at hx; subst hx; exact ⟨by show k1 < 4; omega, by show j1 < many; omega⟩
    · obtain ⟨ps, hA', hb, hn0⟩ := hR
      have hn : ps.length = size := by rw [hn0, List.length_map, List.length_range]
      have hnd : (ps.map cP).Nodup := by rw [hn0]; exact lp_nd _
      have hA : A2 (PT2 K G) xs ps := hA'.mono fun _ _ => PTX.pt
      have el := hA.len
      refine ⟨_, rfl, _, _, rfl, rfl, _, rfl, ?_⟩
      have gw : GS 200 (Txt.mul ("w" : Str) 200) := GS.mul ⟨by decide +kernel, by decide +kernel⟩ (by omega)
      refine ite2 (fun _ => ?_) (fun h2 => ?_)
      ·
        refine ⟨_, rfl, (size : Nat), rfl, by omega, by omega, fun D2 nD2 => ?_⟩
        rw [Int.toNat_natCast]
        refine lc_inv (walk_range (lo := 0) (n := size)) (fun i G2 ys => ∃ ts : List Trm, A2 (TmX K D2 G2) ys ts ∧ (ts.map pl = (ps.take i).map cP ∧ ∀ t ∈ ts, NumT t) ∧ ts.length = i) nD2 (fun _ _ => trivial) (small' (by omega)) ⟨[], .nil, ⟨rfl, fun _ z => by cases z⟩, rfl⟩ (fun i x G2 Hx ys hi sm2 hD2 hR y Qt Qf qt qf => ?_) (fun G2 ys sm2 hD2 hR => ?_)
        · obtain ⟨rfl, rfl⟩ := y
          obtain ⟨ts, hT, he, hn2⟩ := hR
          have hi' : i < ps.length := by omega
          obtain ⟨b, ab, qb⟩ := pl_at hA hi'
          obtain ⟨pk, pj⟩ := hb _ (List.getElem_mem hi')
          rw [← Int.zero_add ((i : Nat) : Int)] at ab
          have hp3 := sm2 _ _ hD
          have qb3 := Same.seqT sm2 qb
          refine ⟨rfl, _, rfl, _, _, rfl, rfl, .inl ⟨by decide, by decide⟩, _, _, rfl, rfl, _, _, rfl, rfl, .ref D, rfl, _, rfl, D, _, _, _, rfl, rfl, .of hp3, ab, b, _, _, _, rfl, rfl, qb3, rfl, .ref D, rfl, _, rfl, D, _, _, _, rfl, rfl, .of hp3, ab, b, _, _, _, rfl, rfl, qb3, rfl, by show 3 ≤ sizeLine; decide, fun t nt3 => ?_⟩
          have tD : t ≠ D2 := fun z => by rw [z, hD2] at nt3; cases nt3
          refine qt _ _ (same_upd nt3) ⟨ts ++ [⟨.inl (1 + 8000 * (0 + (i : Int)) - 500000), (ps[i]).1, (ps[i]).2⟩], A2.snoc ⟨t, rfl, tD, .of (by rw [upd_ne tD]; exact upd_same)⟩ (hT.mono fun v b z => TmX.mono _ _ v b ((sx (same_upd nt3)).trans SameX.put) z), ⟨by rw [List.map_append, he.1, take_map cP hi']; rfl, fun x hx => ?_⟩, by rw [List.length_append, hn2]; rfl⟩
          rcases List.mem_append.mp hx with hx | hx
          · exact he.2 x hx
          · simp at hx; subst hx; exact ⟨_, rfl, by omega, by omega⟩
        · obtain ⟨ts, hT, he, hn2⟩ := hR
          refine ⟨_, _, rfl, rfl, (by decide +kernel), by decide, by decide, by show 3 ≤ sizeLine; decide, fun u nu => ?_⟩
          exact q _ (.ref u) ⟨true, 0, 0, ts, Txt.mul ("w" : Str) 200⟩ D2 (sm.trans (sm2.trans (same_upd nu))) (sm.free nD2) ⟨u, rfl, .inl ⟨rfl, .of upd_same⟩⟩ ⟨_, same_upd nu _ _ hD2, hT.mono fun v b z => (TmX.tm z).same (same_upd nu)⟩ (vl_ex (by rw [he.1, List.take_of_length_le (by omega)]) hb hnd he.2 (.inr nm_w) (by omega))
      · refine ⟨.ref a, rfl, _, rfl, _, _, rfl, rfl, a, ds, _, 2, rfl, ha.same sm, by omega, by decide, fun b0 b1 b2 => ?_⟩
        refine ⟨rfl, _, rfl, ite2 (fun _ => ?_) (fun _ => ?_)⟩
        ·
          refine ⟨_, rfl, (size : Nat), rfl, by omega, by omega, fun D2 nD2 => ?_⟩
          rw [Int.toNat_natCast]
          refine lc_inv (walk_range (lo := 0) (n := size)) (fun i G2 ys => ∃ ts : List Trm, A2 (TmX K D2 G2) ys ts ∧ (ts.map pl = (ps.take i).map cP ∧ ∀ t ∈ ts, NumT t) ∧ ts.length = i) nD2 (fun _ _ => trivial) (small' (by omega)) ⟨[], .nil, ⟨rfl, fun _ z => by cases z⟩, rfl⟩ (fun i x G2 Hx ys hi sm2 hD2 hR y Qt Qf qt qf => ?_) (fun G2 ys sm2 hD2 hR => ?_)
          · obtain ⟨rfl, rfl⟩ := y
            obtain ⟨ts, hT, he, hn2⟩ := hR
            have hi' : i < ps.length := by omega
            obtain ⟨b, ab, qb⟩ := pl_at hA hi'
            obtain ⟨pk, pj⟩ := hb _ (List.getElem_mem hi')
            rw [← Int.zero_add ((i : Nat) : Int)] at ab
            have hp3 := sm2 _ _ hD
            have qb3 := Same.seqT sm2 qb
            refine ⟨rfl, _, rfl, _, _, rfl, rfl, .inl ⟨by decide, by decide⟩, _, _, rfl, rfl, _, _, rfl, rfl, .ref D, rfl, _, rfl, D, _, _, _, rfl, rfl, .of hp3, ab, b, _, _, _, rfl, rfl, qb3, rfl, .ref D, rfl, _, rfl, D, _, _, _, rfl, rfl, .of hp3, ab, b, _, _, _, rfl, rfl, qb3, rfl, by show 3 ≤ sizeLine; decide, fun t nt3 => ?_⟩
            have tD : t ≠ D2 := fun z => by rw [z, hD2] at nt3; cases nt3
            refine qt _ _ (same_upd nt3) ⟨ts ++ [⟨.inl (1 + 8000 * (0 + (i : Int)) - 500000), (ps[i]).1, (ps[i]).2⟩], A2.snoc ⟨t, rfl, tD, .of (by rw [upd_ne tD]; exact upd_same)⟩ (hT.mono fun v b z => TmX.mono _ _ v b ((sx (same_upd nt3)).trans SameX.put) z), ⟨by rw [List.map_append, he.1, take_map cP hi']; rfl, fun x hx => ?_⟩, by rw [List.length_append, hn2]; rfl⟩
            rcases List.mem_append.mp hx with hx | hx
            · exact he.2 x hx
            · simp at hx; subst hx; exact ⟨_, rfl, by omega, by omega⟩
          · obtain ⟨ts, hT, he, hn2⟩ := hR
            refine ⟨_, _, rfl, rfl, (by decide +kernel), by decide, by decide, by show 3 ≤ sizeLine; decide, fun u nu => ?_⟩
            exact q _ (.ref u) ⟨true, 0, 0, ts, Txt.mul ("w" : Str) 200⟩ D2 (sm.trans (sm2.trans (same_upd nu))) (sm.free nD2) ⟨u, rfl, .inl ⟨rfl, .of upd_same⟩⟩ ⟨_, same_upd nu _ _ hD2, hT.mono fun v b z => (TmX.tm z).same (same_upd nu)⟩ (vl_ex (by rw [he.1, List.take_of_length_le (by omega)]) hb hnd he.2 (.inr nm_w) (by omega))
        · have h2' : 2 ≤ size := by
            rcases Nat.lt_or_ge size 2 with z | z
            · exact absurd (decide_eq_true (by omega)) h2
            · exact z
          have eps : ps = ps[0]'(by omega) :: ps.drop 1 := by
            have := List.drop_eq_getElem_cons (l := ps) (i := 0) (by omega)
            rw [List.drop_zero] at this
            exact this
          refine ⟨_, rfl, 1, (size : Nat), rfl, ⟨by decide, by decide, by omega, by omega⟩, fun D2 nD2 => ?_⟩
          refine lc_inv (walk_range (lo := 1) (n := ((size : Nat) - (1 : Int)).toNat)) (fun i G2 ys => ∃ ts : List Trm, A2 (TmX K D2 G2) ys ts ∧ (ts.map pl = ((ps.drop 1).take i).map cP ∧ ∀ (j : Nat) (x : Trm), ts[j]? = some x → x.h = .inr (lgN (decide (j + 1 = size - 1)) (j + 1))) ∧ ts.length = i) nD2 (fun _ _ => trivial) (small' (by omega)) ⟨[], .nil, ⟨rfl, fun j x z => by simp at z⟩, rfl⟩ (fun i x G2 Hx ys hi sm2 hD2 hR y Qt Qf qt qf => ?_) (fun G2 ys sm2 hD2 hR => ?_)
          · obtain ⟨rfl, rfl⟩ := y
            obtain ⟨ts, hT, he, hn2⟩ := hR
            have hi' : 1 + i < ps.length := by omega
            have e1 : (1 + (i : Int)) = ((1 + i : Nat) : Int) := by omega
            obtain ⟨b, ab, qb⟩ := pl_at hA hi'
            obtain ⟨pk, pj⟩ := hb _ (List.getElem_mem hi')
            rw [← e1] at ab
            have hp3 := sm2 _ _ hD
            have qb3 := Same.seqT sm2 qb
            have gt : GS 3 (toString (1 + (i : Int)) : Str) := by rw [e1]; exact GS.int (by omega)
            have lgt : (1 + (i : Int)).natAbs.log2 < 1920 := log_small (by omega)
            have k1 : GS 7 (("long" : Str) ++ (toString (1 + (i : Int)) : Str)) := GS.add (n := 4) ⟨by decide +kernel, by decide +kernel⟩ gt
            have gz : GS 1 ("z" : Str) := ⟨by decide +kernel, by decide +kernel⟩
            have hx : ∀ c : Bool, 190 * (if c = true then (1 : Int) else 0) ≤ 190 ∧ 0 ≤ 190 * (if c = true then (1 : Int) else 0) := fun c => by cases c <;> decide
            have gm : ∀ c : Bool, GS 190 (Txt.mul ("z" : Str) (190 * (if c = true then (1 : Int) else 0))) := fun c => gz.mul (hx c).1
            have k2 := fun c => k1.add (gm c)
            have z1 := k1.1
            rw [Str.length_append] at z1
            have z2 : ∀ c : Bool, (("long" : Str) ++ (toString (1 + (i : Int)) : Str)).length + (Txt.mul ("z" : Str) (190 * (if c = true then (1 : Int) else 0))).length ≤ 197 := fun c => by have := (k2 c).1; rw [Str.length_append] at this; exact this
            let c0 : Bool := decide (V.int (1 + (i : Int)) = V.int ((size : Int) - 1))
            have k5 : GS 200 ((("long" : Str) ++ (toString (1 + (i : Int)) : Str)) ++ (Txt.mul ("z" : Str) (190 * (if c0 = true then (1 : Int) else 0)))) := (k2 c0).mono (by decide)
            refine ⟨rfl, _, rfl, _, rfl, lgt, _, _, rfl, rfl, small (by omega), _, rfl, _, rfl, _, _, rfl, rfl, rfl, .inr ⟨c0, rfl, _, _, rfl, rfl, .inl ⟨by decide, by decide⟩, _, _, rfl, rfl, gz.1, Int.le_trans (by decide) (hx c0).2, Int.le_trans (hx c0).1 (by decide), _, _, rfl, rfl, small (Nat.le_trans (z2 c0) (by decide)),
              .ref D, rfl, _, rfl, D, _, _, _, rfl, rfl, .of hp3, ab, b, _, _, _, rfl, rfl, qb3, rfl, .ref D, rfl, _, rfl, D, _, _, _, rfl, rfl, .of hp3, ab, b, _, _, _, rfl, rfl, qb3, rfl, by show 3 ≤ sizeLine; decide, fun t nt3 => ?_⟩⟩
            have tD : t ≠ D2 := fun z => by rw [z, hD2] at nt3; cases nt3
            refine qt _ _ (same_upd nt3) ⟨ts ++ [⟨.inr ((("long" : Str) ++ (toString (1 + (i : Int)) : Str)) ++ (Txt.mul ("z" : Str) (190 * (if c0 = true then (1 : Int) else 0)))), (ps[1 + i]).1, (ps[1 + i]).2⟩], A2.snoc ⟨t, rfl, tD, .of (by rw [upd_ne tD]; exact upd_same)⟩ (hT.mono fun v b z => TmX.mono _ _ v b ((sx (same_upd nt3)).trans SameX.put) z), ⟨?_, nam_snoc (f := fun j => .inr (lgN (decide (j + 1 = size - 1)) (j + 1))) hn2 he.2 ?_⟩, by rw [List.length_append, hn2]; rfl⟩
            · rw [List.map_append, he.1, take_map cP (xs := ps.drop 1) (i := i) (by rw [List.length_drop]; omega), List.getElem_drop]; rfl
            · have ec : c0 = decide (i + 1 = size - 1) := by
                show decide (V.int (1 + (i : Int)) = V.int ((size : Int) - 1)) = _
                by_cases z : i + 1 = size - 1
                · rw [decide_eq_true z]
                  exact decide_eq_true (by congr 1; omega)
                · rw [decide_eq_false z]
                  exact decide_eq_false fun e => z (by injection e with e; omega)
              show (Sum.inr _ : Hd) = _
              rw [ec, show (1 + (i : Int)) = ((i + 1 : Nat) : Int) by omega]; rfl
          · obtain ⟨ts, hT, he, hn2⟩ := hR
            obtain ⟨b, ab, qb⟩ := pl_at hA (show 0 < ps.length by omega)
            obtain ⟨pk, pj⟩ := hb _ (List.getElem_mem (show 0 < ps.length by omega))
            have hp3 := sm2 _ _ hD
            have qb3 := Same.seqT sm2 qb
            refine ⟨.ref D, rfl, D, _, _, _, rfl, rfl, .of hp3, ab, b, _, _, _, rfl, rfl, qb3, rfl, .ref D, rfl, D, _, _, _, rfl, rfl, .of hp3, ab, b, _, _, _, rfl, rfl, qb3, rfl, _, rfl, by show 5 ≤ sizeLine; decide, fun u nu => ?_⟩
            refine q _ (.ref u) ⟨false, (ps[0]).1, (ps[0]).2, ts, ""⟩ D2 (sm.trans (sm2.trans (same_upd nu))) (sm.free nD2) ⟨u, rfl, .inr ⟨rfl, .of upd_same⟩⟩ ⟨_, same_upd nu _ _ hD2, hT.mono fun v b z => (TmX.tm z).same (same_upd nu)⟩ (vl_lg (p0 := ps[0]) (ps := ps.drop 1) (by rw [he.1, List.take_of_length_le (by rw [List.length_drop]; omega)]) (fun x hx => hb x (by rw [eps]; exact hx)) (by rw [← eps]; exact hnd) (fun z => ?_) (by omega) ?_)
            · rw [z] at hn2
              have : 0 = ((size : Int) - 1).toNat := hn2
              omega
            · have e7 : ts.length = size - 1 := by omega
              rw [e7]
              exact he.2
end
end K05
-- S5
namespace K05
open PySem PySem.Spec PyProof.Rows L2 TL
theorem seqT_x {K : PySem.W.Frag} {D a : Addr} {H H' : Hp} {xs ys : List V} (hD : H D = some (.lst ys)) (s : SameX D H H') (h : SqT K H a xs) : SqT K H' a xs := by
  rcases h with (h | ⟨o, h⟩) | h
  · exact .inl (.inl (s _ _ (fun z => by rw [z, hD] at h; cases h) h))
  · exact .inl (.inr ⟨o, s _ _ (fun z => by rw [z, hD] at h; cases h) h⟩)
  · exact .inr h
theorem A2.put {α β : Type} {R : α → β → Prop} {a : α} {b : β} (h : R a b) : ∀ {as : List α} {bs : List β} {j : Nat}, A2 R as bs → A2 R (as.set j a) (bs.set j b)
  | _, _, _, .nil => .nil
  | _, _, 0, .cons _ t => .cons h t
  | _, _, j + 1, .cons x t => .cons x (A2.put h t)
section
variable {P : Program} {w : World} {K : PySem.W.Frag} {mg : Str → Option Value} {base : Heap}
/-- a law whose list of terms is not D -/
def LWd (K : PySem.W.Frag) (D : Addr) (H : Hp) (v : V) (l : Lw) : Prop := ∃ p, p ≠ D ∧ LWp K H v l p ∧ TsL K H p l.ts
theorem LWd.x {D : Addr} {H H' : Hp} {ys : List V} {v : V} {l : Lw} (hD : H D = some (.lst ys)) (s : SameX D H H') (h : LWd K D H v l) : LWd K D H' v l := by
  obtain ⟨p, n, ⟨a, e, q⟩, xs, hx, hr⟩ := h
  exact ⟨p, n, ⟨a, e, q.imp (fun z => ⟨z.1, seqT_x hD s z.2⟩) fun z => ⟨z.1, seqT_x hD s z.2⟩⟩, xs, s _ _ n hx, hr.mono fun _ _ ⟨b, e, z⟩ => ⟨b, e, seqT_x hD s z⟩⟩
theorem LWd.lw {D : Addr} {H : Hp} {v : V} {l : Lw} (h : LWd K D H v l) : LW K H v l := let ⟨p, _, ⟨a, e, q⟩, t⟩ := h; ⟨a, p, e, t, q⟩
theorem vl_snoc {mn i : Nat} {ls : List Lw} {l : Lw} (hn : ls.length = i) (h : ∀ (j : Nat) (x : Lw), ls[j]? = some x → VL mn (some j) x) (vl : VL mn (some i) l) : ∀ (j : Nat) (x : Lw), (ls ++ [l])[j]? = some x → VL mn (some j) x := fun j x hx => by
  rcases Nat.lt_or_ge j ls.length with lt | ge
  · rw [List.getElem?_append_left lt] at hx
    exact h j x hx
  · rw [List.getElem?_append_right ge] at hx
    have z : j - ls.length = 0 := by
      rcases Nat.eq_zero_or_pos (j - ls.length) with z | z
      · exact z
      · rw [List.getElem?_eq_none (by show 1 ≤ _; omega)] at hx
        cases hx
    rw [z] at hx
    cases hx
    rw [show j = i by omega]
    exact vl
theorem vm_of {qs : List Str} {ls : List Lw} {mn : Nat} (hqn : qs.length = mn) (hm : mn ≤ 30) (hq : QsI mn qs) (hl : ls.length ≤ 40) (h : ∃ sp : Option Nat, ∀ (j : Nat) (x : Lw), ls[j]? = some x → VL mn (if sp = some j then none else some j) x) : VM ⟨qs, ls⟩ :=
  ⟨⟨by show qs.length ≤ 30; omega, hq.qn⟩, hq.nd, hl, by show ∃ sp : Option Nat, ∀ (j : Nat) (x : Lw), ls[j]? = some x → VL qs.length _ x; rw [hqn]; exact h⟩
def sp_law_model (K : PySem.W.Frag) : Sp := fun vs H Q _ => ∃ (a : Addr) (ds : List Int) (k : Int), vs = [.ref a, .int k] ∧ IL H a ds ∧ 0 ≤ k ∧ ∀ H' v m, Same H H' → MD K H' v m → VM m → Q v H'
theorem ok_law_model (T : Txt K mg) : FnOk P w K mg base CX0 4 T.law_model.a T.law_model.fd ["draws", "first"] (sp_law_model K) := by
  refine T.law_model.F.ok sc_law_model (fun vs H Q E h => ?_) (fun cdv A outer s H vs Q E hr h => ?_)
  · obtain ⟨a, ds, k, rfl, _⟩ := h
    rfl
  · obtain ⟨a, ds, k, rfl, ha, hk, q⟩ := h
    refine ⟨_, (pss_cons (ps_set (i := 2) sc_law_model.nd rfl (.inr rfl) (pe_call (ok_law_at T) (hr.mono (by decide)) (by rfl) T.law_at.g T.law_at.F.kp T.law_at.b .nil pass0 (pa_cons (pv 0) (pa_cons (pv 1) (pa_cons pe_int pa_nil)))))
      (pss_cons (ps_set (i := 3) sc_law_model.nd rfl (.inl rfl) (pe_call (ok_law_at T) (hr.mono (by decide)) (by rfl) T.law_at.g T.law_at.F.kp T.law_at.b .nil pass0 (pa_cons (pv 0) (pa_cons (pe_op op_add (pv 1) pe_int) (pa_cons pe_int pa_nil)))))
      (pss_cons (ps_if (pt_cmpR op_eq (pe_call (ok_law_at T) (hr.mono (by decide)) (by rfl) T.law_at.g T.law_at.F.kp T.law_at.b .nil pass0 (pa_cons (pv 0) (pa_cons (pe_op op_add (pv 1) pe_int) (pa_cons pe_int pa_nil)))) pe_int (nomark _))
        (pss_cons (ps_set (i := 2) sc_law_model.nd rfl (.inr rfl) (pe_op op_add pe_int (pe_call (ok_law_at T) (hr.mono (by decide)) (by rfl) T.law_at.g T.law_at.F.kp T.law_at.b .nil pass0 (pa_cons (pv 0) (pa_cons (pv 1) (pa_cons pe_int pa_nil))))))
        (pss_one (ps_set (i := 3) sc_law_model.nd rfl (.inl rfl) (pe_op op_add pe_int (pe_call (ok_law_at T) (hr.mono (by decide)) (by rfl) T.law_at.g T.law_at.F.kp T.law_at.b .nil pass0 (pa_cons (pv 0) (pa_cons (pe_op op_add (pv 1) pe_int) (pa_cons pe_int pa_nil))))))))
        pss_nil)
      (pss_cons (ps_set (i := 4) sc_law_model.nd rfl (.inl rfl) (pe_call (ok_law_quantities T) (hr.mono (by decide)) (by rfl) T.law_quantities.g T.law_quantities.F.kp T.law_quantities.b .nil pass0 (pa_cons (pv 0) (pa_cons (pe_op op_add (pv 1) pe_int) (pa_cons (pv 2) pa_nil)))))
      (pss_cons (ps_setLc (i := 5) (own := [("i", 6)]) rfl sc_law_model.nd rfl rfl (sw_true rfl rfl rfl (by decide +kernel)) (pi_range1 (by rfl) T.m_range (pa_cons (pv 3) pa_nil)) (blkOk_by (N := ["draws", "first", "many", "laws", "quantities", "rows", "i"]) (sc := defScope s_law_model) (by decide +kernel)) (fun _ _ _ _ _ => (pg_name (i := 6) sc_law_model.nd rfl (.inl rfl))) (fun _ _ _ _ _ => pts_nil) (fun _ _ _ _ _ => (pe_call (ok_law_one T) (hr.mono (by decide)) (by rfl) T.law_one.g T.law_one.F.kp T.law_one.b .nil pass0 (pa_cons (pv 0) (pa_cons (pe_op op_add (pe_op op_add (pv 1) pe_int) (pe_op op_mul pe_int (pv 6))) (pa_cons (pv 2) (pa_cons (pv 6) pa_nil)))))))
      (pss_cons (ps_if (pt_cmpR op_gt (pv 2) pe_int (nomark _))
        (pss_one (ps_asg (pe_call (ok_law_long T) (hr.mono (by decide)) (by rfl) T.law_long.g T.law_long.F.kp T.law_long.b .nil pass0 (pa_cons (pv 0) (pa_cons (pe_op op_add (pv 1) pe_int) (pa_cons (pv 2) pa_nil)))) (pg_sub (pv 5) (pe_call (ok_law_at T) (hr.mono (by decide)) (by rfl) T.law_at.g T.law_at.F.kp T.law_at.b .nil pass0 (pa_cons (pv 0) (pa_cons (pe_op op_add (pv 1) pe_int) (pa_cons (pv 3) pa_nil)))) set_list)))
        pss_nil)
      (pss_one (ps_ret (pe_tup (pa_cons (pv 4) (pa_cons (pv 5) pa_nil))))))))))), ?_⟩
    refine ⟨.ref a, rfl, _, rfl, a, ds, k, 7, rfl, ha, hk, by decide, fun m0 m1 m2 => ?_⟩
    refine ⟨.ref a, rfl, _, rfl, _, _, rfl, rfl, a, ds, _, 7, rfl, ha, by omega, by decide, fun l0 l1 l2 => ?_⟩
    refine ⟨.ref a, rfl, _, rfl, _, _, rfl, rfl, a, ds, _, 16, rfl, ha, by omega, by decide, fun c0 c1 c2 => ?_⟩
    refine ⟨rfl, _, rfl, ite2 (fun _ => ?_) (fun _ => ?_)⟩
    · refine ⟨.ref a, rfl, _, rfl, a, ds, k, 2, rfl, ha, hk, by decide, fun n0 n1 n2 => ?_⟩
      refine ⟨_, _, rfl, rfl, .ref a, rfl, _, rfl, _, _, rfl, rfl, a, ds, _, 2, rfl, ha, by omega, by decide, fun o0 o1 o2 => ?_⟩
      refine ⟨_, _, rfl, rfl, ?_⟩
      dsimp only
      obtain ⟨mn, em, hm, hm2⟩ : ∃ n : Nat, 29 + n0 = (n : Int) ∧ n ≤ 30 ∧ True := ⟨(29 + n0).toNat, by omega, by omega, trivial⟩
      obtain ⟨ln, el, hln, hl0⟩ : ∃ n : Nat, 39 + o0 = (n : Int) ∧ n ≤ 40 ∧ (28 < mn → 0 < n) := ⟨(39 + o0).toNat, by omega, by omega, fun _ => by omega⟩
      rw [em, el]
      refine ⟨.ref a, rfl, _, rfl, _, _, rfl, rfl, _, rfl, a, ds, _, mn, rfl, ha, by omega, hm, fun H1 q0 qs s1 nq hq hqn hqg => ?_⟩
      refine ⟨_, rfl, (ln : Nat), rfl, by omega, by omega, fun D nD => ?_⟩
      rw [Int.toNat_natCast]
      refine lc_inv (walk_range (lo := 0) (n := ln)) (fun i G ys => ∃ ls, A2 (LWd K D G) ys ls ∧ (∀ (j : Nat) (x : Lw), ls[j]? = some x → VL mn (some j) x) ∧ ls.length = i) nD (fun _ _ => trivial) (small' (by omega)) ⟨[], .nil, (fun j x z => by simp at z), rfl⟩ (fun i x G Hx ys hi sm hD hR y Qt Qf qt qf => ?_) (fun G xs sm hD hR => ?_)
      · obtain ⟨rfl, rfl⟩ := y
        obtain ⟨ls, hA, hv, hn⟩ := hR
        refine ⟨rfl, .ref a, rfl, _, rfl, _, _, rfl, rfl, _, rfl, _, _, rfl, rfl, .inl ⟨by decide, by decide⟩, _, _, rfl, rfl, _, rfl, _, rfl, a, ds, k + 40 + 12 * (i : Int), mn, i, by show [V.ref a, V.int (k + 40 + 12 * (0 + (i : Int))), V.int (mn : Nat), V.int (0 + (i : Int))] = _; rw [Int.zero_add], ha.same (s1.trans sm), by omega, hm, by omega, fun G2 v l p s2 np lwp tsl vl => ?_⟩
        have pD : p ≠ D := fun z => by rw [z, hD] at np; cases np
        have hD2 := s2 _ _ hD
        refine qt _ _ s2 ⟨ls ++ [l], A2.snoc (LWd.x hD2 SameX.put ⟨p, pD, lwp, tsl⟩) (hA.mono fun v b z => LWd.x hD ((sx s2).trans SameX.put) z), vl_snoc hn hv vl, by rw [List.length_append, hn]; rfl⟩
      · obtain ⟨ls, hA, hv, hn⟩ := hR
        have hq2 := sm _ _ hq
        have qD : q0 ≠ D := fun z => by rw [z, nD] at hq; cases hq
        refine ⟨_, rfl, _, _, rfl, rfl, _, rfl, ite2 (fun h28 => ?_) (fun _ => ?_)⟩
        · have h28 := of_decide_eq_true h28
          refine ⟨.ref a, rfl, _, rfl, _, _, rfl, rfl, _, rfl, a, ds, _, mn, rfl, ha.same (s1.trans sm), by omega, by omega, hm, fun G2 v l p s2 np lwp tsl vl => ?_⟩
          have pD : p ≠ D := fun z => by rw [z, hD] at np; cases np
          have hD2 := s2 _ _ hD
          refine ⟨.ref D, rfl, .ref a, rfl, _, rfl, _, _, rfl, rfl, _, rfl, a, ds, _, (ln : Nat), rfl, ha.same (s1.trans (sm.trans s2)), by omega, by omega, fun r r1 r2 => ?_⟩
          have el := hA.len
          refine ⟨D, _, _, r.toNat, rfl, rfl, hD2, ix_ok (by omega) (by omega), .ref q0, rfl, .ref D, rfl, by show 2 ≤ sizeLine; decide, fun t nt => ?_⟩
          have tD : t ≠ D := fun z => by rw [z, upd_same] at nt; cases nt
          have sF : Same H (upd (upd G2 D (.lst (xs.set r.toNat v))) t (.tup [.ref q0, .ref D])) := (same_over (s1.trans (sm.trans s2)) (s1.free nD)).trans (same_upd nt)
          refine q _ (.ref t) ⟨qs, ls.set r.toNat l⟩ sF ⟨t, q0, D, _, rfl, .of upd_same, same_upd nt _ _ (by rw [upd_ne qD]; exact s2 _ _ hq2), same_upd nt _ _ upd_same, ?_⟩ (vm_of hqn hm hqg (by rw [List.length_set]; omega) ⟨some r.toNat, fun j x hx => ?_⟩)
          · exact A2.put (LW.same (same_upd nt) (LWd.lw (LWd.x hD2 SameX.put ⟨p, pD, lwp, tsl⟩))) (hA.mono fun v b z => LW.same (same_upd nt) (LWd.lw (LWd.x hD ((sx s2).trans SameX.put) z)))
          · by_cases e : r.toNat = j
            · subst e
              rw [List.getElem?_set_self (by omega)] at hx
              cases hx
              rw [if_pos rfl]
              exact vl
            · rw [List.getElem?_set_ne e] at hx
              rw [if_neg (fun z => e (Option.some.inj z))]
              exact hv j x hx
        · refine ⟨.ref q0, rfl, .ref D, rfl, by show 2 ≤ sizeLine; decide, fun t nt => ?_⟩
          refine q _ (.ref t) ⟨qs, ls⟩ (s1.trans (sm.trans (same_upd nt))) ⟨t, q0, D, _, rfl, .of upd_same, same_upd nt _ _ hq2, same_upd nt _ _ hD, hA.mono fun v b z => LW.same (same_upd nt) (LWd.lw z)⟩ (vm_of hqn hm hqg (by omega) ⟨none, fun j x hx => by rw [if_neg (fun z => nomatch z)]; exact hv j x hx⟩)
    · obtain ⟨mn, rfl, hm, hm2⟩ : ∃ n : Nat, m0 = (n : Int) ∧ n ≤ 30 ∧ n < 7 := ⟨m0.toNat, by omega, by omega, by omega⟩
      obtain ⟨ln, rfl, hln, hl0⟩ : ∃ n : Nat, l0 = (n : Int) ∧ n ≤ 40 ∧ (28 < mn → 0 < n) := ⟨l0.toNat, by omega, by omega, fun _ => by omega⟩
      refine ⟨.ref a, rfl, _, rfl, _, _, rfl, rfl, _, rfl, a, ds, _, mn, rfl, ha, by omega, hm, fun H1 q0 qs s1 nq hq hqn hqg => ?_⟩
      refine ⟨_, rfl, (ln : Nat), rfl, by omega, by omega, fun D nD => ?_⟩
      rw [Int.toNat_natCast]
      refine lc_inv (walk_range (lo := 0) (n := ln)) (fun i G ys => ∃ ls, A2 (LWd K D G) ys ls ∧ (∀ (j : Nat) (x : Lw), ls[j]? = some x → VL mn (some j) x) ∧ ls.length = i) nD (fun _ _ => trivial) (small' (by omega)) ⟨[], .nil, (fun j x z => by simp at z), rfl⟩ (fun i x G Hx ys hi sm hD hR y Qt Qf qt qf => ?_) (fun G xs sm hD hR => ?_)
      · obtain ⟨rfl, rfl⟩ := y
        obtain ⟨ls, hA, hv, hn⟩ := hR
        refine ⟨rfl, .ref a, rfl, _, rfl, _, _, rfl, rfl, _, rfl, _, _, rfl, rfl, .inl ⟨by decide, by decide⟩, _, _, rfl, rfl, _, rfl, _, rfl, a, ds, k + 40 + 12 * (i : Int), mn, i, by show [V.ref a, V.int (k + 40 + 12 * (0 + (i : Int))), V.int (mn : Nat), V.int (0 + (i : Int))] = _; rw [Int.zero_add], ha.same (s1.trans sm), by omega, hm, by omega, fun G2 v l p s2 np lwp tsl vl => ?_⟩
        have pD : p ≠ D := fun z => by rw [z, hD] at np; cases np
        have hD2 := s2 _ _ hD
        refine qt _ _ s2 ⟨ls ++ [l], A2.snoc (LWd.x hD2 SameX.put ⟨p, pD, lwp, tsl⟩) (hA.mono fun v b z => LWd.x hD ((sx s2).trans SameX.put) z), vl_snoc hn hv vl, by rw [List.length_append, hn]; rfl⟩
      · obtain ⟨ls, hA, hv, hn⟩ := hR
        have hq2 := sm _ _ hq
        have qD : q0 ≠ D := fun z => by rw [z, nD] at hq; cases hq
        refine ⟨_, rfl, _, _, rfl, rfl, _, rfl, ite2 (fun h28 => ?_) (fun _ => ?_)⟩
        · have h28 := of_decide_eq_true h28
          refine ⟨.ref a, rfl, _, rfl, _, _, rfl, rfl, _, rfl, a, ds, _, mn, rfl, ha.same (s1.trans sm), by omega, by omega, hm, fun G2 v l p s2 np lwp tsl vl => ?_⟩
          have pD : p ≠ D := fun z => by rw [z, hD] at np; cases np
          have hD2 := s2 _ _ hD
          refine ⟨.ref D, rfl, .ref a, rfl, _, rfl, _, _, rfl, rfl, _, rfl, a, ds, _, (ln : Nat), rfl, ha.same (s1.trans (sm.trans s2)), by omega, by omega, fun r r1 r2 => ?_⟩
          have el := hA.len
          refine ⟨D, _, _, r.toNat, rfl, rfl, hD2, ix_ok (by omega) (by omega), .ref q0, rfl, .ref D, rfl, by show 2 ≤ sizeLine; decide, fun t nt => ?_⟩
          have tD : t ≠ D := fun z => by rw [z, upd_same] at nt; cases nt
          have sF : Same H (upd (upd G2 D (.lst (xs.set r.toNat v))) t (.tup [.ref q0, .ref D])) := (same_over (s1.trans (sm.trans s2)) (s1.free nD)).trans (same_upd nt)
          refine q _ (.ref t) ⟨qs, ls.set r.toNat l⟩ sF ⟨t, q0, D, _, rfl, .of upd_same, same_upd nt _ _ (by rw [upd_ne qD]; exact s2 _ _ hq2), same_upd nt _ _ upd_same, ?_⟩ (vm_of hqn hm hqg (by rw [List.length_set]; omega) ⟨some r.toNat, fun j x hx => ?_⟩)
          · exact A2.put (LW.same (same_upd nt) (LWd.lw (LWd.x hD2 SameX.put ⟨p, pD, lwp, tsl⟩))) (hA.mono fun v b z => LW.same (same_upd nt) (LWd.lw (LWd.x hD ((sx s2).trans SameX.put) z)))
          · by_cases e : r.toNat = j
            · subst e
              rw [List.getElem?_set_self (by omega)] at hx
              cases hx
              rw [if_pos rfl]
              exact vl
            · rw [List.getElem?_set_ne e] at hx
              rw [if_neg (fun z => e (Option.some.inj z))]
              exact hv j x hx
        · refine ⟨.ref q0, rfl, .ref D, rfl, by show 2 ≤ sizeLine; decide, fun t nt => ?_⟩
          refine q _ (.ref t) ⟨qs, ls⟩ (s1.trans (sm.trans (same_upd nt))) ⟨t, q0, D, _, rfl, .of upd_same, same_upd nt _ _ hq2, same_upd nt _ _ hD, hA.mono fun v b z => LW.same (same_upd nt) (LWd.lw z)⟩ (vm_of hqn hm hqg (by omega) ⟨none, fun j x hx => by rw [if_neg (fun z => nomatch z)]; exact hv j x hx⟩)
end
end K05
-- T5
namespace K05
open PySem PySem.Spec PyProof.Rows L2 TL
/-! ### a drawn model is one -/
theorem GS.up {n m : Nat} {s : Str} (h : GS n s) (l : n ≤ m) : GS m s := ⟨Nat.le_trans h.1 l, h.2⟩
theorem gs_empty (n : Nat) : GS n "" := ⟨Nat.zero_le _, fun c hc => by cases hc⟩
theorem VL.name {many : Nat} {fam : Option Nat} {l : Lw} (h : VL many fam l) (ex : l.ex = false) {i : Nat} {t : Trm} (ht : l.ts[i]? = some t) : ∃ s : Str, t.h = .inr s ∧ NM s := by
  have lt : i < l.ts.length := (List.getElem?_eq_some_iff.mp ht).1
  cases fam with
  | some n =>
    obtain ⟨hn, h7, nm⟩ := (h.sz ex).2 n rfl
    exact ⟨_, nm i t ht, (sz_f hn (by omega)).nm⟩
  | none =>
    obtain ⟨h7, nm⟩ := h.lg ex rfl
    exact ⟨_, nm i t ht, (lg_f (by omega)).nm⟩
theorem VL.bl {many : Nat} {fam : Option Nat} {l : Lw} (h : VL many fam l) (hm : many ≤ 30) : BL l := by
  have tp : ∀ t ∈ l.ts, (t.k, t.j) ∈ l.places := fun t ht => by
    unfold Lw.places
    cases l.ex with
    | true => exact List.mem_map.mpr ⟨t, ht, rfl⟩
    | false => exact List.mem_cons_of_mem _ (List.mem_map.mpr ⟨t, ht, rfl⟩)
  refine ⟨fun t ht => ?_, ?_, fun ex t ht => ?_, fun ex t ht => ?_, ?_, by have := h.many; omega⟩
  · obtain ⟨a, b, c, d⟩ := h.rg _ (tp t ht)
    simp only at a b c d
    omega
  · cases ex : l.ex with
    | true =>
      obtain ⟨a, b, _⟩ := h.num ex
      rw [a, b]
      decide
    | false =>
      have : (l.k, l.j) ∈ l.places := by unfold Lw.places; rw [ex]; exact List.mem_cons_self
      obtain ⟨a, b, c, d⟩ := h.rg _ this
      simp only at a b c d
      omega
  · obtain ⟨n, e, _, b⟩ := (h.num ex).2.2 t ht
    exact ⟨n, e, by omega⟩
  · obtain ⟨i, hi, e⟩ := List.getElem_of_mem ht
    obtain ⟨s, e2, nm⟩ := h.name ex (i := i) (t := t) (by rw [List.getElem?_eq_getElem hi, e])
    exact ⟨s, e2, nm.gs.up (by decide)⟩
  · rcases h.src with e | e
    · rw [e]; exact gs_empty _
    · exact e.gs.up (by decide)
theorem VM.law {m : Mdl} (h : VM m) : ∀ l ∈ m.ls, ∃ fam, VL m.qs.length fam l := fun l hl => by
  obtain ⟨sp, ok⟩ := h.ok
  obtain ⟨i, hi, e⟩ := List.getElem_of_mem hl
  exact ⟨_, ok i l (by rw [List.getElem?_eq_getElem hi, e])⟩
theorem VM.bm {m : Mdl} (h : VM m) : BM m :=
  ⟨⟨by have := h.qs.1; omega, fun q hq => (h.qs.2 q hq).nm.gs.up (by decide)⟩, by have := h.ls; omega, fun l hl => let ⟨_, v⟩ := h.law l hl; v.bl h.qs.1⟩
/-- a number for each name of a size -/
def codeS (s : Str) : Nat := if (tl s)[1]? = some 111 then 1000 + dval (tl s) else dval (tl s)
def codeH : Hd → Nat
  | .inl _ => 0
  | .inr s => codeS s
theorem code_sz {n t : Nat} (hn : n < 41) (ht : t < 8) : codeS (szN n t) = 10 * n + t := by
  have f := sz_f hn ht
  unfold codeS
  rw [if_neg f.two, f.val]
theorem code_lg {b : Bool} {t : Nat} (ht : t < 121) : codeS (lgN b t) = 1000 + t := by
  have f := lg_f (b := b) ht
  unfold codeS
  rw [if_pos f.two, f.val]
def baseOf (fam : Option Nat) : Nat := match fam with
  | some n => 10 * n
  | none => 1000
theorem VL.code {many : Nat} {fam : Option Nat} {l : Lw} (h : VL many fam l) (ex : l.ex = false) {i : Nat} {t : Trm} (ht : l.ts[i]? = some t) : codeH t.h = baseOf fam + (i + 1) ∧ (∀ n, fam = some n → n < 41 ∧ i < 7) ∧ (fam = none → i < 120) := by
  have lt : i < l.ts.length := (List.getElem?_eq_some_iff.mp ht).1
  cases fam with
  | some n =>
    obtain ⟨hn, h7, nm⟩ := (h.sz ex).2 n rfl
    refine ⟨?_, fun m e => ?_, fun z => by cases z⟩
    · rw [nm i t ht]
      exact code_sz hn (by omega)
    · injection e with e
      omega
  | none =>
    obtain ⟨h7, nm⟩ := h.lg ex rfl
    refine ⟨?_, fun m e => (by cases e), fun _ => by omega⟩
    rw [nm i t ht]
    exact code_lg (by omega)
theorem heads_mem {l : Lw} {x : Hd} (h : x ∈ l.heads) : l.ex = false ∧ ∃ (i : Nat) (t : Trm), l.ts[i]? = some t ∧ x = t.h := by
  unfold Lw.heads at h
  cases ex : l.ex with
  | true => rw [ex] at h; cases h
  | false =>
    rw [ex] at h
    obtain ⟨t, ht, e⟩ := List.mem_map.mp h
    obtain ⟨i, hi, e2⟩ := List.getElem_of_mem ht
    exact ⟨rfl, i, t, by rw [List.getElem?_eq_getElem hi, e2], e.symm⟩
theorem VL.heads_nd {many : Nat} {fam : Option Nat} {l : Lw} (h : VL many fam l) : l.heads.Nodup := by
  unfold Lw.heads
  cases ex : l.ex with
  | true => exact List.nodup_nil
  | false =>
    show (l.ts.map (·.h)).Nodup
    unfold List.Nodup
    rw [List.pairwise_iff_getElem]
    intro i j hi hj lt e
    rw [List.length_map] at hi hj
    rw [List.getElem_map, List.getElem_map] at e
    have a := (h.code ex (i := i) (t := l.ts[i]) (List.getElem?_eq_getElem hi)).1
    have b := (h.code ex (i := j) (t := l.ts[j]) (List.getElem?_eq_getElem hj)).1
    rw [e] at a
    omega
theorem VM.ok' {m : Mdl} (h : VM m) : OkM m := by
  obtain ⟨sp, ok⟩ := h.ok
  have nmh : ∀ l ∈ m.ls, ∀ x ∈ l.heads, NMh x := fun l hl x hx => by
    obtain ⟨fam, v⟩ := h.law l hl
    obtain ⟨ex, i, t, ht, rfl⟩ := heads_mem hx
    obtain ⟨s, e, nm⟩ := v.name ex ht
    rw [e]; exact nm
  refine ⟨h.qs.1, h.ls, fun l hl => ?_, fun x hx => ?_, ?_⟩
  · obtain ⟨fam, v⟩ := h.law l hl
    refine ⟨fun p hp => ?_, v.nd, v.src, fun ex t ht n e => ?_, fun ex => (v.sz ex).1⟩
    · obtain ⟨a, b, c, d⟩ := v.rg p hp
      exact ⟨a, by omega, c, d⟩
    · obtain ⟨n', e', a, b⟩ := (v.num ex).2.2 t ht
      rw [e] at e'
      injection e' with e'
      exact e' ▸ ⟨a, b⟩
  · rcases List.mem_append.mp hx with hx | hx
    · obtain ⟨s, hs, rfl⟩ := List.mem_map.mp hx
      exact (h.qs.2 s hs).nm
    · obtain ⟨hl, h1, h2⟩ := List.mem_flatten.mp hx
      obtain ⟨l, hl, rfl⟩ := List.mem_map.mp h1
      exact nmh l hl x h2
  · unfold Nms
    rw [List.nodup_append]
    refine ⟨(nodup_inr _).mpr h.nd, ?_, fun x hx y hy e => ?_⟩
    · unfold Mdl.heads List.Nodup
      rw [List.pairwise_flatten]
      refine ⟨fun hs hh => ?_, ?_⟩
      · obtain ⟨l, hl, rfl⟩ := List.mem_map.mp hh
        obtain ⟨fam, v⟩ := h.law l hl
        exact v.heads_nd
      · rw [List.pairwise_iff_getElem]
        intro i j hi hj lt x hx y hy e
        rw [List.length_map] at hi hj
        rw [List.getElem_map] at hx hy
        have vi := ok i m.ls[i] (List.getElem?_eq_getElem hi)
        have vj := ok j m.ls[j] (List.getElem?_eq_getElem hj)
        obtain ⟨ex1, a, t1, h1, rfl⟩ := heads_mem hx
        obtain ⟨ex2, b, t2, h2, rfl⟩ := heads_mem hy
        obtain ⟨c1, c2, c3⟩ := vi.code ex1 h1
        obtain ⟨d1, d2, d3⟩ := vj.code ex2 h2
        rw [e, d1] at c1
        by_cases si : sp = some i
        · have sj : ¬ sp = some j := fun z => by rw [si] at z; injection z with z; omega
          rw [if_pos si] at c1
          rw [if_neg sj] at c1 d2
          have := d2 j rfl
          unfold baseOf at c1
          simp only at c1
          omega
        · rw [if_neg si] at c1 c2
          have q1 := c2 i rfl
          by_cases sj : sp = some j
          · rw [if_pos sj] at c1
            unfold baseOf at c1
            simp only at c1
            omega
          · rw [if_neg sj] at c1 d2
            have q2 := d2 j rfl
            unfold baseOf at c1
            simp only at c1
            omega
    · obtain ⟨s, hs, rfl⟩ := List.mem_map.mp hx
      obtain ⟨hl, h1, h2⟩ := List.mem_flatten.mp hy
      obtain ⟨l, hl, rfl⟩ := List.mem_map.mp h1
      obtain ⟨fam, v⟩ := h.law l hl
      obtain ⟨ex, i, t, ht, rfl⟩ := heads_mem h2
      have lt : i < l.ts.length := (List.getElem?_eq_some_iff.mp ht).1
      have qn := h.qs.2 s hs
      cases fam with
      | some n =>
        obtain ⟨hn, h7, nm⟩ := (v.sz ex).2 n rfl
        rw [nm i t ht] at e
        injection e with e
        exact qn.dot (i + 1) (by omega) (by rw [e]; exact (sz_f hn (by omega)).dot)
      | none =>
        obtain ⟨h7, nm⟩ := v.lg ex rfl
        rw [nm i t ht] at e
        injection e with e
        exact qn.two (by rw [e]; exact (lg_f (by omega)).two)
end K05
-- U5
namespace K05
open PySem PySem.Spec PyProof.Rows L2 TL
section
variable {P : Program} {w : World} {K : PySem.W.Frag} {mg : Str → Option Value} {base : Heap}
/-! ### bad names -/
def sp_law_bad_name : Sp := fun vs H Q _ => ∃ (cell : Int) (good : Str), vs = [.int cell, .str good] ∧ 0 ≤ cell ∧ GS 300 good ∧ ∀ s H', Same H H' → GS 600 s → Q (.str s) H'
theorem ok_law_bad_name (T : Txt K mg) : FnOk P w K mg base CX0 1 T.law_bad_name.a T.law_bad_name.fd ["cell", "good"] sp_law_bad_name := by
  refine T.law_bad_name.F.ok sc_law_bad_name (fun vs H Q E h => ?_) (fun cdv A outer s H vs Q E hr h => ?_)
  · obtain ⟨c, g, rfl, _⟩ := h
    rfl
  · obtain ⟨cell, good, rfl, hc, gg, q⟩ := h
    refine ⟨_, (pss_cons (ps_set (i := 2) sc_law_bad_name.nd rfl (.inl rfl) (pe_lst (pa_cons pe_str (pa_cons pe_str (pa_cons pe_str (pa_cons pe_str (pa_cons pe_str (pa_cons pe_str (pa_cons pe_str (pa_cons pe_str (pa_cons pe_str (pa_cons (pe_op op_add_str (pv 1) (pe_op op_mulS pe_str (pe_op op_sub pe_int (pe_callB call_len_str (by rfl) T.m_len (by decide +kernel) (pa_cons (pv 1) pa_nil))))) (pa_cons pe_str (pa_cons pe_str pa_nil))))))))))))))
      (pss_cons (ps_set (i := 2) sc_law_bad_name.nd rfl (.inl rfl) (pe_op op_cat (pv 2) (pe_lst (pa_cons (pe_op op_add_str (pv 1) pe_str) (pa_cons pe_str (pa_cons pe_str (pa_cons pe_str (pa_cons pe_str (pa_cons pe_str (pa_cons pe_str (pa_cons pe_str (pa_cons pe_str (pa_cons pe_str pa_nil)))))))))))))
      (pss_one (ps_ret (pe_ix ix_list (pv 2) (pe_op op_mod (pe_callTy call_int1 (by rfl) T.m_int (by decide +kernel) (pa_cons (pv 0) pa_nil)) (pe_callB call_len_seq (by rfl) T.m_len (by decide +kernel) (pa_cons (pv 2) pa_nil))) (fun _ _ => rfl)))))), ?_⟩
    have gz : GS 1 ("z" : Str) := ⟨by decide +kernel, by decide +kernel⟩
    have gm : GS 201 (Txt.mul ("z" : Str) (201 - (good.length : Nat))) := gz.mul (by omega)
    have g5 := gg.add gm
    have l3 := gg.1
    have lm := gm.1
    have gq : GS 301 (good ++ ("'" : Str)) := GS.add (m := 1) (t := ("'" : Str)) gg ⟨by decide +kernel, by decide +kernel⟩
    refine ⟨_, rfl, _, rfl, good, rfl, small (by omega), _, _, rfl, rfl, _, _, rfl, rfl, by decide, by omega, by omega, _, _, rfl, rfl, small (by omega), by show 12 ≤ sizeLine; decide, fun l hl => ?_⟩
    refine ⟨_, rfl, _, rfl, _, _, rfl, rfl, small (by show good.length + 1 ≤ _; omega), by show 10 ≤ sizeLine; decide, fun u nu => ?_⟩
    refine ⟨l, u, _, _, rfl, rfl, same_upd nu _ _ upd_same, upd_same, by show 12 + 10 ≤ sizeLine; decide, fun p np => ?_⟩
    refine ⟨.ref p, rfl, _, rfl, .inl ⟨_, rfl, .ref p, rfl, p, _, rfl, .inl (.of upd_same), _, _, rfl, rfl, by show (0 : Int) < 22; decide, ?_⟩⟩
    obtain ⟨v, hv, m⟩ := at_ex (xs := ([V.str "", V.str "A", V.str "1a", V.str ".a", V.str "a.", V.str "a..b", V.str "a.1", V.str "a_b", V.str "a b", V.str (good ++ Txt.mul ("z" : Str) (201 - (good.length : Nat))), V.str "a.B", V.str "-a"] ++ [V.str (good ++ ("'" : Str)), V.str "a*b", V.str "a+b", V.str "a=b", V.str "~a", V.str "a|b", V.str "a,b", V.str "a\nb", V.str "a/b", V.str "a&b"])) (i := cell % 22) (by omega) (by show cell % 22 < 22; omega)
    obtain ⟨s, rfl, gs⟩ : ∃ s : Str, v = .str s ∧ GS 600 s := by
      have lit : ∀ s : Str, (decide (s.length ≤ 600) && s.cps.toList.all fun c => decide (c < 200)) = true → ∃ s' : Str, V.str s = .str s' ∧ GS 600 s' := fun s h => by
        rw [Bool.and_eq_true, decide_eq_true_eq, List.all_eq_true] at h
        exact ⟨s, rfl, h.1, fun c hc => of_decide_eq_true (h.2 c hc)⟩
      simp only [List.cons_append, List.nil_append, List.mem_cons, List.not_mem_nil, or_false] at m
      rcases m with rfl | rfl | rfl | rfl | rfl | rfl | rfl | rfl | rfl | rfl | rfl | rfl | rfl | rfl | rfl | rfl | rfl | rfl | rfl | rfl | rfl | rfl
      all_goals first
        | exact ⟨_, rfl, g5.up (by decide)⟩
        | exact ⟨_, rfl, gq.up (by decide)⟩
        | exact lit _ (by decide +kernel)
    exact ⟨p, _, _, _, rfl, rfl, .of upd_same, hv, q s _ ((same_upd hl).trans ((same_upd nu).trans (same_upd np))) gs⟩
/-! ### spoilt models -/
/-- a text that is plain, by looking -/
def gsB (n : Nat) (s : Str) : Bool := decide (s.length ≤ n) && s.cps.toList.all fun c => decide (c < 200)
theorem gs_of {n : Nat} {s : Str} (h : gsB n s = true) : GS n s := by
  unfold gsB at h
  rw [Bool.and_eq_true, decide_eq_true_eq, List.all_eq_true] at h
  exact ⟨h.1, fun c hc => of_decide_eq_true (h.2 c hc)⟩
/-- a law whose list of terms is neither q nor r -/
def LWe (K : PySem.W.Frag) (q r : Addr) (H : Hp) (v : V) (l : Lw) : Prop := ∃ p, p ≠ q ∧ p ≠ r ∧ LWp K H v l p ∧ TsL K H p l.ts
theorem LWe.x {q r D : Addr} {H H' : Hp} {ys : List V} {v : V} {l : Lw} (hD : H D = some (.lst ys)) (s : SameX D H H') (d : D = q ∨ D = r) (h : LWe K q r H v l) : LWe K q r H' v l := by
  obtain ⟨p, n1, n2, ⟨a, e, z⟩, xs, hx, hr⟩ := h
  have nd : p ≠ D := by
    rcases d with d | d
    · rw [d]; exact n1
    · rw [d]; exact n2
  exact ⟨p, n1, n2, ⟨a, e, z.imp (fun z => ⟨z.1, seqT_x hD s z.2⟩) fun z => ⟨z.1, seqT_x hD s z.2⟩⟩, xs, s _ _ nd hx, hr.mono fun _ _ ⟨b, e, z⟩ => ⟨b, e, seqT_x hD s z⟩⟩
theorem LWe.same {q r : Addr} {H H' : Hp} {v : V} {l : Lw} (s : Same H H') (h : LWe K q r H v l) : LWe K q r H' v l := let ⟨p, a, b, c, d⟩ := h; ⟨p, a, b, c.same s, d.same s⟩
theorem LWe.lw {q r : Addr} {H : Hp} {v : V} {l : Lw} (h : LWe K q r H v l) : LW K H v l := let ⟨p, _, _, ⟨a, e, z⟩, t⟩ := h; ⟨a, p, e, t, z⟩
/-- bounded, and long names only where the terms are few -/
def BLf (l : Lw) : Prop := BL l ∧ (l.ex = false → (∀ t ∈ l.ts, ∀ s : Str, t.h = .inr s → GS 200 s) ∨ l.ts.length ≤ 4)
def FW (m : Mdl) : Prop := m.ls.length ≤ 50 ∧ ∀ l ∈ m.ls, BLf l
theorem VM.blf {m : Mdl} (h : VM m) : ∀ l ∈ m.ls, BLf l := fun l hl => by
  refine ⟨h.bm.ok l hl, fun ex => .inl fun t ht s hs => ?_⟩
  obtain ⟨fam, vl⟩ := h.law l hl
  obtain ⟨i, hi⟩ := List.mem_iff_getElem?.mp ht
  obtain ⟨s', e, n⟩ := vl.name ex hi
  rw [hs] at e
  cases e
  exact n.gs
theorem VM.fw {m : Mdl} (h : VM m) : FW m := ⟨Nat.le_trans h.ls (by decide), h.blf⟩
theorem gd_lwf {l : Lw} (h : BLf l) : Gd 3 276000 (dLw l) := by
  have hl : Gd 2 267000 (.list (l.ts.map dTm)) := by
    cases e : l.ex with
    | true =>
      refine (Gd.list (GdAll.map (n := 2034) fun t ht => ?_)).mono (Nat.le_refl _) (by have := h.1.many; show l.ts.length * 2036 + 2 ≤ 267000; omega)
      obtain ⟨a, b⟩ := h.1.ts t ht
      obtain ⟨n, e2, c⟩ := h.1.num e t ht
      exact ((Gd.tup (.cons ((e2 ▸ Gd.int c : Gd 0 9 (dH t.h))) (.cons (Gd.int a) (.cons (Gd.int b) .nil)))).mono (Nat.le_refl _) (by decide))
    | false =>
      rcases h.2 e with f | f
      · refine (Gd.list (GdAll.map (n := 2034) fun t ht => ?_)).mono (Nat.le_refl _) (by have := h.1.many; show l.ts.length * 2036 + 2 ≤ 267000; omega)
        obtain ⟨a, b⟩ := h.1.ts t ht
        obtain ⟨s, e2, _⟩ := h.1.nam e t ht
        exact ((Gd.tup (.cons ((e2 ▸ Gd.str (n := 200) (f t ht s e2) : Gd 0 2002 (dH t.h))) (.cons (Gd.int a) (.cons (Gd.int b) .nil)))).mono (Nat.le_refl _) (by decide))
      · refine (Gd.list (GdAll.map (n := 7033) fun t ht => ?_)).mono (Nat.le_refl _) (by show l.ts.length * 7035 + 2 ≤ 267000; omega)
        obtain ⟨a, b⟩ := h.1.ts t ht
        obtain ⟨s, e2, c⟩ := h.1.nam e t ht
        exact gd_tm a b (e2 ▸ Gd.str (n := 700) c)
  have hs : Gd 2 7002 (.str l.src) := (Gd.str (n := 700) h.1.src).mono (by decide) (Nat.le_refl _)
  unfold dLw
  cases e : l.ex with
  | true =>
    have he : Gd 2 52 (.str "exact") := (Gd.str (n := 5) ⟨by decide +kernel, by decide +kernel⟩).mono (by decide) (Nat.le_refl _)
    exact (Gd.tup (.cons he (.cons hl (.cons hs .nil)))).mono (Nat.le_refl _) (by decide)
  | false =>
    have he : Gd 2 52 (.str "sized") := (Gd.str (n := 5) ⟨by decide +kernel, by decide +kernel⟩).mono (by decide) (Nat.le_refl _)
    have hi : ∀ x : Int, x.natAbs < 10 ^ 8 → Gd 2 9 (.int x) := fun x hx => (Gd.int hx).mono (by decide) (Nat.le_refl _)
    exact (Gd.tup (.cons he (.cons (hi _ h.1.own.1) (.cons (hi _ h.1.own.2) (.cons hl (.cons hs .nil)))))).mono (Nat.le_refl _) (by decide)
theorem gd_mdf {m : Mdl} (h : BM m) (f : FW m) : Gd 5 16000000 (dMd m) := by
  have h1 : Gd 1 460000 (.list (m.qs.map PyData.str)) := (Gd.list (GdAll.map (n := 7002) fun q hq => Gd.str (n := 700) (h.qs.2 q hq))).mono (Nat.le_refl _) (by have := h.qs.1; show m.qs.length * 7004 + 2 ≤ 460000; omega)
  have h2 : Gd 4 13900000 (.list (m.ls.map dLw)) := (Gd.list (GdAll.map fun l hl => gd_lwf (f.2 l hl))).mono (Nat.le_refl _) (by have := f.1; show m.ls.length * 276002 + 2 ≤ 13900000; omega)
  exact (Gd.tup (.cons (h1.mono (by decide) (Nat.le_refl _)) (.cons h2 .nil))).mono (Nat.le_refl _) (by decide)
/-- the copies as they stand: the names at q1, the laws at r1 -/
structure Cpy (K : PySem.W.Frag) (H G : Hp) (q1 r1 : Addr) (qs : List Str) (ys : List V) (ls : List Lw) : Prop where
  sm : Same H G
  nq : H q1 = none
  nr : H r1 = none
  hq : G q1 = some (.lst (qs.map V.str))
  hr : G r1 = some (.lst ys)
  ne : q1 ≠ r1
  hA : A2 (LWe K q1 r1 G) ys ls
  bm : qs.length ≤ 31 ∧ ls.length ≤ 44 ∧ (∀ q ∈ qs, GS 700 q) ∧ ∀ l ∈ ls, BLf l
theorem Cpy.same {H G G' : Hp} {q1 r1 : Addr} {qs : List Str} {ys : List V} {ls : List Lw} (c : Cpy K H G q1 r1 qs ys ls) (s : Same G G') : Cpy K H G' q1 r1 qs ys ls :=
  ⟨c.sm.trans s, c.nq, c.nr, s _ _ c.hq, s _ _ c.hr, c.ne, c.hA.mono fun _ _ z => z.same s, c.bm⟩
/-- a law put behind -/
theorem Cpy.app {H G : Hp} {q1 r1 : Addr} {qs : List Str} {ys : List V} {ls : List Lw} (c : Cpy K H G q1 r1 qs ys ls) {v : V} {l : Lw} (hl : LWe K q1 r1 G v l) (bl : BLf l) (hn : ls.length ≤ 43) : Cpy K H (upd G r1 (.lst (ys ++ [v]))) q1 r1 qs (ys ++ [v]) (ls ++ [l]) := by
  refine ⟨same_over c.sm c.nr, c.nq, c.nr, by rw [upd_ne c.ne]; exact c.hq, upd_same, c.ne, A2.snoc (hl.x c.hr SameX.put (.inr rfl)) (c.hA.mono fun _ _ z => z.x c.hr SameX.put (.inr rfl)), c.bm.1, by rw [List.length_append]; exact Nat.succ_le_succ hn, c.bm.2.2.1, fun x hx => ?_⟩
  rcases List.mem_append.mp hx with hx | hx
  · exact c.bm.2.2.2 x hx
  · rw [List.mem_singleton.mp hx]; exact bl
theorem dF {A B : Prop} {c : Bool} (h : c = false) (b : B) : if c = true then A else B := by rw [if_neg (by rw [h]; decide)]; exact b
theorem dT {A B : Prop} {c : Bool} (h : c = true) (a : A) : if c = true then A else B := by rw [if_pos h]; exact a
theorem dne {i j : Int} (h : i ≠ j) : decide (V.int i = V.int j) = false := decide_eq_false fun e => h (V.int.inj e)
theorem deq {i j : Int} (h : i = j) : decide (V.int i = V.int j) = true := decide_eq_true (congrArg V.int h)
theorem new_ex {G : Hp} {q1 r1 p a : Addr} {xs : List V} {ts : List Trm} {src : Str} (hp : G p = some (.lst xs)) (hT : A2 (TmV K G) xs ts) (n : p ≠ q1 ∧ p ≠ r1) (ha : G a = some (.tup [.str "exact", .ref p, .str src])) : LWe K q1 r1 G (.ref a) ⟨true, 0, 0, ts, src⟩ := ⟨p, n.1, n.2, ⟨a, rfl, .inl ⟨rfl, .of ha⟩⟩, xs, hp, hT⟩
theorem new_sz {G : Hp} {q1 r1 p a : Addr} {xs : List V} {ts : List Trm} {src : Str} {k j : Int} (hp : G p = some (.lst xs)) (hT : A2 (TmV K G) xs ts) (n : p ≠ q1 ∧ p ≠ r1) (ha : G a = some (.tup [.str "sized", .int k, .int j, .ref p, .str src])) : LWe K q1 r1 G (.ref a) ⟨false, k, j, ts, src⟩ := ⟨p, n.1, n.2, ⟨a, rfl, .inr ⟨rfl, .of ha⟩⟩, xs, hp, hT⟩
theorem bl_ex {ts : List Trm} {src : Str} (h : ∀ t ∈ ts, t.k.natAbs < 10 ^ 8 ∧ t.j.natAbs < 10 ^ 8 ∧ ∃ n : Int, t.h = .inl n ∧ n.natAbs < 10 ^ 8) (gs : GS 700 src) (hl : ts.length ≤ 131) : BLf ⟨true, 0, 0, ts, src⟩ :=
  ⟨⟨fun t ht => ⟨(h t ht).1, (h t ht).2.1⟩, ⟨by show (0 : Int).natAbs < _; decide, by show (0 : Int).natAbs < _; decide⟩, fun _ t ht => (h t ht).2.2, (fun z => by cases z), gs, hl⟩, fun z => by cases z⟩
theorem bl_sz {k j : Int} {ts : List Trm} {src : Str} (hk : k.natAbs < 10 ^ 8) (hj : j.natAbs < 10 ^ 8) (h : ∀ t ∈ ts, t.k.natAbs < 10 ^ 8 ∧ t.j.natAbs < 10 ^ 8 ∧ ∃ s : Str, t.h = .inr s ∧ GS 700 s) (gs : GS 700 src) (hl : ts.length ≤ 4) : BLf ⟨false, k, j, ts, src⟩ :=
  ⟨⟨fun t ht => ⟨(h t ht).1, (h t ht).2.1⟩, ⟨hk, hj⟩, (fun z => by cases z), fun _ t ht => (h t ht).2.2, gs, Nat.le_trans hl (by decide)⟩, fun _ => .inr hl⟩
theorem Cpy.ner {H G : Hp} {q1 r1 : Addr} {qs : List Str} {ys : List V} {ls : List Lw} (c : Cpy K H G q1 r1 qs ys ls) {p : Addr} (h : G p = none) : p ≠ q1 ∧ p ≠ r1 := ⟨fun z => (by rw [z, c.hq] at h; cases h), fun z => (by rw [z, c.hr] at h; cases h)⟩
/-- a name put in the place of another one -/
theorem Cpy.putq {H G : Hp} {q1 r1 : Addr} {qs : List Str} {ys : List V} {ls : List Lw} (c : Cpy K H G q1 r1 qs ys ls) {j : Nat} {s : Str} (gs : GS 700 s) : Cpy K H (upd G q1 (.lst ((qs.map V.str).set j (.str s)))) q1 r1 (qs.set j s) ys ls := by
  have e : (qs.map V.str).set j (.str s) = (qs.set j s).map V.str := by rw [List.map_set]
  refine ⟨same_over c.sm c.nq, c.nq, c.nr, by rw [upd_same, e], by rw [upd_ne c.ne.symm]; exact c.hr, c.ne, c.hA.mono fun v l z => z.x c.hq SameX.put (.inl rfl), by rw [List.length_set]; exact c.bm.1, c.bm.2.1, fun x hx => ?_, c.bm.2.2.2⟩
  rcases List.mem_or_eq_of_mem_set hx with hx | rfl
  · exact c.bm.2.2.1 x hx
  · exact gs
/-- a law put in the place of another one -/
theorem Cpy.putr {H G : Hp} {q1 r1 : Addr} {qs : List Str} {ys : List V} {ls : List Lw} (c : Cpy K H G q1 r1 qs ys ls) {j : Nat} {v : V} {l : Lw} (hl : LWe K q1 r1 G v l) (bl : BLf l) : Cpy K H (upd G r1 (.lst (ys.set j v))) q1 r1 qs (ys.set j v) (ls.set j l) := by
  refine ⟨same_over c.sm c.nr, c.nq, c.nr, by rw [upd_ne c.ne]; exact c.hq, upd_same, c.ne, A2.put (hl.x c.hr SameX.put (.inr rfl)) (c.hA.mono fun v l z => z.x c.hr SameX.put (.inr rfl)), c.bm.1, by rw [List.length_set]; exact c.bm.2.1, c.bm.2.2.1, fun x hx => ?_⟩
  rcases List.mem_or_eq_of_mem_set hx with hx | rfl
  · exact c.bm.2.2.2 x hx
  · exact bl
/-- the names in a new list u -/
theorem Cpy.newq {H G : Hp} {q1 r1 u : Addr} {qs ss : List Str} {ys : List V} {ls : List Lw} (c : Cpy K H G q1 r1 qs ys ls) (nu : G u = none) (gs : ∀ s ∈ ss, GS 700 s) (hl : (qs ++ ss).length ≤ 31) : Cpy K H (upd G u (.lst ((qs ++ ss).map V.str))) u r1 (qs ++ ss) ys ls := by
  have su := same_upd nu (o := .lst ((qs ++ ss).map V.str))
  refine ⟨c.sm.trans su, c.sm.free nu, c.nr, upd_same, su _ _ c.hr, (c.ner nu).2, c.hA.mono fun v l z => ?_, hl, c.bm.2.1, fun x hx => ?_, c.bm.2.2.2⟩
  · obtain ⟨p, n1, n2, lp, zs, hz, ht⟩ := z
    exact ⟨p, fun e => (by rw [e, nu] at hz; cases hz), n2, lp.same su, zs, su _ _ hz, ht.mono fun _ _ y => y.same su⟩
  · rcases List.mem_append.mp hx with hx | hx
    · exact c.bm.2.2.1 x hx
    · exact gs x hx
def sp_law_spoilt (K : PySem.W.Frag) : Sp := fun vs H Q _ => ∃ (a : Addr) (ds : List Int) (k : Int) (v : V) (m : Mdl), vs = [.ref a, .int k, v] ∧ IL H a ds ∧ 0 ≤ k ∧ MD K H v m ∧ VM m ∧ ∀ H' v' m', Same H H' → MD K H' v' m' → BM m' → FW m' → Q v' H'
theorem Cpy.told {H G : Hp} {q1 r1 : Addr} {qs : List Str} {ys : List V} {ls : List Lw} (c : Cpy K H G q1 r1 qs ys ls) {Q : VK} (q : ∀ H' v' m', Same H H' → MD K H' v' m' → BM m' → FW m' → Q v' H') : [V.ref q1, V.ref r1].length ≤ sizeLine ∧ ∀ t, G t = none → Q (.ref t) (upd G t (.tup [.ref q1, .ref r1])) := by
  refine ⟨by show 2 ≤ sizeLine; decide, fun t nt => ?_⟩
  have st := same_upd nt (o := .tup [.ref q1, .ref r1])
  refine q _ _ ⟨qs, ls⟩ (c.sm.trans st) ⟨t, q1, r1, ys, rfl, .of upd_same, st _ _ c.hq, st _ _ c.hr, c.hA.mono fun _ _ z => (z.lw).same st⟩ ⟨⟨by have := c.bm.1; show qs.length ≤ 64; omega, c.bm.2.2.1⟩, by have := c.bm.2.1; show ls.length ≤ 64; omega, fun l hl => (c.bm.2.2.2 l hl).1⟩ ⟨by have := c.bm.2.1; show ls.length ≤ 50; omega, c.bm.2.2.2⟩
theorem A2.app {α β : Type} {R : α → β → Prop} {cs : List α} {ds : List β} (h2 : A2 R cs ds) : ∀ {as : List α} {bs : List β}, A2 R as bs → A2 R (as ++ cs) (bs ++ ds)
  | _, _, .nil => h2
  | _, _, .cons a r => .cons a (A2.app h2 r)
/-- the laws in a new list u -/
theorem Cpy.newr {H G : Hp} {q1 r1 u : Addr} {qs : List Str} {ys zs : List V} {ls ms : List Lw} (c : Cpy K H G q1 r1 qs ys ls) (nu : G u = none) (hA : A2 (LWe K q1 r1 G) zs ms) (hl : ms.length ≤ 44) (hb : ∀ l ∈ ms, BLf l) : Cpy K H (upd G u (.lst zs)) q1 u qs zs ms := by
  have su := same_upd nu (o := .lst zs)
  refine ⟨c.sm.trans su, c.nq, c.sm.free nu, su _ _ c.hq, upd_same, (c.ner nu).1.symm, hA.mono fun v l z => ?_, c.bm.1, hl, c.bm.2.2.1, hb⟩
  obtain ⟨p, n1, n2, lp, zs, hz, ht⟩ := z
  exact ⟨p, n1, fun e => (by rw [e, nu] at hz; cases hz), lp.same su, zs, su _ _ hz, ht.mono fun _ _ y => y.same su⟩
theorem tm_int {G : Hp} {t : Addr} {n k j : Int} (h : G t = some (.tup [.int n, .int k, .int j])) : TmV K G (.ref t) ⟨.inl n, k, j⟩ := ⟨t, rfl, .of h⟩
theorem tm_str {G : Hp} {t : Addr} {s : Str} {k j : Int} (h : G t = some (.tup [.str s, .int k, .int j])) : TmV K G (.ref t) ⟨.inr s, k, j⟩ := ⟨t, rfl, .of h⟩
theorem up3 {G : Hp} {t p u : Addr} {a b c : HO} (nt : G t = none) (np : upd G t a p = none) (nu : upd (upd G t a) p b u = none) : Same G (upd (upd (upd G t a) p b) u c) ∧ upd (upd (upd G t a) p b) u c t = some a ∧ upd (upd (upd G t a) p b) u c p = some b ∧ upd (upd (upd G t a) p b) u c u = some c ∧ G p = none ∧ G u = none :=
  ⟨(same_upd nt).trans ((same_upd np).trans (same_upd nu)), same_upd nu _ _ (same_upd np _ _ upd_same), same_upd nu _ _ upd_same, upd_same, (same_upd nt).free np, ((same_upd nt).trans (same_upd np)).free nu⟩
/-- an exact law with one place, new -/
theorem mk_ex {H G : Hp} {q1 r1 t p u : Addr} {qs : List Str} {ys : List V} {ls : List Lw} (c : Cpy K H G q1 r1 qs ys ls) {n k j : Int} {s : Str} (nt : G t = none) (np : upd G t (.tup [.int n, .int k, .int j]) p = none) (nu : upd (upd G t (.tup [.int n, .int k, .int j])) p (.lst [.ref t]) u = none) :
    Same G (upd (upd (upd G t (.tup [.int n, .int k, .int j])) p (.lst [.ref t])) u (.tup [.str "exact", .ref p, .str s])) ∧ LWe K q1 r1 (upd (upd (upd G t (.tup [.int n, .int k, .int j])) p (.lst [.ref t])) u (.tup [.str "exact", .ref p, .str s])) (.ref u) ⟨true, 0, 0, [⟨.inl n, k, j⟩], s⟩ := by
  obtain ⟨s0, h1, h2, h3, f1, _⟩ := up3 nt np nu (c := .tup [.str "exact", .ref p, .str s])
  exact ⟨s0, new_ex h2 (.cons (tm_int h1) .nil) (c.ner f1) h3⟩
/-- a sized law with one size, new -/
theorem mk_sz {H G : Hp} {q1 r1 t p u : Addr} {qs : List Str} {ys : List V} {ls : List Lw} (c : Cpy K H G q1 r1 qs ys ls) {n : Str} {k j k0 j0 : Int} {s : Str} (nt : G t = none) (np : upd G t (.tup [.str n, .int k, .int j]) p = none) (nu : upd (upd G t (.tup [.str n, .int k, .int j])) p (.lst [.ref t]) u = none) :
    Same G (upd (upd (upd G t (.tup [.str n, .int k, .int j])) p (.lst [.ref t])) u (.tup [.str "sized", .int k0, .int j0, .ref p, .str s])) ∧ LWe K q1 r1 (upd (upd (upd G t (.tup [.str n, .int k, .int j])) p (.lst [.ref t])) u (.tup [.str "sized", .int k0, .int j0, .ref p, .str s])) (.ref u) ⟨false, k0, j0, [⟨.inr n, k, j⟩], s⟩ := by
  obtain ⟨s0, h1, h2, h3, f1, _⟩ := up3 nt np nu (c := .tup [.str "sized", .int k0, .int j0, .ref p, .str s])
  exact ⟨s0, new_sz h2 (.cons (tm_str h1) .nil) (c.ner f1) h3⟩
theorem bl_ex1 {n k j : Int} {s : Str} (hn : n.natAbs < 10 ^ 8) (hk : k.natAbs < 10 ^ 8) (hj : j.natAbs < 10 ^ 8) (gs : GS 700 s) : BLf ⟨true, 0, 0, [⟨.inl n, k, j⟩], s⟩ := bl_ex (fun t ht => by rw [List.mem_singleton.mp ht]; exact ⟨hk, hj, n, rfl, hn⟩) gs (by show 1 ≤ 131; decide)
theorem bl_sz1 {n : Str} {k j k0 j0 : Int} {s : Str} (hn : GS 700 n) (hk : k.natAbs < 10 ^ 8) (hj : j.natAbs < 10 ^ 8) (hk0 : k0.natAbs < 10 ^ 8) (hj0 : j0.natAbs < 10 ^ 8) (gs : GS 700 s) : BLf ⟨false, k0, j0, [⟨.inr n, k, j⟩], s⟩ := bl_sz hk0 hj0 (fun t ht => by rw [List.mem_singleton.mp ht]; exact ⟨hk, hj, n, rfl, hn⟩) gs (by show 1 ≤ 4; decide)
theorem dB {S B : Prop} {c : Bool} (h : c = true → B → S) (b : B) : if c = true then S else B := by
  cases c
  · exact b
  · exact h rfl b
/-- a law whose list of terms is none of three -/
def LW3 (K : PySem.W.Frag) (q r D : Addr) (H : Hp) (v : V) (l : Lw) : Prop := ∃ p, p ≠ q ∧ p ≠ r ∧ p ≠ D ∧ LWp K H v l p ∧ TsL K H p l.ts
theorem LW3.x {q r D : Addr} {H H' : Hp} {ys : List V} {v : V} {l : Lw} (hD : H D = some (.lst ys)) (s : SameX D H H') (h : LW3 K q r D H v l) : LW3 K q r D H' v l := by
  obtain ⟨p, n1, n2, nd, ⟨a, e, z⟩, xs, hx, hr⟩ := h
  exact ⟨p, n1, n2, nd, ⟨a, e, z.imp (fun z => ⟨z.1, seqT_x hD s z.2⟩) fun z => ⟨z.1, seqT_x hD s z.2⟩⟩, xs, s _ _ nd hx, hr.mono fun _ _ ⟨b, e, z⟩ => ⟨b, e, seqT_x hD s z⟩⟩
theorem LW3.e {q r D : Addr} {H : Hp} {v : V} {l : Lw} (h : LW3 K q r D H v l) : LWe K q r H v l := let ⟨p, a, b, _, c, d⟩ := h; ⟨p, a, b, c, d⟩
/-- a sized law with two sizes, new -/
theorem mk_sz2 {H G : Hp} {q1 r1 t t2 p u : Addr} {qs : List Str} {ys : List V} {ls : List Lw} (c : Cpy K H G q1 r1 qs ys ls) {n n2 : Str} {k j k2 j2 k0 j0 : Int} {s : Str} (nt : G t = none) (nt2 : upd G t (.tup [.str n, .int k, .int j]) t2 = none) (np : upd (upd G t (.tup [.str n, .int k, .int j])) t2 (.tup [.str n2, .int k2, .int j2]) p = none) (nu : upd (upd (upd G t (.tup [.str n, .int k, .int j])) t2 (.tup [.str n2, .int k2, .int j2])) p (.lst [.ref t, .ref t2]) u = none) :
    Same G (upd (upd (upd (upd G t (.tup [.str n, .int k, .int j])) t2 (.tup [.str n2, .int k2, .int j2])) p (.lst [.ref t, .ref t2])) u (.tup [.str "sized", .int k0, .int j0, .ref p, .str s])) ∧ LWe K q1 r1 (upd (upd (upd (upd G t (.tup [.str n, .int k, .int j])) t2 (.tup [.str n2, .int k2, .int j2])) p (.lst [.ref t, .ref t2])) u (.tup [.str "sized", .int k0, .int j0, .ref p, .str s])) (.ref u) ⟨false, k0, j0, [⟨.inr n, k, j⟩, ⟨.inr n2, k2, j2⟩], s⟩ := by
  have s1 := same_upd nt (o := .tup [.str n, .int k, .int j])
  obtain ⟨s0, h1, h2, h3, f1, _⟩ := up3 nt2 np nu (c := .tup [.str "sized", .int k0, .int j0, .ref p, .str s])
  exact ⟨s1.trans s0, new_sz h2 (.cons (tm_str (s0 _ _ upd_same)) (.cons (tm_str h1) .nil)) (c.ner (s1.free f1)) h3⟩
theorem bl_sz2 {n n2 : Str} {k j k2 j2 k0 j0 : Int} {s : Str} (hn : GS 700 n) (hn2 : GS 700 n2) (h : k.natAbs < 10 ^ 8 ∧ j.natAbs < 10 ^ 8 ∧ k2.natAbs < 10 ^ 8 ∧ j2.natAbs < 10 ^ 8 ∧ k0.natAbs < 10 ^ 8 ∧ j0.natAbs < 10 ^ 8) (gs : GS 700 s) : BLf ⟨false, k0, j0, [⟨.inr n, k, j⟩, ⟨.inr n2, k2, j2⟩], s⟩ := bl_sz h.2.2.2.2.1 h.2.2.2.2.2 (fun t ht => by
  rcases List.mem_cons.mp ht with rfl | ht
  · exact ⟨h.1, h.2.1, n, rfl, hn⟩
  · rw [List.mem_singleton.mp ht]; exact ⟨h.2.2.1, h.2.2.2.1, n2, rfl, hn2⟩) gs (by show 2 ≤ 4; decide)
end
end K05
-- V5
namespace K05
open PySem PySem.Spec PyProof.Rows L2 TL
section
variable {P : Program} {w : World} {K : PySem.W.Frag} {mg : Str → Option Value} {base : Heap}
theorem at_new {G : Hp} {a : Addr} {o : HO} (_ : Same G (upd G a o)) : upd G a o a = some o := upd_same
theorem cut1 {zs : List V} : cutV zs none (some 1) = zs.take 1 := by
  cases zs with
  | nil => unfold cutV; simp
  | cons x r => exact cut3 (L := 1) (by simp)
theorem ok_law_spoilt (T : Txt K mg) : FnOk P w K mg base CX0 2 T.law_spoilt.a T.law_spoilt.fd ["draws", "k", "model"] (sp_law_spoilt K) := by
  refine T.law_spoilt.F.ok sc_law_spoilt (fun vs H Q E h => ?_) (fun cdv A outer s H vs Q E hr h => ?_)
  · obtain ⟨a, ds, k, v, m, rfl, _⟩ := h
    rfl
  · obtain ⟨a, ds, k, v, m, rfl, ha, hk, hm, vm, q⟩ := h
    refine ⟨_, (pss_cons (ps_asg (pv 2) (pg_tup rfl (pgs_cons (pg_name (i := 3) sc_law_spoilt.nd rfl (.inl rfl)) (pgs_cons (pg_name (i := 4) sc_law_spoilt.nd rfl (.inl rfl)) pgs_nil))))
      (pss_cons (ps_set (i := 3) sc_law_spoilt.nd rfl (.inl rfl) (pe_callTy call_list_of (by rfl) T.m_list (by decide +kernel) (pa_cons (pv 3) pa_nil)))
      (pss_cons (ps_set (i := 4) sc_law_spoilt.nd rfl (.inl rfl) (pe_callTy call_list_of (by rfl) T.m_list (by decide +kernel) (pa_cons (pv 4) pa_nil)))
      (pss_cons (ps_set (i := 5) sc_law_spoilt.nd rfl (.inl rfl) (pe_call (ok_law_at T) (hr.mono (by decide)) (by rfl) T.law_at.g T.law_at.F.kp T.law_at.b .nil pass0 (pa_cons (pv 0) (pa_cons (pv 1) (pa_cons pe_int pa_nil)))))
      (pss_cons (ps_set (i := 6) sc_law_spoilt.nd rfl (.inl rfl) (pe_call (ok_law_at T) (hr.mono (by decide)) (by rfl) T.law_at.g T.law_at.F.kp T.law_at.b .nil pass0 (pa_cons (pv 0) (pa_cons (pe_op op_add (pv 1) pe_int) (pa_cons pe_int pa_nil)))))
      (pss_cons (ps_set (i := 7) sc_law_spoilt.nd rfl (.inl rfl) (pe_call (ok_law_at T) (hr.mono (by decide)) (by rfl) T.law_at.g T.law_at.F.kp T.law_at.b .nil pass0 (pa_cons (pv 0) (pa_cons (pe_op op_add (pv 1) pe_int) (pa_cons (pe_callB (call_max2 rfl) (by rfl) T.m_max (by decide +kernel) (pa_cons pe_int (pa_cons (pe_callB call_len_seq (by rfl) T.m_len (by decide +kernel) (pa_cons (pv 4) pa_nil)) pa_nil))) pa_nil)))))
      (pss_cons (ps_set (i := 8) sc_law_spoilt.nd rfl (.inl rfl) (pe_callB call_len_seq (by rfl) T.m_len (by decide +kernel) (pa_cons (pv 3) pa_nil)))
      (pss_cons (ps_if (PW.pt (pw_and (pt_cmpR op_eq (pv 5) pe_int (nomark _)) (pw_and1 (pt_cmpR op_gt (pv 8) pe_int (nomark _)))))
        (pss_one (ps_asg (pe_call (ok_law_bad_name T) (hr.mono (by decide)) (by rfl) T.law_bad_name.g T.law_bad_name.F.kp T.law_bad_name.b .nil pass0 (pa_cons (pv 6) (pa_cons (pe_ix ix_list (pv 3) pe_int (fun _ _ => rfl)) pa_nil))) (pg_sub (pv 3) (pe_op op_mod (pe_callTy call_int1 (by rfl) T.m_int (by decide +kernel) (pa_cons (pe_op op_fdiv (pv 6) pe_int) pa_nil)) (pv 8)) set_list)))
        (pss_one (ps_if (PW.pt (pw_and (pt_cmpR op_eq (pv 5) pe_int (nomark _)) (pw_and1 (pt_cmpR op_gt (pv 8) pe_int (nomark _)))))
          (pss_one (ps_asg (pe_ix ix_list (pv 3) (pe_op op_mod (pe_callTy call_int1 (by rfl) T.m_int (by decide +kernel) (pa_cons (pe_op op_add (pe_op op_fdiv (pv 6) pe_int) pe_int) pa_nil)) (pv 8)) (fun _ _ => rfl)) (pg_sub (pv 3) (pe_op op_mod (pe_callTy call_int1 (by rfl) T.m_int (by decide +kernel) (pa_cons (pv 6) pa_nil)) (pv 8)) set_list)))
          (pss_one (ps_if (pt_cmpR op_eq (pv 5) pe_int (nomark _))
            (pss_one (ps_set (i := 3) sc_law_spoilt.nd rfl (.inl rfl) (pe_op op_cat (pv 3) (pe_lc (own := [("turn", 14)]) rfl sc_law_spoilt.nd (pi_range1 (by rfl) T.m_range (pa_cons (pe_op op_sub (pe_op op_add pe_int (pe_op op_mod (pe_callTy call_int1 (by rfl) T.m_int (by decide +kernel) (pa_cons (pv 6) pa_nil)) pe_int)) (pv 8)) pa_nil)) (blkOk_by (N := ["draws", "k", "model", "quantities", "laws", "word", "cell", "which", "many", "j", "value", "place", "twice", "rows", "turn"]) (sc := defScope s_law_spoilt) (by decide +kernel)) (fun _ _ _ _ _ => (pg_name (i := 14) sc_law_spoilt.nd rfl (.inl rfl))) (fun _ _ _ _ _ => pts_nil) (fun _ _ _ _ _ => (pe_op op_add_str pe_str (pe_callTy call_str_int (by rfl) T.m_str (by decide +kernel) (pa_cons (pv 14) pa_nil))))))))
            (pss_one (ps_if (pt_cmpR op_eq (pv 5) pe_int (nomark _))
              (pss_one (ps_set (i := 4) sc_law_spoilt.nd rfl (.inl rfl) (pe_op op_cat (pv 4) (pe_lc (own := [("turn", 14)]) rfl sc_law_spoilt.nd (pi_range1 (by rfl) T.m_range (pa_cons (pe_op op_sub (pe_op op_add pe_int (pe_op op_mod (pe_callTy call_int1 (by rfl) T.m_int (by decide +kernel) (pa_cons (pv 6) pa_nil)) pe_int)) (pe_callB call_len_seq (by rfl) T.m_len (by decide +kernel) (pa_cons (pv 4) pa_nil))) pa_nil)) (blkOk_by (N := ["draws", "k", "model", "quantities", "laws", "word", "cell", "which", "many", "j", "value", "place", "twice", "rows", "turn"]) (sc := defScope s_law_spoilt) (by decide +kernel)) (fun _ _ _ _ _ => (pg_name (i := 14) sc_law_spoilt.nd rfl (.inl rfl))) (fun _ _ _ _ _ => pts_nil) (fun _ _ _ _ _ => (pe_tup (pa_cons pe_str (pa_cons (pe_lst pa_nil) (pa_cons pe_str pa_nil)))))))))
              (pss_one (ps_if (PW.pt (pw_and (pt_cmpR op_eq (pv 5) pe_int (nomark _)) (pw_and1 (pt_cmpR op_gt (pv 8) pe_int (nomark _)))))
                (pss_cons (ps_set (i := 9) sc_law_spoilt.nd rfl (.inl rfl) (pe_op op_mod (pe_callTy call_int1 (by rfl) T.m_int (by decide +kernel) (pa_cons (pv 6) pa_nil)) (pv 8)))
                (pss_cons (ps_set (i := 10) sc_law_spoilt.nd rfl (.inl rfl) (pe_ix ix_list (pe_lst (pa_cons pe_int (pa_cons pe_int (pa_cons (pe_un un_neg pe_int) (pa_cons pe_int (pa_cons (pe_un un_neg pe_int) pa_nil)))))) (pe_op op_mod (pe_callTy call_int1 (by rfl) T.m_int (by decide +kernel) (pa_cons (pe_op op_fdiv (pv 6) pe_int) pa_nil)) pe_int) (fun _ _ => rfl)))
                (pss_one (ps_expr (pe_bm PySem.F.plainAttrs_list PySem.F.slot_list_append PySem.F.type_list_append mt_append (pv 4) (pa_cons (pe_tup (pa_cons pe_str (pa_cons (pe_lst (pa_cons (pe_tup (pa_cons (pv 10) (pa_cons (pe_op op_mod (pe_callTy call_int1 (by rfl) T.m_int (by decide +kernel) (pa_cons (pe_op op_fdiv (pv 6) pe_int) pa_nil)) pe_int) (pa_cons (pv 9) pa_nil)))) pa_nil)) (pa_cons pe_str pa_nil)))) pa_nil))))))
                (pss_one (ps_if (pt_cmpR op_eq (pv 5) pe_int (nomark _))
                  (pss_cons (ps_set (i := 11) sc_law_spoilt.nd rfl (.inl rfl) (pe_ix ix_list (pe_lst (pa_cons (pe_tup (pa_cons pe_int (pa_cons pe_int pa_nil))) (pa_cons (pe_tup (pa_cons (pe_un un_neg pe_int) (pa_cons pe_int pa_nil))) (pa_cons (pe_tup (pa_cons pe_int (pa_cons pe_int pa_nil))) (pa_cons (pe_tup (pa_cons pe_int (pa_cons (pv 8) pa_nil))) (pa_cons (pe_tup (pa_cons pe_int (pa_cons (pe_un un_neg pe_int) pa_nil))) (pa_cons (pe_tup (pa_cons pe_int (pa_cons (pe_op op_sub (pv 8) pe_int) pa_nil))) pa_nil))))))) (pe_op op_mod (pe_callTy call_int1 (by rfl) T.m_int (by decide +kernel) (pa_cons (pv 6) pa_nil)) pe_int) (fun _ _ => rfl)))
                  (pss_cons (ps_expr (pe_bm PySem.F.plainAttrs_list PySem.F.slot_list_append PySem.F.type_list_append mt_append (pv 4) (pa_cons (pe_ix ix_list (pe_lst (pa_cons (pe_tup (pa_cons pe_str (pa_cons (pe_lst (pa_cons (pe_tup (pa_cons pe_int (pa_cons (pe_ix ix_tup (pv 11) pe_int (fun _ _ => rfl)) (pa_cons (pe_ix ix_tup (pv 11) pe_int (fun _ _ => rfl)) pa_nil)))) pa_nil)) (pa_cons pe_str pa_nil)))) (pa_cons (pe_tup (pa_cons pe_str (pa_cons (pe_ix ix_tup (pv 11) pe_int (fun _ _ => rfl)) (pa_cons (pe_ix ix_tup (pv 11) pe_int (fun _ _ => rfl)) (pa_cons (pe_lst (pa_cons (pe_tup (pa_cons pe_str (pa_cons pe_int (pa_cons pe_int pa_nil)))) pa_nil)) (pa_cons pe_str pa_nil)))))) pa_nil))) (pe_op op_mod (pe_callTy call_int1 (by rfl) T.m_int (by decide +kernel) (pa_cons (pe_op op_fdiv (pv 6) pe_int) pa_nil)) pe_int) (fun _ _ => rfl)) pa_nil)))
                  (pss_one (ps_expr (pe_bm PySem.F.plainAttrs_list PySem.F.slot_list_append PySem.F.type_list_append mt_append (pv 4) (pa_cons (pe_tup (pa_cons pe_str (pa_cons pe_int (pa_cons pe_int (pa_cons (pe_lst (pa_cons (pe_tup (pa_cons pe_str (pa_cons (pe_ix ix_tup (pv 11) pe_int (fun _ _ => rfl)) (pa_cons (pe_ix ix_tup (pv 11) pe_int (fun _ _ => rfl)) pa_nil)))) pa_nil)) (pa_cons pe_str pa_nil)))))) pa_nil))))))
                  (pss_one (ps_if (PW.pt (pw_and (pt_cmpR op_eq (pv 5) pe_int (nomark _)) (pw_and1 (pt_cmpR op_gt (pv 8) pe_int (nomark _)))))
                    (pss_cons (ps_set (i := 9) sc_law_spoilt.nd rfl (.inl rfl) (pe_op op_mod (pe_callTy call_int1 (by rfl) T.m_int (by decide +kernel) (pa_cons (pv 6) pa_nil)) (pv 8)))
                    (pss_cons (ps_set (i := 12) sc_law_spoilt.nd rfl (.inl rfl) (pe_lst (pa_cons (pe_tup (pa_cons pe_str (pa_cons (pe_lst (pa_cons (pe_tup (pa_cons pe_int (pa_cons pe_int (pa_cons (pv 9) pa_nil)))) (pa_cons (pe_tup (pa_cons pe_int (pa_cons pe_int (pa_cons (pv 9) pa_nil)))) (pa_cons (pe_tup (pa_cons pe_int (pa_cons pe_int (pa_cons (pv 9) pa_nil)))) pa_nil)))) (pa_cons pe_str pa_nil)))) (pa_cons (pe_tup (pa_cons pe_str (pa_cons pe_int (pa_cons (pv 9) (pa_cons (pe_lst (pa_cons (pe_tup (pa_cons pe_str (pa_cons pe_int (pa_cons (pv 9) pa_nil)))) (pa_cons (pe_tup (pa_cons pe_str (pa_cons pe_int (pa_cons (pv 9) pa_nil)))) pa_nil))) (pa_cons pe_str pa_nil)))))) pa_nil))))
                    (pss_one (ps_expr (pe_bm PySem.F.plainAttrs_list PySem.F.slot_list_append PySem.F.type_list_append mt_append (pv 4) (pa_cons (pe_ix ix_list (pe_op op_cat (pv 12) (pe_lst (pa_cons (pe_tup (pa_cons pe_str (pa_cons pe_int (pa_cons (pv 9) (pa_cons (pe_lst (pa_cons (pe_tup (pa_cons pe_str (pa_cons pe_int (pa_cons (pv 9) pa_nil)))) (pa_cons (pe_tup (pa_cons pe_str (pa_cons pe_int (pa_cons (pv 9) pa_nil)))) pa_nil))) (pa_cons pe_str pa_nil)))))) pa_nil))) (pe_op op_mod (pe_callTy call_int1 (by rfl) T.m_int (by decide +kernel) (pa_cons (pe_op op_fdiv (pv 6) pe_int) pa_nil)) pe_int) (fun _ _ => rfl)) pa_nil))))))
                    (pss_one (ps_if (PW.pt (pw_and (pt_cmpR op_eq (pv 5) pe_int (nomark _)) (pw_and1 (pt_cmpR op_gt (pv 8) pe_int (nomark _)))))
                      (pss_one (ps_expr (pe_bm PySem.F.plainAttrs_list PySem.F.slot_list_append PySem.F.type_list_append mt_append (pv 4) (pa_cons (pe_tup (pa_cons pe_str (pa_cons pe_int (pa_cons (pe_op op_mod (pe_callTy call_int1 (by rfl) T.m_int (by decide +kernel) (pa_cons (pv 6) pa_nil)) (pv 8)) (pa_cons (pe_lst pa_nil) (pa_cons pe_str pa_nil)))))) pa_nil))))
                      (pss_one (ps_if (PW.pt (pw_and (pt_cmpR op_eq (pv 5) pe_int (nomark _)) (pw_and1 (pt_cmpR op_gt (pv 8) pe_int (nomark _)))))
                        (pss_cons (ps_set (i := 13) sc_law_spoilt.nd rfl (.inl rfl) (pe_lst (pa_cons (pe_lst (pa_cons (pe_tup (pa_cons pe_str (pa_cons pe_int (pa_cons pe_int pa_nil)))) (pa_cons (pe_tup (pa_cons pe_str (pa_cons pe_int (pa_cons pe_int pa_nil)))) pa_nil))) (pa_cons (pe_lst (pa_cons (pe_tup (pa_cons (pe_ix ix_list (pv 3) (pe_op op_mod (pe_callTy call_int1 (by rfl) T.m_int (by decide +kernel) (pa_cons (pv 6) pa_nil)) (pv 8)) (fun _ _ => rfl)) (pa_cons pe_int (pa_cons pe_int pa_nil)))) pa_nil)) (pa_cons (pe_lst (pa_cons (pe_tup (pa_cons (pe_call (ok_law_bad_name T) (hr.mono (by decide)) (by rfl) T.law_bad_name.g T.law_bad_name.F.kp T.law_bad_name.b .nil pass0 (pa_cons (pv 6) (pa_cons pe_str pa_nil))) (pa_cons pe_int (pa_cons pe_int pa_nil)))) pa_nil)) pa_nil)))))
                        (pss_one (ps_expr (pe_bm PySem.F.plainAttrs_list PySem.F.slot_list_append PySem.F.type_list_append mt_append (pv 4) (pa_cons (pe_tup (pa_cons pe_str (pa_cons pe_int (pa_cons pe_int (pa_cons (pe_ix ix_list (pv 13) (pe_op op_mod (pe_callTy call_int1 (by rfl) T.m_int (by decide +kernel) (pa_cons (pe_op op_fdiv (pv 6) pe_int) pa_nil)) pe_int) (fun _ _ => rfl)) (pa_cons pe_str pa_nil)))))) pa_nil)))))
                        (pss_one (ps_if (PW.pt (pw_and (pt_cmpR op_eq (pv 5) pe_int (nomark _)) (pw_and1 (pt_cmpR op_gt (pv 8) pe_int (nomark _)))))
                          (pss_one (ps_set (i := 4) sc_law_spoilt.nd rfl (.inl rfl) (pe_op op_cat (pe_op op_cat (pe_lst (pa_cons (pe_tup (pa_cons pe_str (pa_cons pe_int (pa_cons pe_int (pa_cons (pe_lst (pa_cons (pe_tup (pa_cons pe_str (pa_cons pe_int (pa_cons pe_int pa_nil)))) pa_nil)) (pa_cons pe_str pa_nil)))))) pa_nil)) (pv 4)) (pe_lst (pa_cons (pe_tup (pa_cons pe_str (pa_cons pe_int (pa_cons pe_int (pa_cons (pe_lst (pa_cons (pe_tup (pa_cons pe_str (pa_cons pe_int (pa_cons pe_int pa_nil)))) pa_nil)) (pa_cons pe_str pa_nil)))))) pa_nil)))))
                          (pss_one (ps_if (pt_cmpR op_eq (pv 5) pe_int (nomark _))
                            (pss_one (ps_expr (pe_bm PySem.F.plainAttrs_list PySem.F.slot_list_append PySem.F.type_list_append mt_append (pv 4) (pa_cons (pe_tup (pa_cons pe_str (pa_cons (pe_lst pa_nil) (pa_cons (pe_call (ok_law_bad_name T) (hr.mono (by decide)) (by rfl) T.law_bad_name.g T.law_bad_name.F.kp T.law_bad_name.b .nil pass0 (pa_cons (pv 6) (pa_cons pe_str pa_nil))) pa_nil)))) pa_nil))))
                            (pss_one (ps_if (PW.pt (pw_and (pt_cmpR op_lt (pv 7) (pe_callB call_len_seq (by rfl) T.m_len (by decide +kernel) (pa_cons (pv 4) pa_nil)) (nomark _)) (pw_and1 (pt_cmpR op_eq (pe_ix ix_tup (pe_ix ix_list (pv 4) (pv 7) (fun _ _ => rfl)) pe_int (fun _ _ => rfl)) pe_str (nomark _)))))
                              (pss_one (ps_asg (pe_tup (pa_cons pe_str (pa_cons (pe_op op_cat (pe_ix ix_tup (pe_ix ix_list (pv 4) (pv 7) (fun _ _ => rfl)) pe_int (fun _ _ => rfl)) (pe_slice sl_list (pe_ix ix_tup (pe_ix ix_list (pv 4) (pv 7) (fun _ _ => rfl)) pe_int (fun _ _ => rfl)) po_none (po_some pe_int))) (pa_cons (pe_ix ix_tup (pe_ix ix_list (pv 4) (pv 7) (fun _ _ => rfl)) pe_int (fun _ _ => rfl)) pa_nil)))) (pg_sub (pv 4) (pv 7) set_list)))
                              pss_nil)))))))))))))))))))))))
      (pss_one (ps_ret (pe_tup (pa_cons (pv 3) (pa_cons (pv 4) pa_nil))))))))))))), ?_⟩
    have bm := vm.bm
    obtain ⟨b, qa, r, xs, rfl, h1, h2, h3, h4⟩ := id hm
    refine ⟨_, rfl, b, _, rfl, h1, rfl, _, _, rfl, _, _, rfl, rfl, ?_⟩
    refine ⟨_, rfl, qa, _, rfl, .inl (.of h2), fun q1 nq => ?_⟩
    have s1 := same_upd nq (o := .lst (m.qs.map V.str))
    refine ⟨_, rfl, r, _, rfl, .inl (.of (s1 _ _ h3)), fun r1 nr => ?_⟩
    have s2 := same_upd nr (o := .lst xs)
    have ne : q1 ≠ r1 := fun z => by rw [← z, upd_same] at nr; cases nr
    have c0 : Cpy K H (upd (upd H q1 (.lst (m.qs.map V.str))) r1 (.lst xs)) q1 r1 m.qs xs m.ls := by
      refine ⟨s1.trans s2, nq, s1.free nr, s2 _ _ upd_same, upd_same, ne, h4.mono fun v l z => ?_, by have := vm.qs.1; omega, by have := vm.ls; omega, bm.qs.2, vm.blf⟩
      obtain ⟨p, lp, ts⟩ := z.p
      obtain ⟨zs, hz, hzt⟩ := ts
      exact ⟨p, fun e => (by rw [e, nq] at hz; cases hz), fun e => (by rw [e, s1.free nr] at hz; cases hz), lp.same (s1.trans s2), zs, s2 _ _ (s1 _ _ hz), hzt.mono fun _ _ z => (z.same s1).same s2⟩
    generalize upd (upd H q1 (.lst (m.qs.map V.str))) r1 (.lst xs) = G at c0
    have el := c0.hA.len
    have l40 := vm.ls
    have q30 := vm.qs.1
    refine ⟨.ref a, rfl, _, rfl, a, ds, k, 12, rfl, ha.same c0.sm, hk, by decide, fun word w0 w1 => ?_⟩
    refine ⟨.ref a, rfl, _, rfl, _, _, rfl, rfl, a, ds, _, 60000, rfl, ha.same c0.sm, by omega, by decide, fun cell c00 c01 => ?_⟩
    refine ⟨.ref a, rfl, _, rfl, _, _, rfl, rfl, .ref r1, rfl, r1, _, rfl, .inl (.of c0.hr), ?_⟩
    refine ⟨_, _, rfl, a, ds, _, _, rfl, ha.same c0.sm, by omega, by split <;> omega, fun which h0w h1w => ?_⟩
    refine ⟨.ref q1, rfl, q1, _, rfl, .inl (.of c0.hq), ?_⟩
    rw [List.length_map]
    have im (x : Int) (h : m.qs.length > 0) : 0 ≤ x % (m.qs.length : Int) ∧ x % (m.qs.length : Int) < ((m.qs.map V.str).length : Nat) := by
      rw [List.length_map]
      exact ⟨Int.emod_nonneg _ (by omega), Int.emod_lt_of_pos _ (by omega)⟩
    have nm (i : Int) (h0 : 0 ≤ i) (h1 : i < ((m.qs.map V.str).length : Nat)) : ∃ s : Str, atI (m.qs.map V.str) i = some (.str s) ∧ GS 300 s := by
      obtain ⟨v, hv, mv⟩ := at_ex h0 h1
      obtain ⟨s, ms, rfl⟩ := List.mem_map.mp mv
      exact ⟨s, hv, (vm.qs.2 s ms).nm.gs.up (by decide)⟩
    have em (c : Int) (n : Int) (h : 0 < n) : 0 ≤ c % n ∧ c % n < n := ⟨Int.emod_nonneg _ (by omega), Int.emod_lt_of_pos _ h⟩
    have lx : xs.length = m.ls.length := el
    by_cases e0 : word = 0 ∧ 0 < m.qs.length
    · refine ⟨_, rfl, rfl, _, rfl, dT (deq e0.1) ⟨_, rfl, _, _, rfl, rfl, _, rfl, dT (decide_eq_true (by omega)) ?_⟩⟩
      obtain ⟨q0, hq0, g0⟩ := nm 0 (by decide) (by rw [List.length_map]; omega)
      obtain ⟨i0, i1⟩ := im (cell / 12) (by omega)
      refine ⟨_, rfl, .ref q1, rfl, q1, _, _, _, rfl, rfl, .of c0.hq, hq0, cell, q0, rfl, c00, g0, fun s Hs ss gs => ?_⟩
      have c1 := c0.same ss
      refine ⟨.ref q1, rfl, _, rfl, _, _, rfl, rfl, ⟨by decide, by decide⟩, .inl ⟨_, rfl, _, rfl, _, _, rfl, rfl, by omega, q1, _, _, _, rfl, rfl, c1.hq, ix_ok (Int.toNat_of_nonneg i0).symm (by omega), ?_⟩⟩
      exact ⟨.ref q1, rfl, .ref r1, rfl, (c1.putq (gs.up (by decide))).told q⟩
    refine ⟨_, rfl, rfl, _, rfl, dB (fun e b => ⟨_, rfl, _, _, rfl, rfl, _, rfl, dF (decide_eq_false fun z => e0 ⟨V.int.inj (of_decide_eq_true e), by omega⟩) b⟩) ?_⟩
    by_cases e1 : word = 1 ∧ 1 < m.qs.length
    · refine ⟨_, rfl, rfl, _, rfl, dT (deq e1.1) ⟨_, rfl, _, _, rfl, rfl, _, rfl, dT (decide_eq_true (by omega)) ?_⟩⟩
      obtain ⟨i0, i1⟩ := im (cell / 30 + 1) (by omega)
      obtain ⟨j0, j1⟩ := im cell (by omega)
      obtain ⟨s, hs, gs⟩ := nm _ i0 i1
      refine ⟨.ref q1, rfl, _, rfl, _, _, rfl, rfl, ⟨by decide, by decide⟩, _, _, rfl, rfl, .inl ⟨_, rfl, _, rfl, _, _, rfl, rfl, by omega, q1, _, _, _, rfl, rfl, .of c0.hq, hs, .ref q1, rfl, _, rfl, .inl ⟨_, rfl, _, rfl, _, _, rfl, rfl, by omega, q1, _, _, _, rfl, rfl, c0.hq, ix_ok (Int.toNat_of_nonneg j0).symm (by omega), ?_⟩⟩⟩
      exact ⟨.ref q1, rfl, .ref r1, rfl, (c0.putq (gs.up (by decide))).told q⟩
    refine ⟨_, rfl, rfl, _, rfl, dB (fun e b => ⟨_, rfl, _, _, rfl, rfl, _, rfl, dF (decide_eq_false fun z => e1 ⟨V.int.inj (of_decide_eq_true e), by omega⟩) b⟩) ?_⟩
    by_cases e2 : word = 2
    · refine ⟨_, rfl, rfl, _, rfl, dT (deq e2) ?_⟩
      obtain ⟨m0, m1⟩ := em cell 2 (by decide)
      obtain ⟨n, en⟩ : ∃ n : Nat, 30 + cell % 2 - (m.qs.length : Int) = (n : Int) := ⟨_, (Int.toNat_of_nonneg (by omega)).symm⟩
      refine ⟨.ref q1, rfl, _, rfl, .inl ⟨_, rfl, _, _, rfl, rfl, (by show (0 : Int) < _; decide), _, _, rfl, rfl, _, rfl, _, _, rfl, rfl, (n : Int), congrArg (fun z => [V.int z]) en, by omega, by omega, fun D nD => ?_⟩⟩
      rw [Int.toNat_natCast]
      refine lc_inv (walk_range (lo := 0) (n := n)) (fun i G ys => ∃ ss : List Str, ys = ss.map V.str ∧ (∀ s ∈ ss, GS 700 s) ∧ ss.length = i) nD (fun _ _ => trivial) (small' (by omega)) ⟨[], rfl, (fun _ z => by cases z), rfl⟩ (fun i x G2 Hx ys hi sm hD hR y Qt Qf qt qf => ?_) (fun G2 ys sm hD hR => ?_)
      · obtain ⟨rfl, rfl⟩ := y
        obtain ⟨ss, rfl, hg, hn⟩ := hR
        have e1 : (0 + (i : Int)) = ((i : Nat) : Int) := by omega
        have gt : GS 3 (toString (0 + (i : Int)) : Str) := by rw [e1]; exact GS.int (by omega)
        have g4 : GS 4 (("w" : Str) ++ (toString (0 + (i : Int)) : Str)) := GS.add (n := 1) (gs_of (by decide +kernel)) gt
        have g4l := g4.1
        rw [Str.length_append] at g4l
        refine ⟨rfl, _, rfl, _, rfl, log_small (by omega), _, _, rfl, rfl, small (by omega), ?_⟩
        refine qt _ _ (Same.refl _) ⟨ss ++ [_], by rw [List.map_append]; rfl, fun x hx => ?_, by rw [List.length_append, hn]; rfl⟩
        rcases List.mem_append.mp hx with hx | hx
        · exact hg x hx
        · rw [List.mem_singleton.mp hx]; exact g4.up (by decide)
      · obtain ⟨ss, rfl, hg, hn⟩ := hR
        have c1 := c0.same sm
        refine ⟨q1, D, _, _, rfl, rfl, c1.hq, hD, small (by rw [List.length_map, List.length_map]; omega), fun u nu => ?_⟩
        rw [← List.map_append]
        exact ⟨.ref u, rfl, .ref r1, rfl, (c1.newq nu hg (by rw [List.length_append]; omega)).told q⟩
    refine ⟨_, rfl, rfl, _, rfl, dF (dne e2) ?_⟩
    by_cases e3 : word = 3
    · refine ⟨_, rfl, rfl, _, rfl, dT (deq e3) ?_⟩
      obtain ⟨m0, m1⟩ := em cell 2 (by decide)
      obtain ⟨n, en⟩ : ∃ n : Nat, 40 + cell % 2 - (xs.length : Int) = (n : Int) := ⟨_, (Int.toNat_of_nonneg (by omega)).symm⟩
      refine ⟨.ref r1, rfl, _, rfl, .inl ⟨_, rfl, _, _, rfl, rfl, (by show (0 : Int) < _; decide), _, _, rfl, rfl, .ref r1, rfl, r1, _, rfl, .inl (.of c0.hr), _, _, rfl, rfl, (n : Int), congrArg (fun z => [V.int z]) en, by omega, by omega, fun D nD => ?_⟩⟩
      rw [Int.toNat_natCast]
      refine lc_inv (walk_range (lo := 0) (n := n)) (fun i G2 ys => ∃ ls2 : List Lw, A2 (LW3 K q1 r1 D G2) ys ls2 ∧ (∀ l ∈ ls2, BLf l) ∧ ls2.length = i) nD (fun _ _ => trivial) (small' (by omega)) ⟨[], .nil, (fun _ z => by cases z), rfl⟩ (fun i x G2 Hx ys hi sm hD hR y Qt Qf qt qf => ?_) (fun G2 ys sm hD hR => ?_)
      · obtain ⟨rfl, rfl⟩ := y
        obtain ⟨ls2, hA2, hb, hn⟩ := hR
        refine ⟨rfl, by show 0 ≤ sizeLine; decide, fun p np => ⟨by show 3 ≤ sizeLine; decide, fun u nu => ?_⟩⟩
        have sp := (same_upd np (o := .lst [])).trans (same_upd nu (o := .tup [.str "exact", .ref p, .str ""]))
        have pD : p ≠ D := fun z => by rw [z, hD] at np; cases np
        obtain ⟨pq, pr⟩ := (c0.same sm).ner np
        refine qt _ _ sp ⟨ls2 ++ [⟨true, 0, 0, [], ""⟩], A2.snoc (LW3.x (sp _ _ hD) SameX.put ⟨p, pq, pr, pD, ⟨u, rfl, .inl ⟨rfl, .of upd_same⟩⟩, [], same_upd nu _ _ upd_same, .nil⟩) (hA2.mono fun v l z => LW3.x hD ((sx sp).trans SameX.put) z), fun x hx => ?_, by rw [List.length_append, hn]; rfl⟩
        rcases List.mem_append.mp hx with hx | hx
        · exact hb x hx
        · rw [List.mem_singleton.mp hx]; exact bl_ex (fun _ z => by cases z) (gs_empty 700) (by decide)
      · obtain ⟨ls2, hA2, hb, hn⟩ := hR
        have c1 := c0.same sm
        have e2 := hA2.len
        refine ⟨r1, D, _, _, rfl, rfl, c1.hr, hD, small (by omega), fun u nu => ?_⟩
        have c2 := c1.newr (zs := xs ++ ys) nu (A2.app (hA2.mono fun _ _ z => z.e) c1.hA) (by rw [List.length_append]; omega) (fun l hl => (List.mem_append.mp hl).elim (c1.bm.2.2.2 l) (hb l))
        exact ⟨.ref q1, rfl, .ref u, rfl, c2.told q⟩
    refine ⟨_, rfl, rfl, _, rfl, dF (dne e3) ?_⟩
    by_cases e4 : word = 4 ∧ 0 < m.qs.length
    · refine ⟨_, rfl, rfl, _, rfl, dT (deq e4.1) ⟨_, rfl, _, _, rfl, rfl, _, rfl, dT (decide_eq_true (by omega)) ?_⟩⟩
      obtain ⟨j0, j1⟩ := im cell (by omega)
      rw [List.length_map] at j1
      obtain ⟨v0, v1⟩ := em (cell / 30) 5 (by decide)
      obtain ⟨k0, k1⟩ := em (cell / 150) 4 (by decide)
      refine ⟨_, rfl, .inl ⟨_, rfl, _, rfl, _, _, rfl, rfl, by omega, ?_⟩⟩
      obtain ⟨v, hv, mv⟩ := at_ex (xs := [V.int 0, V.int 1000001, V.int (-1000001), V.int 1000000, V.int (-1000000)]) (i := cell / 30 % 5) v0 v1
      obtain ⟨n, rfl, hn⟩ : ∃ n : Int, v = .int n ∧ n.natAbs < 10 ^ 8 := by
        simp only [List.mem_cons, List.not_mem_nil, or_false] at mv
        rcases mv with rfl | rfl | rfl | rfl | rfl <;> exact ⟨_, rfl, by decide⟩
      refine ⟨_, rfl, _, rfl, by show 5 ≤ sizeLine; decide, fun l nl => ?_⟩
      have c1 := c0.same (same_upd nl (o := .lst [V.int 0, V.int 1000001, V.int (-1000001), V.int 1000000, V.int (-1000000)]))
      refine ⟨_, rfl, _, _, rfl, rfl, ⟨by decide, by decide⟩, .inl ⟨_, rfl, _, _, rfl, rfl, (by show (0 : Int) < _; decide), l, _, _, _, rfl, rfl, .of upd_same, hv, ?_⟩⟩
      generalize upd G l _ = G1 at c1
      refine ⟨.ref r1, rfl, .inl ⟨rfl, _, .of c1.hr⟩, _, rfl, _, rfl, _, _, rfl, rfl, ⟨by decide, by decide⟩, .inl ⟨_, rfl, _, _, rfl, rfl, (by show (0 : Int) < _; decide), _, rfl, by show 3 ≤ sizeLine; decide, fun t nt => ⟨by show 1 ≤ sizeLine; decide, fun p np => ⟨by show 3 ≤ sizeLine; decide, fun u nu => ?_⟩⟩⟩⟩
      obtain ⟨s3, lw⟩ := mk_ex c1 (s := "") nt np nu
      have c4 := c1.same s3
      refine ⟨r1, _, _, rfl, rfl, c4.hr, small' (by omega), ?_⟩
      exact ⟨.ref q1, rfl, .ref r1, rfl, (c4.app lw (bl_ex1 hn (by omega) (by omega) (gs_of (by decide +kernel))) (by omega)).told q⟩
    refine ⟨_, rfl, rfl, _, rfl, dB (fun e b => ⟨_, rfl, _, _, rfl, rfl, _, rfl, dF (decide_eq_false fun z => e4 ⟨V.int.inj (of_decide_eq_true e), by omega⟩) b⟩) ?_⟩
    by_cases e5 : word = 5
    · refine ⟨_, rfl, rfl, _, rfl, dT (deq e5) ?_⟩
      obtain ⟨v0, v1⟩ := em cell 6 (by decide)
      obtain ⟨u0, u1⟩ := em (cell / 6) 2 (by decide)
      refine ⟨by show 2 ≤ sizeLine; decide, fun b0 f0 => ⟨_, rfl, by show 2 ≤ sizeLine; decide, fun b1 f1 => ⟨by show 2 ≤ sizeLine; decide, fun b2 f2 => ⟨_, rfl, by show 2 ≤ sizeLine; decide, fun b3 f3 => ⟨_, rfl, by show 2 ≤ sizeLine; decide, fun b4 f4 => ⟨_, rfl, _, _, rfl, rfl, by show 2 ≤ sizeLine; decide, fun b5 f5 => ⟨by show 6 ≤ sizeLine; decide, fun l nl => ?_⟩⟩⟩⟩⟩⟩⟩
      have sa := same_upd f0 (o := .tup [.int 4, .int 0])
      have sb := same_upd f1 (o := .tup [.int (-1), .int 0])
      have sc := same_upd f2 (o := .tup [.int 3, .int 0])
      have sd := same_upd f3 (o := .tup [.int 0, .int (m.qs.length : Int)])
      have se := same_upd f4 (o := .tup [.int 0, .int (-1)])
      have sf := same_upd f5 (o := .tup [.int 0, .int ((m.qs.length : Int) - 1)])
      have sg := same_upd nl (o := .lst [.ref b0, .ref b1, .ref b2, .ref b3, .ref b4, .ref b5])
      obtain ⟨v, hv, mv⟩ := at_ex (xs := [V.ref b0, V.ref b1, V.ref b2, V.ref b3, V.ref b4, V.ref b5]) (i := cell % 6) v0 v1
      refine ⟨_, rfl, .inl ⟨_, rfl, _, _, rfl, rfl, (by show (0 : Int) < _; decide), l, _, _, _, rfl, rfl, .of upd_same, hv, ?_⟩⟩
      have c1 := c0.same (sa.trans (sb.trans (sc.trans (sd.trans (se.trans (sf.trans sg))))))
      have hb : ∃ (b : Addr) (x y : Int), v = .ref b ∧ upd (upd (upd (upd (upd (upd (upd G b0 (.tup [.int 4, .int 0])) b1 (.tup [.int (-1), .int 0])) b2 (.tup [.int 3, .int 0])) b3 (.tup [.int 0, .int (m.qs.length : Int)])) b4 (.tup [.int 0, .int (-1)])) b5 (.tup [.int 0, .int ((m.qs.length : Int) - 1)])) l (.lst [.ref b0, .ref b1, .ref b2, .ref b3, .ref b4, .ref b5]) b = some (.tup [.int x, .int y]) ∧ x.natAbs < 10 ^ 8 ∧ y.natAbs < 10 ^ 8 := by
        simp only [List.mem_cons, List.not_mem_nil, or_false] at mv
        rcases mv with rfl | rfl | rfl | rfl | rfl | rfl
        · exact ⟨b0, _, _, rfl, (sb.trans (sc.trans (sd.trans (se.trans (sf.trans sg))))) _ _ upd_same, by decide, by decide⟩
        · exact ⟨b1, _, _, rfl, (sc.trans (sd.trans (se.trans (sf.trans sg)))) _ _ upd_same, by decide, by decide⟩
        · exact ⟨b2, _, _, rfl, (sd.trans (se.trans (sf.trans sg))) _ _ upd_same, by decide, by decide⟩
        · exact ⟨b3, _, _, rfl, (se.trans (sf.trans sg)) _ _ upd_same, by decide, by omega⟩
        · exact ⟨b4, _, _, rfl, (sf.trans sg) _ _ upd_same, by decide, by decide⟩
        · exact ⟨b5, _, _, rfl, sg _ _ upd_same, by decide, by omega⟩
      generalize upd (upd (upd (upd (upd (upd (upd G b0 _) b1 _) b2 _) b3 _) b4 _) b5 _) l _ = G1 at c1 hb
      obtain ⟨b, x, y, rfl, hb, hx, hy⟩ := hb
      refine ⟨.ref r1, rfl, .inl ⟨rfl, _, .of c1.hr⟩, .ref b, rfl, b, _, _, _, rfl, rfl, .of hb, rfl, .ref b, rfl, b, _, _, _, rfl, rfl, .of hb, rfl, by show 3 ≤ sizeLine; decide, fun t nt => ⟨by show 1 ≤ sizeLine; decide, fun p np => ⟨by show 3 ≤ sizeLine; decide, fun u nu => ?_⟩⟩⟩
      obtain ⟨s3, lw⟩ := mk_ex c1 (s := "") nt np nu
      have c2 := c1.same s3
      have hb2 := s3 _ _ hb
      refine ⟨.ref b, rfl, b, _, _, _, rfl, rfl, .of hb2, rfl, .ref b, rfl, b, _, _, _, rfl, rfl, .of hb2, rfl, by show 3 ≤ sizeLine; decide, fun t2 nt2 => ⟨by show 1 ≤ sizeLine; decide, fun p2 np2 => ⟨by show 5 ≤ sizeLine; decide, fun u2 nu2 => ⟨by show 2 ≤ sizeLine; decide, fun l2 nl2 => ?_⟩⟩⟩⟩
      obtain ⟨s4, lx⟩ := mk_sz c2 (k0 := x) (j0 := y) (s := "") nt2 np2 nu2
      have sl := same_upd nl2 (o := .lst [.ref u, .ref u2])
      have c3 := (c2.same s4).same sl
      have hb3 := sl _ _ (s4 _ _ hb2)
      have lw3 := (lw.same s4).same sl
      have lx3 := lx.same sl
      obtain ⟨v, hv, mv⟩ := at_ex (xs := [V.ref u, V.ref u2]) (i := cell / 6 % 2) u0 u1
      refine ⟨_, rfl, _, _, rfl, rfl, ⟨by decide, by decide⟩, .inl ⟨_, rfl, _, _, rfl, rfl, (by show (0 : Int) < _; decide), l2, _, _, _, rfl, rfl, .of upd_same, hv, r1, _, _, rfl, rfl, c3.hr, small' (by omega), ?_⟩⟩
      generalize upd (upd _ u2 _) l2 _ = G4 at c3 hb3 lw3 lx3
      obtain ⟨l', hl', bl'⟩ : ∃ l', LWe K q1 r1 G4 v l' ∧ BLf l' := by
        rcases List.mem_cons.mp mv with rfl | mv
        · exact ⟨_, lw3, bl_ex1 (by decide) hx hy (gs_empty 700)⟩
        · rw [List.mem_singleton.mp mv]
          exact ⟨_, lx3, bl_sz1 (gs_of (by decide +kernel)) (by decide) (by decide) hx hy (gs_empty 700)⟩
      have c4 := c3.app hl' bl' (by omega)
      have br : b ≠ r1 := fun z => by rw [z, c3.hr] at hb3; cases hb3
      have hb4 : upd G4 r1 (.lst (xs ++ [v])) b = _ := (upd_ne br).trans hb3
      generalize upd G4 r1 _ = G5 at c4 hb4
      refine ⟨.ref r1, rfl, .inl ⟨rfl, _, .of c4.hr⟩, .ref b, rfl, b, _, _, _, rfl, rfl, .of hb4, rfl, .ref b, rfl, b, _, _, _, rfl, rfl, .of hb4, rfl, by show 3 ≤ sizeLine; decide, fun t nt => ⟨by show 1 ≤ sizeLine; decide, fun p np => ⟨by show 5 ≤ sizeLine; decide, fun u nu => ?_⟩⟩⟩
      obtain ⟨s3, lw⟩ := mk_sz c4 (k0 := 2) (j0 := 0) (s := "") nt np nu
      have c5 := c4.same s3
      refine ⟨r1, _, _, rfl, rfl, c5.hr, small' (by rw [List.length_append]; show _ + 1 < _; omega), ?_⟩
      exact ⟨.ref q1, rfl, .ref r1, rfl, (c5.app lw (bl_sz1 (gs_of (by decide +kernel)) hx hy (by decide) (by decide) (gs_empty 700)) (by rw [List.length_append]; show _ + 1 ≤ _; omega)).told q⟩
    refine ⟨_, rfl, rfl, _, rfl, dF (dne e5) ?_⟩
    by_cases e6 : word = 6 ∧ 0 < m.qs.length
    · refine ⟨_, rfl, rfl, _, rfl, dT (deq e6.1) ⟨_, rfl, _, _, rfl, rfl, _, rfl, dT (decide_eq_true (by omega)) ?_⟩⟩
      obtain ⟨j0, j1⟩ := im cell (by omega)
      rw [List.length_map] at j1
      obtain ⟨v0, v1⟩ := em (cell / 30) 3 (by decide)
      refine ⟨_, rfl, .inl ⟨_, rfl, _, rfl, _, _, rfl, rfl, by omega, ?_⟩⟩
      have jb : (cell % (m.qs.length : Int)).natAbs < 10 ^ 8 := by omega
      refine ⟨_, rfl, by show 3 ≤ sizeLine; decide, fun t1 f1 => ⟨_, rfl, by show 3 ≤ sizeLine; decide, fun t2 f2 => ⟨_, rfl, by show 3 ≤ sizeLine; decide, fun t3 f3 => ⟨by show 3 ≤ sizeLine; decide, fun p fp => ⟨by show 3 ≤ sizeLine; decide, fun u fu => ?_⟩⟩⟩⟩⟩
      have sa := same_upd f1 (o := .tup [.int 1, .int 1, .int (cell % (m.qs.length : Int))])
      obtain ⟨s0, h1, _, _, _, _⟩ := up3 f1 f2 f3 (c := .tup [.int 2, .int 1, .int (cell % (m.qs.length : Int))])
      obtain ⟨s1, h3, hp, hu, ff, _⟩ := up3 f3 fp fu (c := .tup [.str "exact", .ref p, .str ""])
      have s2 := same_upd f2 (o := .tup [.int 1, .int 0, .int (cell % (m.qs.length : Int))])
      have lw : LWe K q1 r1 _ (.ref u) ⟨true, 0, 0, [⟨.inl 1, 1, (cell % (m.qs.length : Int))⟩, ⟨.inl 1, 0, (cell % (m.qs.length : Int))⟩, ⟨.inl 2, 1, (cell % (m.qs.length : Int))⟩], ""⟩ := new_ex hp (.cons (tm_int (s1 _ _ (s2 _ _ upd_same))) (.cons (tm_int (s1 _ _ upd_same)) (.cons (tm_int h3) .nil))) (c0.ner ((sa.trans s2).free ff)) hu
      have c1 := c0.same (sa.trans (s2.trans s1))
      generalize upd _ u _ = G1 at c1 lw
      refine ⟨_, rfl, _, rfl, by show 3 ≤ sizeLine; decide, fun t4 f4 => ⟨_, rfl, by show 3 ≤ sizeLine; decide, fun t5 f5 => ⟨by show 2 ≤ sizeLine; decide, fun p2 fp2 => ⟨by show 5 ≤ sizeLine; decide, fun u2 fu2 => ⟨by show 2 ≤ sizeLine; decide, fun l nl => ?_⟩⟩⟩⟩⟩
      obtain ⟨s3, lx⟩ := mk_sz2 c1 (k0 := 1) (j0 := (cell % (m.qs.length : Int))) (s := "") f4 f5 fp2 fu2
      have sl := same_upd nl (o := .lst [.ref u, .ref u2])
      have c2 := c1.same (s3.trans sl)
      have lw2 := lw.same (s3.trans sl)
      have lx2 := lx.same sl
      have hl := at_new sl
      generalize upd (upd _ u2 _) l _ = G2 at c2 lw2 lx2 hl
      refine ⟨.ref r1, rfl, .inl ⟨rfl, _, .of c2.hr⟩, .ref l, rfl, _, rfl, _, rfl, by show 3 ≤ sizeLine; decide, fun t6 f6 => ⟨_, rfl, by show 3 ≤ sizeLine; decide, fun t7 f7 => ⟨by show 2 ≤ sizeLine; decide, fun p3 fp3 => ⟨by show 5 ≤ sizeLine; decide, fun u3 fu3 => ⟨by show 1 ≤ sizeLine; decide, fun l2 nl2 => ?_⟩⟩⟩⟩⟩
      obtain ⟨s4, ly⟩ := mk_sz2 c2 (k0 := 1) (j0 := (cell % (m.qs.length : Int))) (s := "") f6 f7 fp3 fu3
      have sl2 := same_upd nl2 (o := .lst [.ref u3])
      refine ⟨l, l2, _, _, rfl, rfl, sl2 _ _ (s4 _ _ hl), upd_same, by show 3 ≤ sizeLine; decide, fun w nw => ?_⟩
      have sw := same_upd nw (o := .lst ([.ref u, .ref u2] ++ [.ref u3]))
      have c3 := c2.same (s4.trans (sl2.trans sw))
      have lw3 := lw2.same (s4.trans (sl2.trans sw))
      have lx3 := lx2.same (s4.trans (sl2.trans sw))
      have ly3 := ly.same (sl2.trans sw)
      obtain ⟨v, hv, mv⟩ := at_ex (xs := [V.ref u, V.ref u2] ++ [V.ref u3]) (i := cell / 30 % 3) v0 v1
      refine ⟨_, rfl, _, _, rfl, rfl, ⟨by decide, by decide⟩, .inl ⟨_, rfl, _, _, rfl, rfl, (by show (0 : Int) < _; decide), w, _, _, _, rfl, rfl, .of upd_same, hv, r1, _, _, rfl, rfl, c3.hr, small' (by omega), ?_⟩⟩
      generalize upd _ w _ = G4 at c3 lw3 lx3 ly3
      obtain ⟨l', hl', bl'⟩ : ∃ l', LWe K q1 r1 G4 v l' ∧ BLf l' := by
        simp only [List.cons_append, List.nil_append, List.mem_cons, List.not_mem_nil, or_false] at mv
        rcases mv with rfl | rfl | rfl
        · refine ⟨_, lw3, bl_ex (fun t ht => ?_) (gs_empty 700) (by show 3 ≤ 131; decide)⟩
          simp only [List.mem_cons, List.not_mem_nil, or_false] at ht
          rcases ht with rfl | rfl | rfl
          · exact ⟨by show (1 : Int).natAbs < _; decide, jb, 1, rfl, by decide⟩
          · exact ⟨by show (0 : Int).natAbs < _; decide, jb, 1, rfl, by decide⟩
          · exact ⟨by show (1 : Int).natAbs < _; decide, jb, 2, rfl, by decide⟩
        · exact ⟨_, lx3, bl_sz2 (gs_of (by decide +kernel)) (gs_of (by decide +kernel)) ⟨by decide, jb, by decide, jb, by decide, jb⟩ (gs_empty 700)⟩
        · exact ⟨_, ly3, bl_sz2 (gs_of (by decide +kernel)) (gs_of (by decide +kernel)) ⟨by decide, jb, by decide, jb, by decide, jb⟩ (gs_empty 700)⟩
      exact ⟨.ref q1, rfl, .ref r1, rfl, (c3.app hl' bl' (by omega)).told q⟩
    refine ⟨_, rfl, rfl, _, rfl, dB (fun e b => ⟨_, rfl, _, _, rfl, rfl, _, rfl, dF (decide_eq_false fun z => e6 ⟨V.int.inj (of_decide_eq_true e), by omega⟩) b⟩) ?_⟩
    by_cases e7 : word = 7 ∧ 0 < m.qs.length
    · refine ⟨_, rfl, rfl, _, rfl, dT (deq e7.1) ⟨_, rfl, _, _, rfl, rfl, _, rfl, dT (decide_eq_true (by omega)) ?_⟩⟩
      obtain ⟨j0, j1⟩ := im cell (by omega)
      rw [List.length_map] at j1
      refine ⟨.ref r1, rfl, .inl ⟨rfl, _, .of c0.hr⟩, _, rfl, .inl ⟨_, rfl, _, rfl, _, _, rfl, rfl, by omega, by show 0 ≤ sizeLine; decide, fun p np => ⟨by show 5 ≤ sizeLine; decide, fun u nu => ?_⟩⟩⟩
      have c1 := c0.same (same_upd np (o := .lst []))
      have c2 := c1.same (same_upd nu (o := .tup [.str "sized", .int 0, .int (cell % (m.qs.length : Int)), .ref p, .str "f"]))
      refine ⟨r1, _, _, rfl, rfl, c2.hr, small' (by omega), ?_⟩
      exact ⟨.ref q1, rfl, .ref r1, rfl, (c2.app (new_sz (ts := []) (same_upd nu _ _ upd_same) .nil (c0.ner np) upd_same) (bl_sz (by decide) (by omega) (fun _ z => by cases z) (gs_of (by decide +kernel)) (by decide)) (by omega)).told q⟩
    refine ⟨_, rfl, rfl, _, rfl, dB (fun e b => ⟨_, rfl, _, _, rfl, rfl, _, rfl, dF (decide_eq_false fun z => e7 ⟨V.int.inj (of_decide_eq_true e), by omega⟩) b⟩) ?_⟩
    by_cases e8 : word = 8 ∧ 0 < m.qs.length
    · refine ⟨_, rfl, rfl, _, rfl, dT (deq e8.1) ⟨_, rfl, _, _, rfl, rfl, _, rfl, dT (decide_eq_true (by omega)) ?_⟩⟩
      obtain ⟨j0, j1⟩ := im cell (by omega)
      obtain ⟨s, hs, gs⟩ := nm _ j0 j1
      obtain ⟨v0, v1⟩ := em (cell / 30) 3 (by decide)
      have gt : GS 300 ("t" : Str) := gs_of (by decide +kernel)
      refine ⟨by show 3 ≤ sizeLine; decide, fun t1 f1 => ⟨by show 3 ≤ sizeLine; decide, fun t2 f2 => ⟨by show 2 ≤ sizeLine; decide, fun p1 fp1 => ?_⟩⟩⟩
      obtain ⟨s3, h1, h2, h3, ff, _⟩ := up3 f1 f2 fp1 (c := .lst [.ref t1, .ref t2])
      have c1 := c0.same s3
      have ts1 : TsL K _ p1 [⟨.inr "t", 1, 0⟩, ⟨.inr "t", 2, 0⟩] := ⟨_, h3, .cons (tm_str h1) (.cons (tm_str h2) .nil)⟩
      have fp1' := ((same_upd f1 (o := .tup [.str "t", .int 1, .int 0])).trans (same_upd f2 (o := .tup [.str "t", .int 2, .int 0]))).free fp1
      have np1 := c0.ner fp1'
      generalize upd _ p1 _ = G1 at c1 ts1
      refine ⟨.ref q1, rfl, _, rfl, .inl ⟨_, rfl, _, rfl, _, _, rfl, rfl, by omega, q1, _, _, _, rfl, rfl, .of c1.hq, hs, by show 3 ≤ sizeLine; decide, fun t3 f3 => ⟨by show 1 ≤ sizeLine; decide, fun p2 fp2 => ?_⟩⟩⟩
      have sa := same_upd f3 (o := .tup [.str s, .int 1, .int 0])
      have sb := same_upd fp2 (o := .lst [.ref t3])
      have c2 := c1.same (sa.trans sb)
      have ts1b := ts1.same (sa.trans sb)
      have ts2 : TsL K _ p2 [⟨.inr s, 1, 0⟩] := ⟨_, upd_same, .cons (tm_str (sb _ _ upd_same)) .nil⟩
      have np2 := c1.ner (sa.free fp2)
      generalize upd _ p2 _ = G2 at c2 ts1b ts2
      refine ⟨_, rfl, cell, "t", rfl, c00, gt, fun s5 Hs ss gs5 => ⟨by show 3 ≤ sizeLine; decide, fun t4 f4 => ⟨by show 1 ≤ sizeLine; decide, fun p3 fp3 => ⟨by show 3 ≤ sizeLine; decide, fun l nl => ?_⟩⟩⟩⟩
      have sc := same_upd f4 (o := .tup [.str s5, .int 1, .int 0])
      have sd := same_upd fp3 (o := .lst [.ref t4])
      have se := same_upd nl (o := .lst [.ref p1, .ref p2, .ref p3])
      have c3 := c2.same (ss.trans (sc.trans (sd.trans se)))
      have ts1c := ts1b.same (ss.trans (sc.trans (sd.trans se)))
      have ts2c := ts2.same (ss.trans (sc.trans (sd.trans se)))
      have ts3 : TsL K _ p3 [⟨.inr s5, 1, 0⟩] := TsL.same se ⟨_, upd_same, .cons (tm_str (sd _ _ upd_same)) .nil⟩
      have np3 := c2.ner ((ss.trans sc).free fp3)
      obtain ⟨v, hv, mv⟩ := at_ex (xs := [V.ref p1, V.ref p2, V.ref p3]) (i := cell / 30 % 3) v0 v1
      refine ⟨.ref r1, rfl, .inl ⟨rfl, _, .of c3.hr⟩, .ref l, rfl, _, rfl, _, _, rfl, rfl, ⟨by decide, by decide⟩, .inl ⟨_, rfl, _, _, rfl, rfl, (by show (0 : Int) < _; decide), l, _, _, _, rfl, rfl, .of upd_same, hv, ?_⟩⟩
      generalize upd _ l _ = G3 at c3 ts1c ts2c ts3
      obtain ⟨p, ts, rfl, np, hts, hl2, hbt⟩ : ∃ (p : Addr) (ts : List Trm), v = .ref p ∧ (p ≠ q1 ∧ p ≠ r1) ∧ TsL K G3 p ts ∧ ts.length ≤ 4 ∧ ∀ t ∈ ts, t.k.natAbs < 10 ^ 8 ∧ t.j.natAbs < 10 ^ 8 ∧ ∃ s : Str, t.h = .inr s ∧ GS 700 s := by
        simp only [List.mem_cons, List.not_mem_nil, or_false] at mv
        rcases mv with rfl | rfl | rfl
        · refine ⟨p1, _, rfl, np1, ts1c, by show 2 ≤ 4; decide, fun t ht => ?_⟩
          simp only [List.mem_cons, List.not_mem_nil, or_false] at ht
          rcases ht with rfl | rfl <;> exact ⟨by decide, by decide, _, rfl, gs_of (by decide +kernel)⟩
        · refine ⟨p2, _, rfl, np2, ts2c, by show 1 ≤ 4; decide, fun t ht => ?_⟩
          rw [List.mem_singleton.mp ht]
          exact ⟨by show (1 : Int).natAbs < _; decide, by show (0 : Int).natAbs < _; decide, _, rfl, gs.up (by decide)⟩
        · refine ⟨p3, _, rfl, np3, ts3, by show 1 ≤ 4; decide, fun t ht => ?_⟩
          rw [List.mem_singleton.mp ht]
          exact ⟨by show (1 : Int).natAbs < _; decide, by show (0 : Int).natAbs < _; decide, _, rfl, gs5.up (by decide)⟩
      refine ⟨by show 5 ≤ sizeLine; decide, fun u nu => ?_⟩
      have su := same_upd nu (o := .tup [.str "sized", .int 0, .int 0, .ref p, .str ""])
      have c4 := c3.same su
      obtain ⟨zs, hz, htz⟩ := hts.same su
      refine ⟨r1, _, _, rfl, rfl, c4.hr, small' (by omega), ?_⟩
      exact ⟨.ref q1, rfl, .ref r1, rfl, (c4.app (new_sz hz htz np upd_same) (bl_sz (by decide) (by decide) hbt (gs_empty 700) hl2) (by omega)).told q⟩
    refine ⟨_, rfl, rfl, _, rfl, dB (fun e b => ⟨_, rfl, _, _, rfl, rfl, _, rfl, dF (decide_eq_false fun z => e8 ⟨V.int.inj (of_decide_eq_true e), by omega⟩) b⟩) ?_⟩
    by_cases e9 : word = 9 ∧ 0 < m.qs.length
    · refine ⟨_, rfl, rfl, _, rfl, dT (deq e9.1) ⟨_, rfl, _, _, rfl, rfl, _, rfl, dT (decide_eq_true (by omega)) ?_⟩⟩
      refine ⟨by show 3 ≤ sizeLine; decide, fun t nt => ⟨by show 1 ≤ sizeLine; decide, fun p np => ⟨by show 5 ≤ sizeLine; decide, fun u nu => ⟨by show 1 ≤ sizeLine; decide, fun l nl => ?_⟩⟩⟩⟩
      obtain ⟨s3, lw⟩ := mk_sz c0 (k0 := 0) (j0 := 0) (s := "") nt np nu
      have c1 := c0.same s3
      generalize upd (upd (upd G t _) p _) u _ = G1 at c1 lw nl
      have sl := same_upd nl (o := .lst [.ref u])
      have c2 := c1.same sl
      have lw2 := lw.same sl
      refine ⟨.ref r1, rfl, l, r1, _, _, rfl, rfl, upd_same, c2.hr, small (by show 1 + _ ≤ _; omega), fun l2 nl2 => ?_⟩
      have sl2 := same_upd nl2 (o := .lst ([.ref u] ++ xs))
      have c3 := c2.same sl2
      have lw3 := lw2.same sl2
      refine ⟨by show 3 ≤ sizeLine; decide, fun t2 nt2 => ⟨by show 1 ≤ sizeLine; decide, fun p2 np2 => ⟨by show 5 ≤ sizeLine; decide, fun u2 nu2 => ⟨by show 1 ≤ sizeLine; decide, fun l3 nl3 => ?_⟩⟩⟩⟩
      obtain ⟨s4, lx4⟩ := mk_sz c3 (k0 := 1) (j0 := 0) (s := "") nt2 np2 nu2
      have h2 := s4 _ _ (show upd (upd G1 l (.lst [.ref u])) l2 (.lst ([.ref u] ++ xs)) l2 = _ from upd_same)
      have c4 := c3.same s4
      have lw4 := lw3.same s4
      generalize upd (upd (upd _ t2 _) p2 _) u2 _ = G4 at c4 lw4 lx4 nl3 h2
      have sl3 := same_upd nl3 (o := .lst [.ref u2])
      have c5 := c4.same sl3
      refine ⟨l2, l3, _, _, rfl, rfl, sl3 _ _ h2, upd_same, small (by rw [List.length_append]; show 1 + _ + 1 ≤ _; omega), fun v nv => ?_⟩
      have c6 := c5.newr (zs := [.ref u] ++ xs ++ [.ref u2]) (ms := [⟨false, 0, 0, [⟨.inr "t", 1, 0⟩], ""⟩] ++ m.ls ++ [⟨false, 1, 0, [⟨.inr "t", 2, 0⟩], ""⟩]) nv (A2.snoc (lx4.same sl3) (A2.app c5.hA (.cons (lw4.same sl3) .nil))) (by rw [List.length_append, List.length_append]; show 1 + _ + 1 ≤ _; omega) (fun z hz => ?_)
      · exact ⟨.ref q1, rfl, .ref v, rfl, c6.told q⟩
      · rcases List.mem_append.mp hz with hz | hz
        · rcases List.mem_append.mp hz with hz | hz
          · rw [List.mem_singleton.mp hz]; exact bl_sz1 (gs_of (by decide +kernel)) (by decide) (by decide) (by decide) (by decide) (gs_empty 700)
          · exact c0.bm.2.2.2 z hz
        · rw [List.mem_singleton.mp hz]; exact bl_sz1 (gs_of (by decide +kernel)) (by decide) (by decide) (by decide) (by decide) (gs_empty 700)
    refine ⟨_, rfl, rfl, _, rfl, dB (fun e b => ⟨_, rfl, _, _, rfl, rfl, _, rfl, dF (decide_eq_false fun z => e9 ⟨V.int.inj (of_decide_eq_true e), by omega⟩) b⟩) ?_⟩
    by_cases e10 : word = 10
    · refine ⟨_, rfl, rfl, _, rfl, dT (deq e10) ?_⟩
      have gf : GS 300 ("f" : Str) := gs_of (by decide +kernel)
      refine ⟨.ref r1, rfl, .inl ⟨rfl, _, .of c0.hr⟩, by show 0 ≤ sizeLine; decide, fun p np => ?_⟩
      have c1 := c0.same (same_upd np (o := .lst []))
      refine ⟨_, rfl, cell, "f", rfl, c00, gf, fun s Hs ss gs => ⟨by show 3 ≤ sizeLine; decide, fun u nu => ?_⟩⟩
      have c2 := (c1.same ss).same (same_upd nu (o := .tup [.str "exact", .ref p, .str s]))
      refine ⟨r1, _, _, rfl, rfl, c2.hr, small' (by omega), ?_⟩
      exact ⟨.ref q1, rfl, .ref r1, rfl, (c2.app (new_ex (ts := []) (same_upd nu _ _ (ss _ _ upd_same)) .nil (c0.ner np) upd_same) (bl_ex (fun _ z => by cases z) (gs.up (by decide)) (by decide)) (by omega)).told q⟩
    refine ⟨_, rfl, rfl, _, rfl, dF (dne e10) ?_⟩
    by_cases e11 : which < (xs.length : Int)
    · refine ⟨_, rfl, .ref r1, rfl, r1, _, rfl, .inl (.of c0.hr), _, _, rfl, rfl, _, rfl, dT (decide_eq_true e11) ?_⟩
      obtain ⟨n, rfl⟩ : ∃ n : Nat, which = (n : Int) := ⟨_, (Int.toNat_of_nonneg h0w).symm⟩
      have hn : n < xs.length := by omega
      obtain ⟨l, hl, p, n1, n2, ⟨b, e, lb⟩, zs, hz, hzt⟩ := c0.hA.get (List.getElem?_eq_getElem hn)
      have hv : atI xs (n : Int) = some (.ref b) := by rw [← e]; exact atI_nat (List.getElem?_eq_getElem hn)
      rcases lb with ⟨ex, hb⟩ | ⟨ex, hb⟩
      · refine ⟨.ref r1, rfl, _, rfl, r1, _, _, _, rfl, rfl, .of c0.hr, hv, b, _, _, _, rfl, rfl, hb, rfl, rfl, _, rfl, dT (decide_eq_true rfl) ?_⟩
        refine ⟨.ref r1, rfl, _, rfl, r1, _, _, _, rfl, rfl, .of c0.hr, hv, b, _, _, _, rfl, rfl, hb, rfl, ?_⟩
        refine ⟨.ref r1, rfl, _, rfl, r1, _, _, _, rfl, rfl, .of c0.hr, hv, b, _, _, _, rfl, rfl, hb, rfl, ?_⟩
        have gn := c0.ner (p := p)
        refine ⟨1, rfl, p, zs, rfl, .of hz, fun s ns => ?_⟩
        rw [cut1]
        have ss := same_upd ns (o := .lst (zs.take 1))
        have bl := vm.bm.ok l (mem_at hl)
        obtain ⟨fam, vl⟩ := vm.law l (mem_at hl)
        have len := vl.many
        have zl := hzt.len
        refine ⟨p, s, _, _, rfl, rfl, ss _ _ hz, upd_same, small (by rw [List.length_take]; omega), fun w nw => ?_⟩
        have sw := same_upd nw (o := .lst (zs ++ zs.take 1))
        have c1 := c0.same (ss.trans sw)
        refine ⟨.ref r1, rfl, _, rfl, r1, _, _, _, rfl, rfl, .of c1.hr, hv, b, _, _, _, rfl, rfl, Same.seqT (ss.trans sw) hb, rfl, by show 3 ≤ sizeLine; decide, fun u nu => ?_⟩
        have su := same_upd nu (o := .tup [.str "exact", .ref w, .str l.src])
        have c2 := c1.same su
        refine ⟨.ref r1, rfl, _, rfl, r1, _, _, n, rfl, rfl, c2.hr, ix_ok rfl hn, ?_⟩
        have hz2 := hzt.mono fun v t z => z.same (ss.trans (sw.trans su))
        refine ⟨.ref q1, rfl, .ref r1, rfl, (c2.putr (new_ex (ts := l.ts ++ l.ts.take 1) (su _ _ upd_same) (A2.app (A2.take 1 hz2) hz2) (c0.ner (ss.free nw)) upd_same) (bl_ex (fun t ht => ?_) bl.src (by rw [List.length_append, List.length_take]; omega))).told q⟩
        have mt : t ∈ l.ts := (List.mem_append.mp ht).elim id (fun z => List.mem_of_mem_take z)
        exact ⟨(bl.ts t mt).1, (bl.ts t mt).2, bl.num ex t mt⟩
      · refine ⟨.ref r1, rfl, _, rfl, r1, _, _, _, rfl, rfl, .of c0.hr, hv, b, _, _, _, rfl, rfl, hb, rfl, rfl, _, rfl, dF (decide_eq_false fun z => by cases z) ?_⟩
        exact ⟨.ref q1, rfl, .ref r1, rfl, c0.told q⟩
    · refine ⟨_, rfl, .ref r1, rfl, r1, _, rfl, .inl (.of c0.hr), _, _, rfl, rfl, _, rfl, dF (decide_eq_false e11) ?_⟩
      exact ⟨.ref q1, rfl, .ref r1, rfl, c0.told q⟩
end
end K05
-- X5
namespace K05
open PySem PySem.Spec PyProof.Rows L2 TL
section
variable {P : Program} {w : World} {K : PySem.W.Frag} {mg : Str → Option Value} {base : Heap}
/-! ### the law -/
def sp_law (K : PySem.W.Frag) (P1 P2 P3 P4 P5 : Addr) : Sp := fun vs H Q _ => ∃ (a : Addr) (ns : List Int), vs = [.ref a] ∧ SqL K H a (ns.map V.int) ∧ ns.length ≤ 63 ∧ GxR.TabG H P1 ∧ GxR.TabG H P2 ∧ GxR.TabG H P3 ∧ GxR.TabG H P4 ∧ GxR.TabG H P5 ∧ ∀ H', Q (.bl true) H'
theorem Lk.il {H H' : Hp} (s : Lk H H') {a : Addr} {ns : List Int} (h : IL H a ns) : IL H' a ns := s.lst h
theorem bm_nil : BM ⟨[], []⟩ := ⟨⟨Nat.zero_le _, fun _ z => by cases z⟩, Nat.zero_le _, fun _ z => by cases z⟩
theorem ok_nil : OkM ⟨[], []⟩ := ⟨Nat.zero_le _, Nat.zero_le _, (fun _ z => by cases z), (fun _ z => by cases z), .nil⟩
theorem ok_law (T : Txt K mg) {P1 P2 P3 P4 P5 : Addr} (B1 : GxR.TabB base mg T.is_in_range.c P1) (B2 : GxR.TabB base mg T.is_word.c P2) (B3 : GxR.TabB base mg T.is_name.c P3) (B4 : GxR.TabB base mg T.is_law.c P4) (B5 : GxR.TabB base mg T.is_model.c P5) : LG.FnG P w K mg base CX0 8 T.law.a T.law.fd ["script"] (sp_law K P1 P2 P3 P4 P5) := by
  let TB : Tbs base T [P1, P2, P3, P4, P5] := ⟨P1, P2, P3, P4, P5, B1, B2, B3, B4, B5, by simp, by simp, by simp, by simp, by simp⟩
  refine LG.fun_okG T.law.F sc_law (fun vs H Q E h => ?_) (fun cdv A outer s H vs Q E hr gd h => ?_)
  · obtain ⟨a, ns, rfl, _⟩ := h
    rfl
  · obtain ⟨a, ns, rfl, ha, hl, t1, t2, t3, t4, t5, q⟩ := h
    have tg : TGs [P1, P2, P3, P4, P5] H := fun P hP => by
      simp only [List.mem_cons, List.not_mem_nil, or_false] at hP
      rcases hP with rfl | rfl | rfl | rfl | rfl
      · exact t1
      · exact t2
      · exact t3
      · exact t4
      · exact t5
    refine ⟨_, (pss_cons (ps_set (i := 1) sc_law.nd rfl (.inl rfl) (pe_call (ok_law_mixed T) (hr.mono (by decide)) (by rfl) T.law_mixed.g T.law_mixed.F.kp T.law_mixed.b .nil pass0 (pa_cons (pe_call (ok_law_draws T) (hr.mono (by decide)) (by rfl) T.law_draws.g T.law_draws.F.kp T.law_draws.b .nil pass0 (pa_cons (pv 0) pa_nil)) (pa_cons pe_int pa_nil))))
      (pss_cons (ps_set (i := 2) sc_law.nd rfl (.inl rfl) (pe_call (ok_law_model T) (hr.mono (by decide)) (by rfl) T.law_model.g T.law_model.F.kp T.law_model.b .nil pass0 (pa_cons (pv 1) (pa_cons pe_int pa_nil))))
      (pss_cons (ps_set (i := 3) sc_law.nd rfl (.inl rfl) (pe_callB (LG.call_reprD gd hr.units) (by rfl) T.m_repr (by decide +kernel) (pa_cons (pv 2) pa_nil)))
      (pss_cons (ps_if (PW.pt (pw_or (pt_cmpR op_isnot_bl (pe_call (ok_is_model T TB) (hr.mono (by decide)) (by rfl) T.is_model.g T.is_model.kp T.is_model.b .nil pass0 (pa_cons (pv 2) pa_nil)) pe_bl (nomark _)) (pw_or (pt_cmpR op_ne (pe_callB (LG.call_reprD gd hr.units) (by rfl) T.m_repr (by decide +kernel) (pa_cons (pv 2) pa_nil)) (pv 3) (nomark _)) (pw_or1 (pt_cmpR op_isnot_bl (pe_call (ok_is_model T TB) (hr.mono (by decide)) (by rfl) T.is_model.g T.is_model.kp T.is_model.b .nil pass0 (pa_cons (pe_tup (pa_cons (pe_lst pa_nil) (pa_cons (pe_lst pa_nil) pa_nil))) pa_nil)) pe_bl (nomark _))))))
        (pss_one (ps_ret pe_bl))
        pss_nil)
      (pss_cons (ps_for PassesOwn.never rfl (pi_range1 (by rfl) T.m_range (pa_cons pe_int pa_nil)) (pg_name (i := 4) sc_law.nd rfl (.inl rfl))
        (pss_cons (ps_set (i := 5) sc_law.nd rfl (.inl rfl) (pe_call (ok_law_spoilt T) (hr.mono (by decide)) (by rfl) T.law_spoilt.g T.law_spoilt.F.kp T.law_spoilt.b .nil pass0 (pa_cons (pv 1) (pa_cons (pe_op op_add pe_int (pe_op op_mul pe_int (pv 4))) (pa_cons (pv 2) pa_nil)))))
        (pss_cons (ps_set (i := 3) sc_law.nd rfl (.inl rfl) (pe_callB (LG.call_reprD gd hr.units) (by rfl) T.m_repr (by decide +kernel) (pa_cons (pv 5) pa_nil)))
        (pss_cons (ps_set (i := 6) sc_law.nd rfl (.inl rfl) (pe_call (ok_is_model T TB) (hr.mono (by decide)) (by rfl) T.is_model.g T.is_model.kp T.is_model.b .nil pass0 (pa_cons (pv 5) pa_nil)))
        (pss_one (ps_if (PW.pt (pw_or (pt_not (pt_val (pe_callB call_isi (by rfl) T.m_isinstance (by decide +kernel) (pa_cons (pv 6) (pa_cons (pe_bltn (v := .ty "bool") (by rfl) T.m_bool (by decide +kernel) rfl) pa_nil))))) (pw_or (pt_cmpR op_ne (pv 6) (pe_call (ok_law_due T) (hr.mono (by decide)) (by rfl) T.law_due.g T.law_due.F.kp T.law_due.b .nil pass0 (pa_cons (pv 5) pa_nil)) (nomark _)) (pw_or1 (pt_cmpR op_ne (pe_callB (LG.call_reprD gd hr.units) (by rfl) T.m_repr (by decide +kernel) (pa_cons (pv 5) pa_nil)) (pv 3) (nomark _))))))
          (pss_one (ps_ret pe_bl))
          pss_nil))))))
      (pss_one (ps_ret (pe_cmpR op_is_bl (pe_call (ok_is_model T TB) (hr.mono (by decide)) (by rfl) T.is_model.g T.is_model.kp T.is_model.b .nil pass0 (pa_cons (pv 2) pa_nil)) pe_bl (nomark _))))))))), ?_⟩
    refine ⟨.ref a, rfl, a, ns, rfl, ha, hl, fun H1 d0 ds0 s1 n1 hd0 hl0 => ?_⟩
    refine ⟨d0, ds0, 720, rfl, hd0, hl0, by decide, fun H2 d ds s2 n2 hd => ?_⟩
    refine ⟨.ref d, rfl, d, ds, 0, rfl, hd, Int.le_refl _, fun H3 v m s3 hm vm => ?_⟩
    have hd3 := hd.same s3
    have tg3 := ((tg.same s1).same s2).same s3
    obtain ⟨am, rfl, hdp⟩ := dp_md hm
    have g := gd_mdf vm.bm vm.fw
    have gd0 := PyData.hasDict_of_canLay _ g.lay
    refine ⟨.ref am, rfl, am, dMd m, rfl, hdp, g.sh, gd0, Nat.le_trans g.dep (by decide), Nat.le_trans g.len (by decide), ?_⟩
    generalize hkept : (dMd m).shown = kept
    refine ⟨.ref am, rfl, .ref am, m, rfl, hm, vm.bm, tg3, fun b G hb lk tgG => ?_⟩
    obtain rfl := hb.mpr vm.ok'
    refine ⟨true, true, rfl, rfl, _, rfl, dF (by decide) ?_⟩
    obtain ⟨_, e, hdp1⟩ := dp_md (hm.lk lk)
    cases e
    refine ⟨.ref am, rfl, am, dMd m, rfl, hdp1, g.sh, gd0, Nat.le_trans g.dep (by decide), Nat.le_trans g.len (by decide), _, rfl, rfl, _, rfl, ?_⟩
    rw [hkept, decide_eq_true rfl]
    refine iteF ?_
    refine ⟨by show 0 ≤ sizeLine; decide, fun e1 f1 => ⟨by show 0 ≤ sizeLine; decide, fun e2 f2 => ⟨by show 2 ≤ sizeLine; decide, fun e3 f3 => ?_⟩⟩⟩
    obtain ⟨s4, h1, h2, h3, _, _⟩ := up3 f1 f2 f3 (c := .tup [.ref e1, .ref e2])
    refine ⟨.ref e3, ⟨[], []⟩, rfl, ⟨e3, e1, e2, [], rfl, .of h3, h1, h2, .nil⟩, bm_nil, tgG.same s4, fun b G2 hb2 lk2 tg2 => ?_⟩
    obtain rfl := hb2.mpr ok_nil
    refine ⟨true, true, rfl, rfl, _, rfl, dF (by decide) ?_⟩
    have lk3 := lk.trans ((lk_of s4).trans lk2)
    refine ⟨4, rfl, by decide, by decide, ?_⟩
    refine for_range (n := 4) (lo := 0) (fun i σ G => Lk H3 G ∧ TGs [P1, P2, P3, P4, P5] G ∧ ∃ (k : Str) (x4 x5 x6 : Option V), σ = [some (.ref a), some (.ref d), some (.ref am), some (.str k), x4, x5, x6]) ⟨lk3, tg2, kept, none, none, none, rfl⟩ (fun i σ G hi hP => ?_) (fun σ G hP => ?_)
    · obtain ⟨kk, tgg, k, x4, x5, x6, rfl⟩ := hP
      refine ⟨.ref d, rfl, _, rfl, _, _, rfl, rfl, .inl ⟨by omega, by decide⟩, _, _, rfl, rfl, .ref am, rfl, d, ds, _, _, m, rfl, kk.il hd3, by omega, hm.lk kk, vm, fun G1 v' m' s5 hm' bm' fw' => ?_⟩
      obtain ⟨ao, rfl, hdo⟩ := dp_md hm'
      have go := gd_mdf bm' fw'
      have go0 := PyData.hasDict_of_canLay _ go.lay
      refine ⟨.ref ao, rfl, ao, dMd m', rfl, hdo, go.sh, go0, Nat.le_trans go.dep (by decide), Nat.le_trans go.len (by decide), ?_⟩
      generalize hkept2 : (dMd m').shown = kept2
      refine ⟨.ref ao, rfl, .ref ao, m', rfl, hm', bm', tgg.same s5, fun b G4 hb4 lk4 tg4 => ?_⟩
      refine ⟨_, rfl, _, _, _, _, true, rfl, .ty "bool", .base (.bl b), rfl, _, rfl, iteF ?_⟩
      refine ⟨_, rfl, .ref ao, rfl, .ref ao, m', rfl, hm'.lk lk4, bm', fun b2 G5 hb5 s6 => ?_⟩
      have eb : b2 = b := by
        rw [Bool.eq_iff_iff]
        exact hb5.trans hb4.symm
      subst eb
      refine ⟨rfl, _, rfl, ?_⟩
      rw [decide_eq_true rfl]
      refine iteF ?_
      obtain ⟨_, e, hdp2⟩ := dp_md ((hm'.lk lk4).same s6)
      cases e
      refine ⟨.ref ao, rfl, ao, dMd m', rfl, hdp2, go.sh, go0, Nat.le_trans go.dep (by decide), Nat.le_trans go.len (by decide), _, rfl, rfl, _, rfl, ?_⟩
      rw [hkept2, decide_eq_true rfl]
      exact iteF ⟨((kk.trans (lk_of s5)).trans lk4).trans (lk_of s6), tg4.same s6, _, _, _, _, rfl⟩
    · obtain ⟨kk, tgg, k, x4, x5, x6, rfl⟩ := hP
      refine ⟨.ref am, rfl, .ref am, m, rfl, hm.lk kk, vm.bm, tgg, fun b G3 hb3 lk3 tg3 => ?_⟩
      obtain rfl := hb3.mpr vm.ok'
      exact ⟨true, true, rfl, rfl, q _⟩
end

section
/-- the facts of the text, from what stands behind the top -/
theorem all_mk {l : PySem.W.OpenLaw} {w : World} {K : PySem.W.Frag} {h : Heap} {mg : Str → Option Value} {fa : Addr} (X : K.In h) (G : h.Ns mainGlobals mg) (hfa : mg "law" = some (.ref fa))
    {f0 : Addr} {od0 an0 : Option Addr} {sl0 : Array (Option Value)} {oc0 kV0 dc0 pm0 cd0 ct0 : Value}
    {f1 : Addr} {od1 an1 : Option Addr} {sl1 : Array (Option Value)} {oc1 kV1 dc1 pm1 cd1 ct1 : Value}
    {f2 : Addr} {od2 an2 : Option Addr} {sl2 : Array (Option Value)} {oc2 kV2 dc2 pm2 cd2 ct2 : Value}
    {f3 : Addr} {od3 an3 : Option Addr} {sl3 : Array (Option Value)} {oc3 kV3 dc3 pm3 cd3 ct3 : Value}
    {f4 : Addr} {od4 an4 : Option Addr} {sl4 : Array (Option Value)} {oc4 kV4 dc4 pm4 cd4 ct4 : Value}
    {f5 : Addr} {od5 an5 : Option Addr} {sl5 : Array (Option Value)} {oc5 kV5 dc5 pm5 cd5 ct5 : Value}
    {f6 C6 P6 : Addr} {od6 an6 td6 : Option Addr} {sl6 tl6 : Array (Option Value)} {tv6 : Array Value} {oc6 kV6 dc6 pm6 ct6 te6 : Value}
    {f7 C7 P7 : Addr} {od7 an7 td7 : Option Addr} {sl7 tl7 : Array (Option Value)} {tv7 : Array Value} {oc7 kV7 dc7 pm7 ct7 te7 : Value}
    {f8 C8 P8 : Addr} {od8 an8 td8 : Option Addr} {sl8 tl8 : Array (Option Value)} {tv8 : Array Value} {oc8 kV8 dc8 pm8 ct8 te8 : Value}
    {f9 C9 P9 : Addr} {od9 an9 td9 : Option Addr} {sl9 tl9 : Array (Option Value)} {tv9 : Array Value} {oc9 kV9 dc9 pm9 ct9 te9 : Value}
    {f10 C10 P10 : Addr} {od10 an10 td10 : Option Addr} {sl10 tl10 : Array (Option Value)} {tv10 : Array Value} {oc10 kV10 dc10 pm10 ct10 te10 : Value}
    {f11 : Addr} {od11 an11 : Option Addr} {sl11 : Array (Option Value)} {oc11 kV11 dc11 pm11 cd11 ct11 : Value}
    {f12 : Addr} {od12 an12 : Option Addr} {sl12 : Array (Option Value)} {oc12 kV12 dc12 pm12 cd12 ct12 : Value}
    {f13 : Addr} {od13 an13 : Option Addr} {sl13 : Array (Option Value)} {oc13 kV13 dc13 pm13 cd13 ct13 : Value}
    {f14 : Addr} {od14 an14 : Option Addr} {sl14 : Array (Option Value)} {oc14 kV14 dc14 pm14 cd14 ct14 : Value}
    {f15 : Addr} {od15 an15 : Option Addr} {sl15 : Array (Option Value)} {oc15 kV15 dc15 pm15 cd15 ct15 : Value}
    {f16 : Addr} {od16 an16 : Option Addr} {sl16 : Array (Option Value)} {oc16 kV16 dc16 pm16 cd16 ct16 : Value}
    {f17 : Addr} {od17 an17 : Option Addr} {sl17 : Array (Option Value)} {oc17 kV17 dc17 pm17 cd17 ct17 : Value}
    {f18 : Addr} {od18 an18 : Option Addr} {sl18 : Array (Option Value)} {oc18 kV18 dc18 pm18 cd18 ct18 : Value}
    {f19 : Addr} {od19 an19 : Option Addr} {sl19 : Array (Option Value)} {oc19 kV19 dc19 pm19 cd19 ct19 : Value}
    {f20 : Addr} {od20 an20 : Option Addr} {sl20 : Array (Option Value)} {oc20 kV20 dc20 pm20 cd20 ct20 : Value}
    {f21 : Addr} {od21 an21 : Option Addr} {sl21 : Array (Option Value)} {oc21 kV21 dc21 pm21 cd21 ct21 : Value}
    {f22 : Addr} {od22 an22 : Option Addr} {sl22 : Array (Option Value)} {oc22 kV22 dc22 pm22 cd22 ct22 : Value}
    {f23 : Addr} {od23 an23 : Option Addr} {sl23 : Array (Option Value)} {oc23 kV23 dc23 pm23 cd23 ct23 : Value}
    {f24 : Addr} {od24 an24 : Option Addr} {sl24 : Array (Option Value)} {oc24 kV24 dc24 pm24 cd24 ct24 : Value}
    {f25 : Addr} {od25 an25 : Option Addr} {sl25 : Array (Option Value)} {oc25 kV25 dc25 pm25 cd25 ct25 : Value}
    {f26 : Addr} {od26 an26 : Option Addr} {sl26 : Array (Option Value)} {oc26 kV26 dc26 pm26 cd26 ct26 : Value}
    {f27 : Addr} {od27 an27 : Option Addr} {sl27 : Array (Option Value)} {oc27 kV27 dc27 pm27 cd27 ct27 : Value}
    {q_LETTERS : Tok}
    {q_MOST_LAWS : Tok}
    {q_MOST_NUMBER : Tok}
    {q_MOST_ORDER : Tok}
    {q_MOST_QUANTITIES : Tok}
    {q_SIGNS : Tok}
    (a0 : PySem.W.nsIn K mainGlobals "is_exact" = some (some (.ref f0))) (l0 : K.lookup f0 = some ⟨oc0, od0, .func (PySem.W.fnOf "is_exact" "is_exact" (defArgs s_is_exact) (defBody s_is_exact) (defScope s_is_exact) .none kV0 dc0 pm0 an0 cd0 ct0), sl0⟩) (c0 : PySem.W.codeIn K cd0 "is_exact" = true) (k0 : PySem.W.keepIn K (.ref f0) = true)
    (a1 : PySem.W.nsIn K mainGlobals "terms_of" = some (some (.ref f1))) (l1 : K.lookup f1 = some ⟨oc1, od1, .func (PySem.W.fnOf "terms_of" "terms_of" (defArgs s_terms_of) (defBody s_terms_of) (defScope s_terms_of) .none kV1 dc1 pm1 an1 cd1 ct1), sl1⟩) (c1 : PySem.W.codeIn K cd1 "terms_of" = true) (k1 : PySem.W.keepIn K (.ref f1) = true)
    (a2 : PySem.W.nsIn K mainGlobals "source_of" = some (some (.ref f2))) (l2 : K.lookup f2 = some ⟨oc2, od2, .func (PySem.W.fnOf "source_of" "source_of" (defArgs s_source_of) (defBody s_source_of) (defScope s_source_of) .none kV2 dc2 pm2 an2 cd2 ct2), sl2⟩) (c2 : PySem.W.codeIn K cd2 "source_of" = true) (k2 : PySem.W.keepIn K (.ref f2) = true)
    (a3 : PySem.W.nsIn K mainGlobals "sizes_in" = some (some (.ref f3))) (l3 : K.lookup f3 = some ⟨oc3, od3, .func (PySem.W.fnOf "sizes_in" "sizes_in" (defArgs s_sizes_in) (defBody s_sizes_in) (defScope s_sizes_in) .none kV3 dc3 pm3 an3 cd3 ct3), sl3⟩) (c3 : PySem.W.codeIn K cd3 "sizes_in" = true) (k3 : PySem.W.keepIn K (.ref f3) = true)
    (a4 : PySem.W.nsIn K mainGlobals "places_of" = some (some (.ref f4))) (l4 : K.lookup f4 = some ⟨oc4, od4, .func (PySem.W.fnOf "places_of" "places_of" (defArgs s_places_of) (defBody s_places_of) (defScope s_places_of) .none kV4 dc4 pm4 an4 cd4 ct4), sl4⟩) (c4 : PySem.W.codeIn K cd4 "places_of" = true) (k4 : PySem.W.keepIn K (.ref f4) = true)
    (a5 : PySem.W.nsIn K mainGlobals "has_twice" = some (some (.ref f5))) (l5 : K.lookup f5 = some ⟨oc5, od5, .func (PySem.W.fnOf "has_twice" "has_twice" (defArgs s_has_twice) (defBody s_has_twice) (defScope s_has_twice) .none kV5 dc5 pm5 an5 cd5 ct5), sl5⟩) (c5 : PySem.W.codeIn K cd5 "has_twice" = true) (k5 : PySem.W.keepIn K (.ref f5) = true)
    (a6 : PySem.W.nsIn K mainGlobals "is_in_range" = some (some (.ref f6))) (l6 : K.lookup f6 = some ⟨oc6, od6, .func (PySem.W.fnOf "is_in_range" "is_in_range" (defArgs s_is_in_range) (defBody s_is_in_range) (defScope s_is_in_range) .none kV6 dc6 pm6 an6 (.ref C6) ct6), sl6⟩) (c6 : PySem.W.codeIn K (.ref C6) "is_in_range" = true) (k6 : PySem.W.keepIn K (.ref f6) = true)
    (t6 : K.lookup C6 = some ⟨te6, td6, .fields tv6, tl6⟩) (p6 : tv6[11]? = some (.ref P6)) (n6 : K.lookup P6 = none)
    (a7 : PySem.W.nsIn K mainGlobals "_is_word" = some (some (.ref f7))) (l7 : K.lookup f7 = some ⟨oc7, od7, .func (PySem.W.fnOf "_is_word" "_is_word" (defArgs s_is_word) (defBody s_is_word) (defScope s_is_word) .none kV7 dc7 pm7 an7 (.ref C7) ct7), sl7⟩) (c7 : PySem.W.codeIn K (.ref C7) "_is_word" = true) (k7 : PySem.W.keepIn K (.ref f7) = true)
    (t7 : K.lookup C7 = some ⟨te7, td7, .fields tv7, tl7⟩) (p7 : tv7[11]? = some (.ref P7)) (n7 : K.lookup P7 = none)
    (a8 : PySem.W.nsIn K mainGlobals "is_name" = some (some (.ref f8))) (l8 : K.lookup f8 = some ⟨oc8, od8, .func (PySem.W.fnOf "is_name" "is_name" (defArgs s_is_name) (defBody s_is_name) (defScope s_is_name) .none kV8 dc8 pm8 an8 (.ref C8) ct8), sl8⟩) (c8 : PySem.W.codeIn K (.ref C8) "is_name" = true) (k8 : PySem.W.keepIn K (.ref f8) = true)
    (t8 : K.lookup C8 = some ⟨te8, td8, .fields tv8, tl8⟩) (p8 : tv8[11]? = some (.ref P8)) (n8 : K.lookup P8 = none)
    (a9 : PySem.W.nsIn K mainGlobals "_is_law" = some (some (.ref f9))) (l9 : K.lookup f9 = some ⟨oc9, od9, .func (PySem.W.fnOf "_is_law" "_is_law" (defArgs s_is_law) (defBody s_is_law) (defScope s_is_law) .none kV9 dc9 pm9 an9 (.ref C9) ct9), sl9⟩) (c9 : PySem.W.codeIn K (.ref C9) "_is_law" = true) (k9 : PySem.W.keepIn K (.ref f9) = true)
    (t9 : K.lookup C9 = some ⟨te9, td9, .fields tv9, tl9⟩) (p9 : tv9[11]? = some (.ref P9)) (n9 : K.lookup P9 = none)
    (a10 : PySem.W.nsIn K mainGlobals "is_model" = some (some (.ref f10))) (l10 : K.lookup f10 = some ⟨oc10, od10, .func (PySem.W.fnOf "is_model" "is_model" (defArgs s_is_model) (defBody s_is_model) (defScope s_is_model) .none kV10 dc10 pm10 an10 (.ref C10) ct10), sl10⟩) (c10 : PySem.W.codeIn K (.ref C10) "is_model" = true) (k10 : PySem.W.keepIn K (.ref f10) = true)
    (t10 : K.lookup C10 = some ⟨te10, td10, .fields tv10, tl10⟩) (p10 : tv10[11]? = some (.ref P10)) (n10 : K.lookup P10 = none)
    (a11 : PySem.W.nsIn K mainGlobals "sizes_of" = some (some (.ref f11))) (l11 : K.lookup f11 = some ⟨oc11, od11, .func (PySem.W.fnOf "sizes_of" "sizes_of" (defArgs s_sizes_of) (defBody s_sizes_of) (defScope s_sizes_of) .none kV11 dc11 pm11 an11 cd11 ct11), sl11⟩) (c11 : PySem.W.codeIn K cd11 "sizes_of" = true) (k11 : PySem.W.keepIn K (.ref f11) = true)
    (a12 : PySem.W.nsIn K mainGlobals "_law_draws" = some (some (.ref f12))) (l12 : K.lookup f12 = some ⟨oc12, od12, .func (PySem.W.fnOf "_law_draws" "_law_draws" (defArgs s_law_draws) (defBody s_law_draws) (defScope s_law_draws) .none kV12 dc12 pm12 an12 cd12 ct12), sl12⟩) (c12 : PySem.W.codeIn K cd12 "_law_draws" = true) (k12 : PySem.W.keepIn K (.ref f12) = true)
    (a13 : PySem.W.nsIn K mainGlobals "_law_mixed" = some (some (.ref f13))) (l13 : K.lookup f13 = some ⟨oc13, od13, .func (PySem.W.fnOf "_law_mixed" "_law_mixed" (defArgs s_law_mixed) (defBody s_law_mixed) (defScope s_law_mixed) .none kV13 dc13 pm13 an13 cd13 ct13), sl13⟩) (c13 : PySem.W.codeIn K cd13 "_law_mixed" = true) (k13 : PySem.W.keepIn K (.ref f13) = true)
    (a14 : PySem.W.nsIn K mainGlobals "_law_at" = some (some (.ref f14))) (l14 : K.lookup f14 = some ⟨oc14, od14, .func (PySem.W.fnOf "_law_at" "_law_at" (defArgs s_law_at) (defBody s_law_at) (defScope s_law_at) .none kV14 dc14 pm14 an14 cd14 ct14), sl14⟩) (c14 : PySem.W.codeIn K cd14 "_law_at" = true) (k14 : PySem.W.keepIn K (.ref f14) = true)
    (a15 : PySem.W.nsIn K mainGlobals "_law_name" = some (some (.ref f15))) (l15 : K.lookup f15 = some ⟨oc15, od15, .func (PySem.W.fnOf "_law_name" "_law_name" (defArgs s_law_name) (defBody s_law_name) (defScope s_law_name) .none kV15 dc15 pm15 an15 cd15 ct15), sl15⟩) (c15 : PySem.W.codeIn K cd15 "_law_name" = true) (k15 : PySem.W.keepIn K (.ref f15) = true)
    (a16 : PySem.W.nsIn K mainGlobals "_law_quantities" = some (some (.ref f16))) (l16 : K.lookup f16 = some ⟨oc16, od16, .func (PySem.W.fnOf "_law_quantities" "_law_quantities" (defArgs s_law_quantities) (defBody s_law_quantities) (defScope s_law_quantities) .none kV16 dc16 pm16 an16 cd16 ct16), sl16⟩) (c16 : PySem.W.codeIn K cd16 "_law_quantities" = true) (k16 : PySem.W.keepIn K (.ref f16) = true)
    (a17 : PySem.W.nsIn K mainGlobals "_law_places" = some (some (.ref f17))) (l17 : K.lookup f17 = some ⟨oc17, od17, .func (PySem.W.fnOf "_law_places" "_law_places" (defArgs s_law_places) (defBody s_law_places) (defScope s_law_places) .none kV17 dc17 pm17 an17 cd17 ct17), sl17⟩) (c17 : PySem.W.codeIn K cd17 "_law_places" = true) (k17 : PySem.W.keepIn K (.ref f17) = true)
    (a18 : PySem.W.nsIn K mainGlobals "_law_one" = some (some (.ref f18))) (l18 : K.lookup f18 = some ⟨oc18, od18, .func (PySem.W.fnOf "_law_one" "_law_one" (defArgs s_law_one) (defBody s_law_one) (defScope s_law_one) .none kV18 dc18 pm18 an18 cd18 ct18), sl18⟩) (c18 : PySem.W.codeIn K cd18 "_law_one" = true) (k18 : PySem.W.keepIn K (.ref f18) = true)
    (a19 : PySem.W.nsIn K mainGlobals "_law_long" = some (some (.ref f19))) (l19 : K.lookup f19 = some ⟨oc19, od19, .func (PySem.W.fnOf "_law_long" "_law_long" (defArgs s_law_long) (defBody s_law_long) (defScope s_law_long) .none kV19 dc19 pm19 an19 cd19 ct19), sl19⟩) (c19 : PySem.W.codeIn K cd19 "_law_long" = true) (k19 : PySem.W.keepIn K (.ref f19) = true)
    (a20 : PySem.W.nsIn K mainGlobals "_law_model" = some (some (.ref f20))) (l20 : K.lookup f20 = some ⟨oc20, od20, .func (PySem.W.fnOf "_law_model" "_law_model" (defArgs s_law_model) (defBody s_law_model) (defScope s_law_model) .none kV20 dc20 pm20 an20 cd20 ct20), sl20⟩) (c20 : PySem.W.codeIn K cd20 "_law_model" = true) (k20 : PySem.W.keepIn K (.ref f20) = true)
    (a21 : PySem.W.nsIn K mainGlobals "_law_is_name" = some (some (.ref f21))) (l21 : K.lookup f21 = some ⟨oc21, od21, .func (PySem.W.fnOf "_law_is_name" "_law_is_name" (defArgs s_law_is_name) (defBody s_law_is_name) (defScope s_law_is_name) .none kV21 dc21 pm21 an21 cd21 ct21), sl21⟩) (c21 : PySem.W.codeIn K cd21 "_law_is_name" = true) (k21 : PySem.W.keepIn K (.ref f21) = true)
    (a22 : PySem.W.nsIn K mainGlobals "_law_places_of" = some (some (.ref f22))) (l22 : K.lookup f22 = some ⟨oc22, od22, .func (PySem.W.fnOf "_law_places_of" "_law_places_of" (defArgs s_law_places_of) (defBody s_law_places_of) (defScope s_law_places_of) .none kV22 dc22 pm22 an22 cd22 ct22), sl22⟩) (c22 : PySem.W.codeIn K cd22 "_law_places_of" = true) (k22 : PySem.W.keepIn K (.ref f22) = true)
    (a23 : PySem.W.nsIn K mainGlobals "_law_fits" = some (some (.ref f23))) (l23 : K.lookup f23 = some ⟨oc23, od23, .func (PySem.W.fnOf "_law_fits" "_law_fits" (defArgs s_law_fits) (defBody s_law_fits) (defScope s_law_fits) .none kV23 dc23 pm23 an23 cd23 ct23), sl23⟩) (c23 : PySem.W.codeIn K cd23 "_law_fits" = true) (k23 : PySem.W.keepIn K (.ref f23) = true)
    (a24 : PySem.W.nsIn K mainGlobals "_law_due" = some (some (.ref f24))) (l24 : K.lookup f24 = some ⟨oc24, od24, .func (PySem.W.fnOf "_law_due" "_law_due" (defArgs s_law_due) (defBody s_law_due) (defScope s_law_due) .none kV24 dc24 pm24 an24 cd24 ct24), sl24⟩) (c24 : PySem.W.codeIn K cd24 "_law_due" = true) (k24 : PySem.W.keepIn K (.ref f24) = true)
    (a25 : PySem.W.nsIn K mainGlobals "_law_bad_name" = some (some (.ref f25))) (l25 : K.lookup f25 = some ⟨oc25, od25, .func (PySem.W.fnOf "_law_bad_name" "_law_bad_name" (defArgs s_law_bad_name) (defBody s_law_bad_name) (defScope s_law_bad_name) .none kV25 dc25 pm25 an25 cd25 ct25), sl25⟩) (c25 : PySem.W.codeIn K cd25 "_law_bad_name" = true) (k25 : PySem.W.keepIn K (.ref f25) = true)
    (a26 : PySem.W.nsIn K mainGlobals "_law_spoilt" = some (some (.ref f26))) (l26 : K.lookup f26 = some ⟨oc26, od26, .func (PySem.W.fnOf "_law_spoilt" "_law_spoilt" (defArgs s_law_spoilt) (defBody s_law_spoilt) (defScope s_law_spoilt) .none kV26 dc26 pm26 an26 cd26 ct26), sl26⟩) (c26 : PySem.W.codeIn K cd26 "_law_spoilt" = true) (k26 : PySem.W.keepIn K (.ref f26) = true)
    (a27 : PySem.W.nsIn K mainGlobals "law" = some (some (.ref f27))) (l27 : K.lookup f27 = some ⟨oc27, od27, .func (PySem.W.fnOf "law" "law" (defArgs s_law) (defBody s_law) (defScope s_law) .none kV27 dc27 pm27 an27 cd27 ct27), sl27⟩) (c27 : PySem.W.codeIn K cd27 "law" = true) (k27 : PySem.W.keepIn K (.ref f27) = true)
    (z_abs : PySem.W.nsIn K mainGlobals "abs" = some none)
    (z_all : PySem.W.nsIn K mainGlobals "all" = some none)
    (z_bool : PySem.W.nsIn K mainGlobals "bool" = some none)
    (z_int : PySem.W.nsIn K mainGlobals "int" = some none)
    (z_isinstance : PySem.W.nsIn K mainGlobals "isinstance" = some none)
    (z_len : PySem.W.nsIn K mainGlobals "len" = some none)
    (z_list : PySem.W.nsIn K mainGlobals "list" = some none)
    (z_max : PySem.W.nsIn K mainGlobals "max" = some none)
    (z_min : PySem.W.nsIn K mainGlobals "min" = some none)
    (z_range : PySem.W.nsIn K mainGlobals "range" = some none)
    (z_repr : PySem.W.nsIn K mainGlobals "repr" = some none)
    (z_str : PySem.W.nsIn K mainGlobals "str" = some none)
    (w_LETTERS : PySem.W.nsIn K mainGlobals "LETTERS" = some (some (.str "abcdefghijklmnopqrstuvwxyz" q_LETTERS)))
    (w_MOST_LAWS : PySem.W.nsIn K mainGlobals "MOST_LAWS" = some (some (.int 40 q_MOST_LAWS)))
    (w_MOST_NUMBER : PySem.W.nsIn K mainGlobals "MOST_NUMBER" = some (some (.int 1000000 q_MOST_NUMBER)))
    (w_MOST_ORDER : PySem.W.nsIn K mainGlobals "MOST_ORDER" = some (some (.int 3 q_MOST_ORDER)))
    (w_MOST_QUANTITIES : PySem.W.nsIn K mainGlobals "MOST_QUANTITIES" = some (some (.int 30 q_MOST_QUANTITIES)))
    (w_SIGNS : PySem.W.nsIn K mainGlobals "SIGNS" = some (some (.str "abcdefghijklmnopqrstuvwxyz0123456789" q_SIGNS)))
    (bare : ∀ nm ∈ (["is_in_range", "_is_word", "is_name", "_is_law", "is_model"] : List Str), LG.Bare mg h nm)
    : ∃ (fd : FuncData) (cs : List (Addr × Addr)) (sp : Sp), (∀ p ∈ cs, h.get? p.2 = some { cls := .none, data := .fields #[] }) ∧ (∀ p ∈ cs, K.lookup p.2 = none) ∧ (∀ p ∈ cs, PySem.W.CodeHd h p.1 p.2) ∧ (∀ (s : Shared) (u : Value), BindsTo s fd ⟨[u], []⟩ [("script", u)]) ∧
        (∀ (H : Hp) (a : Addr) (ns : List Int), ns.length ≤ 63 → (∀ p ∈ cs, H p.2 = some (.tbl #[])) → SqL K H a (ns.map V.int) → sp [.ref a] H (fun v _ => v = .bl true) fun _ _ _ => False) ∧
        ∀ base : Heap, K.In base → base.Ns mainGlobals mg → (∀ p ∈ cs, GxR.TabB base mg p.1 p.2) → LG.FnG l.prog w K mg base CX0 8 fa fd ["script"] sp := by
  have b6 : h.get? P6 = some { cls := .none, data := .fields #[] } ∧ PySem.W.CodeHd h C6 P6 := by
    obtain ⟨b, c, Q, o, fd, m1, m2, m3, m4, m5, m6⟩ := bare "is_in_range" (by simp)
    cases m1.symm.trans (PySem.W.mg_of X G a6)
    cases m2.symm.trans (X _ _ l6)
    cases m3
    cases m4
    have m5c := m5
    obtain ⟨o2, vs, _, _, _, _, _, _, _, e1, _, e3, e4, _⟩ := m5c
    cases e1.symm.trans (X _ _ t6)
    cases e3
    cases e4.symm.trans p6
    exact ⟨m6, m5⟩
  have b7 : h.get? P7 = some { cls := .none, data := .fields #[] } ∧ PySem.W.CodeHd h C7 P7 := by
    obtain ⟨b, c, Q, o, fd, m1, m2, m3, m4, m5, m6⟩ := bare "_is_word" (by simp)
    cases m1.symm.trans (PySem.W.mg_of X G a7)
    cases m2.symm.trans (X _ _ l7)
    cases m3
    cases m4
    have m5c := m5
    obtain ⟨o2, vs, _, _, _, _, _, _, _, e1, _, e3, e4, _⟩ := m5c
    cases e1.symm.trans (X _ _ t7)
    cases e3
    cases e4.symm.trans p7
    exact ⟨m6, m5⟩
  have b8 : h.get? P8 = some { cls := .none, data := .fields #[] } ∧ PySem.W.CodeHd h C8 P8 := by
    obtain ⟨b, c, Q, o, fd, m1, m2, m3, m4, m5, m6⟩ := bare "is_name" (by simp)
    cases m1.symm.trans (PySem.W.mg_of X G a8)
    cases m2.symm.trans (X _ _ l8)
    cases m3
    cases m4
    have m5c := m5
    obtain ⟨o2, vs, _, _, _, _, _, _, _, e1, _, e3, e4, _⟩ := m5c
    cases e1.symm.trans (X _ _ t8)
    cases e3
    cases e4.symm.trans p8
    exact ⟨m6, m5⟩
  have b9 : h.get? P9 = some { cls := .none, data := .fields #[] } ∧ PySem.W.CodeHd h C9 P9 := by
    obtain ⟨b, c, Q, o, fd, m1, m2, m3, m4, m5, m6⟩ := bare "_is_law" (by simp)
    cases m1.symm.trans (PySem.W.mg_of X G a9)
    cases m2.symm.trans (X _ _ l9)
    cases m3
    cases m4
    have m5c := m5
    obtain ⟨o2, vs, _, _, _, _, _, _, _, e1, _, e3, e4, _⟩ := m5c
    cases e1.symm.trans (X _ _ t9)
    cases e3
    cases e4.symm.trans p9
    exact ⟨m6, m5⟩
  have b10 : h.get? P10 = some { cls := .none, data := .fields #[] } ∧ PySem.W.CodeHd h C10 P10 := by
    obtain ⟨b, c, Q, o, fd, m1, m2, m3, m4, m5, m6⟩ := bare "is_model" (by simp)
    cases m1.symm.trans (PySem.W.mg_of X G a10)
    cases m2.symm.trans (X _ _ l10)
    cases m3
    cases m4
    have m5c := m5
    obtain ⟨o2, vs, _, _, _, _, _, _, _, e1, _, e3, e4, _⟩ := m5c
    cases e1.symm.trans (X _ _ t10)
    cases e3
    cases e4.symm.trans p10
    exact ⟨m6, m5⟩
  have e := hfa.symm.trans (PySem.W.mg_of X G a27)
  cases e
  let T : Txt K mg := {
    is_exact := ⟨_, _, fun_mk (st := s_is_exact) l0 c0 k0, (fun_mk (st := s_is_exact) l0 c0 k0).binds (ps := ["told"]) (fun _ _ _ _ _ _ us hl => match us, hl with | [_], _ => rfl), PySem.W.mg_of X G a0⟩
    terms_of := ⟨_, _, fun_mk (st := s_terms_of) l1 c1 k1, (fun_mk (st := s_terms_of) l1 c1 k1).binds (ps := ["told"]) (fun _ _ _ _ _ _ us hl => match us, hl with | [_], _ => rfl), PySem.W.mg_of X G a1⟩
    source_of := ⟨_, _, fun_mk (st := s_source_of) l2 c2 k2, (fun_mk (st := s_source_of) l2 c2 k2).binds (ps := ["told"]) (fun _ _ _ _ _ _ us hl => match us, hl with | [_], _ => rfl), PySem.W.mg_of X G a2⟩
    sizes_in := ⟨_, _, fun_mk (st := s_sizes_in) l3 c3 k3, (fun_mk (st := s_sizes_in) l3 c3 k3).binds (ps := ["told"]) (fun _ _ _ _ _ _ us hl => match us, hl with | [_], _ => rfl), PySem.W.mg_of X G a3⟩
    places_of := ⟨_, _, fun_mk (st := s_places_of) l4 c4 k4, (fun_mk (st := s_places_of) l4 c4 k4).binds (ps := ["told"]) (fun _ _ _ _ _ _ us hl => match us, hl with | [_], _ => rfl), PySem.W.mg_of X G a4⟩
    has_twice := ⟨_, _, fun_mk (st := s_has_twice) l5 c5 k5, (fun_mk (st := s_has_twice) l5 c5 k5).binds (ps := ["words"]) (fun _ _ _ _ _ _ us hl => match us, hl with | [_], _ => rfl), PySem.W.mg_of X G a5⟩
    is_in_range := ⟨_, C6, _, ⟨_, _, _, _, _, _, _, _, _, rfl, l6, c6⟩, k6, (fun_mk (st := s_is_in_range) l6 c6 k6).binds (ps := ["told"]) (fun _ _ _ _ _ _ us hl => match us, hl with | [_], _ => rfl), PySem.W.mg_of X G a6⟩
    is_word := ⟨_, C7, _, ⟨_, _, _, _, _, _, _, _, _, rfl, l7, c7⟩, k7, (fun_mk (st := s_is_word) l7 c7 k7).binds (ps := ["text"]) (fun _ _ _ _ _ _ us hl => match us, hl with | [_], _ => rfl), PySem.W.mg_of X G a7⟩
    is_name := ⟨_, C8, _, ⟨_, _, _, _, _, _, _, _, _, rfl, l8, c8⟩, k8, (fun_mk (st := s_is_name) l8 c8 k8).binds (ps := ["text"]) (fun _ _ _ _ _ _ us hl => match us, hl with | [_], _ => rfl), PySem.W.mg_of X G a8⟩
    is_law := ⟨_, C9, _, ⟨_, _, _, _, _, _, _, _, _, rfl, l9, c9⟩, k9, (fun_mk (st := s_is_law) l9 c9 k9).binds (ps := ["told", "many"]) (fun _ _ _ _ _ _ us hl => match us, hl with | [_, _], _ => rfl), PySem.W.mg_of X G a9⟩
    is_model := ⟨_, C10, _, ⟨_, _, _, _, _, _, _, _, _, rfl, l10, c10⟩, k10, (fun_mk (st := s_is_model) l10 c10 k10).binds (ps := ["model"]) (fun _ _ _ _ _ _ us hl => match us, hl with | [_], _ => rfl), PySem.W.mg_of X G a10⟩
    sizes_of := ⟨_, _, fun_mk (st := s_sizes_of) l11 c11 k11, (fun_mk (st := s_sizes_of) l11 c11 k11).binds (ps := ["model"]) (fun _ _ _ _ _ _ us hl => match us, hl with | [_], _ => rfl), PySem.W.mg_of X G a11⟩
    law_draws := ⟨_, _, fun_mk (st := s_law_draws) l12 c12 k12, (fun_mk (st := s_law_draws) l12 c12 k12).binds (ps := ["script"]) (fun _ _ _ _ _ _ us hl => match us, hl with | [_], _ => rfl), PySem.W.mg_of X G a12⟩
    law_mixed := ⟨_, _, fun_mk (st := s_law_mixed) l13 c13 k13, (fun_mk (st := s_law_mixed) l13 c13 k13).binds (ps := ["draws", "many"]) (fun _ _ _ _ _ _ us hl => match us, hl with | [_, _], _ => rfl), PySem.W.mg_of X G a13⟩
    law_at := ⟨_, _, fun_mk (st := s_law_at) l14 c14 k14, (fun_mk (st := s_law_at) l14 c14 k14).binds (ps := ["draws", "k", "many"]) (fun _ _ _ _ _ _ us hl => match us, hl with | [_, _, _], _ => rfl), PySem.W.mg_of X G a14⟩
    law_name := ⟨_, _, fun_mk (st := s_law_name) l15 c15 k15, (fun_mk (st := s_law_name) l15 c15 k15).binds (ps := ["draws", "k"]) (fun _ _ _ _ _ _ us hl => match us, hl with | [_, _], _ => rfl), PySem.W.mg_of X G a15⟩
    law_quantities := ⟨_, _, fun_mk (st := s_law_quantities) l16 c16 k16, (fun_mk (st := s_law_quantities) l16 c16 k16).binds (ps := ["draws", "k", "many"]) (fun _ _ _ _ _ _ us hl => match us, hl with | [_, _, _], _ => rfl), PySem.W.mg_of X G a16⟩
    law_places := ⟨_, _, fun_mk (st := s_law_places) l17 c17 k17, (fun_mk (st := s_law_places) l17 c17 k17).binds (ps := ["draws", "k", "many", "size"]) (fun _ _ _ _ _ _ us hl => match us, hl with | [_, _, _, _], _ => rfl), PySem.W.mg_of X G a17⟩
    law_one := ⟨_, _, fun_mk (st := s_law_one) l18 c18 k18, (fun_mk (st := s_law_one) l18 c18 k18).binds (ps := ["draws", "k", "many", "number"]) (fun _ _ _ _ _ _ us hl => match us, hl with | [_, _, _, _], _ => rfl), PySem.W.mg_of X G a18⟩
    law_long := ⟨_, _, fun_mk (st := s_law_long) l19 c19 k19, (fun_mk (st := s_law_long) l19 c19 k19).binds (ps := ["draws", "first", "many"]) (fun _ _ _ _ _ _ us hl => match us, hl with | [_, _, _], _ => rfl), PySem.W.mg_of X G a19⟩
    law_model := ⟨_, _, fun_mk (st := s_law_model) l20 c20 k20, (fun_mk (st := s_law_model) l20 c20 k20).binds (ps := ["draws", "first"]) (fun _ _ _ _ _ _ us hl => match us, hl with | [_, _], _ => rfl), PySem.W.mg_of X G a20⟩
    law_is_name := ⟨_, _, fun_mk (st := s_law_is_name) l21 c21 k21, (fun_mk (st := s_law_is_name) l21 c21 k21).binds (ps := ["text"]) (fun _ _ _ _ _ _ us hl => match us, hl with | [_], _ => rfl), PySem.W.mg_of X G a21⟩
    law_places_of := ⟨_, _, fun_mk (st := s_law_places_of) l22 c22 k22, (fun_mk (st := s_law_places_of) l22 c22 k22).binds (ps := ["law"]) (fun _ _ _ _ _ _ us hl => match us, hl with | [_], _ => rfl), PySem.W.mg_of X G a22⟩
    law_fits := ⟨_, _, fun_mk (st := s_law_fits) l23 c23 k23, (fun_mk (st := s_law_fits) l23 c23 k23).binds (ps := ["law", "many"]) (fun _ _ _ _ _ _ us hl => match us, hl with | [_, _], _ => rfl), PySem.W.mg_of X G a23⟩
    law_due := ⟨_, _, fun_mk (st := s_law_due) l24 c24 k24, (fun_mk (st := s_law_due) l24 c24 k24).binds (ps := ["model"]) (fun _ _ _ _ _ _ us hl => match us, hl with | [_], _ => rfl), PySem.W.mg_of X G a24⟩
    law_bad_name := ⟨_, _, fun_mk (st := s_law_bad_name) l25 c25 k25, (fun_mk (st := s_law_bad_name) l25 c25 k25).binds (ps := ["cell", "good"]) (fun _ _ _ _ _ _ us hl => match us, hl with | [_, _], _ => rfl), PySem.W.mg_of X G a25⟩
    law_spoilt := ⟨_, _, fun_mk (st := s_law_spoilt) l26 c26 k26, (fun_mk (st := s_law_spoilt) l26 c26 k26).binds (ps := ["draws", "k", "model"]) (fun _ _ _ _ _ _ us hl => match us, hl with | [_, _, _], _ => rfl), PySem.W.mg_of X G a26⟩
    law := ⟨_, _, fun_mk (st := s_law) l27 c27 k27, (fun_mk (st := s_law) l27 c27 k27).binds (ps := ["script"]) (fun _ _ _ _ _ _ us hl => match us, hl with | [_], _ => rfl), PySem.W.mg_of X G a27⟩
    m_abs := PySem.W.mg_none_of X G z_abs
    m_all := PySem.W.mg_none_of X G z_all
    m_bool := PySem.W.mg_none_of X G z_bool
    m_int := PySem.W.mg_none_of X G z_int
    m_isinstance := PySem.W.mg_none_of X G z_isinstance
    m_len := PySem.W.mg_none_of X G z_len
    m_list := PySem.W.mg_none_of X G z_list
    m_max := PySem.W.mg_none_of X G z_max
    m_min := PySem.W.mg_none_of X G z_min
    m_range := PySem.W.mg_none_of X G z_range
    m_repr := PySem.W.mg_none_of X G z_repr
    m_str := PySem.W.mg_none_of X G z_str
    k_LETTERS := q_LETTERS
    c_LETTERS := PySem.W.mg_of X G w_LETTERS
    k_MOST_LAWS := q_MOST_LAWS
    c_MOST_LAWS := PySem.W.mg_of X G w_MOST_LAWS
    k_MOST_NUMBER := q_MOST_NUMBER
    c_MOST_NUMBER := PySem.W.mg_of X G w_MOST_NUMBER
    k_MOST_ORDER := q_MOST_ORDER
    c_MOST_ORDER := PySem.W.mg_of X G w_MOST_ORDER
    k_MOST_QUANTITIES := q_MOST_QUANTITIES
    c_MOST_QUANTITIES := PySem.W.mg_of X G w_MOST_QUANTITIES
    k_SIGNS := q_SIGNS
    c_SIGNS := PySem.W.mg_of X G w_SIGNS
  }
  refine ⟨PySem.W.fnOf "law" "law" (defArgs s_law) (defBody s_law) (defScope s_law) .none kV27 dc27 pm27 an27 cd27 ct27, [(C6, P6), (C7, P7), (C8, P8), (C9, P9), (C10, P10)], sp_law K P6 P7 P8 P9 P10, ?_, ?_, ?_, fun s v => .of_eq rfl, fun H a ns hl ht hS => ?_, fun base _ _ tb => ok_law T (tb (C6, P6) (by simp)) (tb (C7, P7) (by simp)) (tb (C8, P8) (by simp)) (tb (C9, P9) (by simp)) (tb (C10, P10) (by simp))⟩
  · intro p hp; simp only [List.mem_cons, List.not_mem_nil, or_false] at hp; rcases hp with rfl | rfl | rfl | rfl | rfl
    · exact b6.1
    · exact b7.1
    · exact b8.1
    · exact b9.1
    · exact b10.1
  · intro p hp; simp only [List.mem_cons, List.not_mem_nil, or_false] at hp; rcases hp with rfl | rfl | rfl | rfl | rfl
    · exact n6
    · exact n7
    · exact n8
    · exact n9
    · exact n10
  · intro p hp; simp only [List.mem_cons, List.not_mem_nil, or_false] at hp; rcases hp with rfl | rfl | rfl | rfl | rfl
    · exact b6.2
    · exact b7.2
    · exact b8.2
    · exact b9.2
    · exact b10.2
  · exact ⟨a, ns, rfl, hS, hl, ⟨#[], ht (C6, P6) (by simp), trivial⟩, ⟨#[], ht (C7, P7) (by simp), trivial⟩, ⟨#[], ht (C8, P8) (by simp), trivial⟩, ⟨#[], ht (C9, P9) (by simp), trivial⟩, ⟨#[], ht (C10, P10) (by simp), trivial⟩, fun _ => rfl⟩
end
end K05

open PySem PySem.W PyProof.Rows in
set_option maxRecDepth 100000 in
set_option maxHeartbeats 0 in
theorem PySem.Challenge.cw_unsaidsizes_k05_what_is_a_model_holds : PySem.Challenge.rw_unsaidsizes_k05_what_is_a_model.Holds := by
  w_on; o_law; k_head; (case hw => w_witness2)
  k_fill
  refine LG.walkGT (l := PySem.Challenge.rw_unsaidsizes_k05_what_is_a_model) (n := 63) (k := 8) (x := "script") ["is_in_range", "_is_word", "is_name", "_is_law", "is_model"] rfl (by decide) rfl ⟨rfl, by decide, by decide⟩ (by kernel_rfl) (fun w h Y => PySem.W.kIn_of Y) ?F
  case F =>
    intro w mg fa h KX G hmg bare
    refine' K05.all_mk KX G hmg ?a0 ?l0 ?c0 ?k0 ?a1 ?l1 ?c1 ?k1 ?a2 ?l2 ?c2 ?k2 ?a3 ?l3 ?c3 ?k3 ?a4 ?l4 ?c4 ?k4 ?a5 ?l5 ?c5 ?k5 ?a6 ?l6 ?c6 ?k6 ?t6 ?p6 ?n6 ?a7 ?l7 ?c7 ?k7 ?t7 ?p7 ?n7 ?a8 ?l8 ?c8 ?k8 ?t8 ?p8 ?n8 ?a9 ?l9 ?c9 ?k9 ?t9 ?p9 ?n9 ?a10 ?l10 ?c10 ?k10 ?t10 ?p10 ?n10 ?a11 ?l11 ?c11 ?k11 ?a12 ?l12 ?c12 ?k12 ?a13 ?l13 ?c13 ?k13 ?a14 ?l14 ?c14 ?k14 ?a15 ?l15 ?c15 ?k15 ?a16 ?l16 ?c16 ?k16 ?a17 ?l17 ?c17 ?k17 ?a18 ?l18 ?c18 ?k18 ?a19 ?l19 ?c19 ?k19 ?a20 ?l20 ?c20 ?k20 ?a21 ?l21 ?c21 ?k21 ?a22 ?l22 ?c22 ?k22 ?a23 ?l23 ?c23 ?k23 ?a24 ?l24 ?c24 ?k24 ?a25 ?l25 ?c25 ?k25 ?a26 ?l26 ?c26 ?k26 ?a27 ?l27 ?c27 ?k27 ?z_abs ?z_all ?z_bool ?z_int ?z_isinstance ?z_len ?z_list ?z_max ?z_min ?z_range ?z_repr ?z_str ?w_LETTERS ?w_MOST_LAWS ?w_MOST_NUMBER ?w_MOST_ORDER ?w_MOST_QUANTITIES ?w_SIGNS bare
    (case a0 => k_is)
    (case l0 => k_is)
    (case c0 => k_is)
    (case k0 => k_is)
    (case a1 => k_is)
    (case l1 => k_is)
    (case c1 => k_is)
    (case k1 => k_is)
    (case a2 => k_is)
    (case l2 => k_is)
    (case c2 => k_is)
    (case k2 => k_is)
    (case a3 => k_is)
    (case l3 => k_is)
    (case c3 => k_is)
    (case k3 => k_is)
    (case a4 => k_is)
    (case l4 => k_is)
    (case c4 => k_is)
    (case k4 => k_is)
    (case a5 => k_is)
    (case l5 => k_is)
    (case c5 => k_is)
    (case k5 => k_is)
    (case a6 => k_is)
    (case l6 => k_is)
    (case c6 => k_is)
    (case k6 => k_is)
    (case t6 => k_is)
    (case p6 => rfl)
    (case n6 => first | kernel_rfl | rfl)
    (case a7 => k_is)
    (case l7 => k_is)
    (case c7 => k_is)
    (case k7 => k_is)
    (case t7 => k_is)
    (case p7 => rfl)
    (case n7 => first | kernel_rfl | rfl)
    (case a8 => k_is)
    (case l8 => k_is)
    (case c8 => k_is)
    (case k8 => k_is)
    (case t8 => k_is)
    (case p8 => rfl)
    (case n8 => first | kernel_rfl | rfl)
    (case a9 => k_is)
    (case l9 => k_is)
    (case c9 => k_is)
    (case k9 => k_is)
    (case t9 => k_is)
    (case p9 => rfl)
    (case n9 => first | kernel_rfl | rfl)
    (case a10 => k_is)
    (case l10 => k_is)
    (case c10 => k_is)
    (case k10 => k_is)
    (case t10 => k_is)
    (case p10 => rfl)
    (case n10 => first | kernel_rfl | rfl)
    (case a11 => k_is)
    (case l11 => k_is)
    (case c11 => k_is)
    (case k11 => k_is)
    (case a12 => k_is)
    (case l12 => k_is)
    (case c12 => k_is)
    (case k12 => k_is)
    (case a13 => k_is)
    (case l13 => k_is)
    (case c13 => k_is)
    (case k13 => k_is)
    (case a14 => k_is)
    (case l14 => k_is)
    (case c14 => k_is)
    (case k14 => k_is)
    (case a15 => k_is)
    (case l15 => k_is)
    (case c15 => k_is)
    (case k15 => k_is)
    (case a16 => k_is)
    (case l16 => k_is)
    (case c16 => k_is)
    (case k16 => k_is)
    (case a17 => k_is)
    (case l17 => k_is)
    (case c17 => k_is)
    (case k17 => k_is)
    (case a18 => k_is)
    (case l18 => k_is)
    (case c18 => k_is)
    (case k18 => k_is)
    (case a19 => k_is)
    (case l19 => k_is)
    (case c19 => k_is)
    (case k19 => k_is)
    (case a20 => k_is)
    (case l20 => k_is)
    (case c20 => k_is)
    (case k20 => k_is)
    (case a21 => k_is)
    (case l21 => k_is)
    (case c21 => k_is)
    (case k21 => k_is)
    (case a22 => k_is)
    (case l22 => k_is)
    (case c22 => k_is)
    (case k22 => k_is)
    (case a23 => k_is)
    (case l23 => k_is)
    (case c23 => k_is)
    (case k23 => k_is)
    (case a24 => k_is)
    (case l24 => k_is)
    (case c24 => k_is)
    (case k24 => k_is)
    (case a25 => k_is)
    (case l25 => k_is)
    (case c25 => k_is)
    (case k25 => k_is)
    (case a26 => k_is)
    (case l26 => k_is)
    (case c26 => k_is)
    (case k26 => k_is)
    (case a27 => k_is)
    (case l27 => k_is)
    (case c27 => k_is)
    (case k27 => k_is)
    (case z_abs => k_is)
    (case z_all => k_is)
    (case z_bool => k_is)
    (case z_int => k_is)
    (case z_isinstance => k_is)
    (case z_len => k_is)
    (case z_list => k_is)
    (case z_max => k_is)
    (case z_min => k_is)
    (case z_range => k_is)
    (case z_repr => k_is)
    (case z_str => k_is)
    (case w_LETTERS => k_is)
    (case w_MOST_LAWS => k_is)
    (case w_MOST_NUMBER => k_is)
    (case w_MOST_ORDER => k_is)
    (case w_MOST_QUANTITIES => k_is)
    (case w_SIGNS => k_is)
