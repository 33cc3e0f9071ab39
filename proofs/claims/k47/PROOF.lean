import PyProof.Rows.All
import Wide.All
import OpenK.AllK
import Wide.FinOn
import KE.KNest
import PyProof.ReprRoads
import PyProof.StrLawsRepr
import PyProof.FitsInt
import PyProof.StrBlock2
import HandS.Base
import HandS.Call
import HandS.List
import HandS.Comp
import HandS.Nested
import HandS.AnyAll
import HandS.Ends
import HandS.EndBits
import HandS.Iter
import HandS.Wide
import HandS.WideBits
import HandS.Words
import HandS.WordsList
import HandS.IsInst
import HandS.TupLe
import HandS.SetBool
import HandS.Deep
import HandS.Walk
import HandS.Set
import HandS.Strs
import PyProof.ListOps
import PyProof.Rows.SetFrom
import PyProof.SumAny
import KE.KTypeName
import KE.KExcIs
import HandS.Gcd
import HandS.WordsExc
import HandS.Exc
import HandS.ExcOwn
import HandS.ExcInit
import HandS.ExcField
import HandS.FStr
import PySem.Challenge.RW_unsaidsizes_k47_grids_changed
set_option Elab.async false
set_option linter.all false
set_option maxRecDepth 100000
set_option maxHeartbeats 4000000
-- G
/-! calls under which no text of a list is being made (for repr of lists) -/
namespace LG
open PySem PySem.Spec PyProof.Rows L2
/-- as FnOk, for callers of which it is known that no guard stands -/
structure FnG (P : Program) (w : World) (K : PySem.W.Frag) (mg : Str → Option Value) (base : Heap) (CX : CXT) (k : Nat) (f : Addr) (fd : FuncData) (ps : List Str) (sp : Sp) : Prop where
  len : ∀ vs H Q E, sp vs H Q E → vs.length = ps.length
  run : ∀ (A : Around) (ou : List Env) (s : Shared) (H : Hp) (ar : Args) (us : List Value) (vs : List V) (Q : VK) (E : XK), Room k A → A.guards = some [] → Env0 P w K mg base A ou s H →
    BindsTo s fd ar (ps.zip us) → Vals vs us → sp vs H Q E → codeAny (model P w) A (.call (.ref f) ar) (CR CX ou P w H s Q E) s
section
variable {P : Program} {w : World} {K : PySem.W.Frag} {mg : Str → Option Value} {base : Heap} {CX : CXT} {k : Nat} {f : Addr} {fd : FuncData} {ps : List Str} {sp : Sp}
theorem deeper_guards {A : Around} (e : Env) (h : A.guards = some []) : (A.deeper e).guards = some [] := h
theorem g_of_ok (F : FnOk P w K mg base CX k f fd ps sp) : FnG P w K mg base CX k f fd ps sp := ⟨F.len, fun A ou s H ar us vs Q E hr _ => F.run A ou s H ar us vs Q E hr⟩

/-- a def's body keeps its promise, under known guards -/
theorem fnG_of {nm qu : Str} {pa : Arguments} {bo : List Stmt} {sc : Scope} {dv kv dc pm cd ct oc : Value} {an od : Option Addr} {sl : Array (Option Value)} {N : List Str}
    (hf : K.lookup f = some ⟨oc, od, .func (PySem.W.fnOf nm qu pa bo sc dv kv dc pm an cd ct), sl⟩) (hq : PySem.W.codeIn K cd qu = true) (S : FnScope N ps sc) (ln : ∀ vs H Q E, sp vs H Q E → vs.length = ps.length)
    (hb : ∀ (A : Around) (ou : List Env) (s : Shared) (H : Hp) (vs : List V) (Q : VK) (E : XK), Room k (A.deeper (envOfC qu sc s.heap.objs.size f cd)) → A.guards = some [] → sp vs H Q E →
      ∃ t, PSs (cxOf CX P w K mg base N qu sc f cd A ou s H E) bo t ∧ t { nx := fun _ G => Q .non G, rt := Q } (L2.start N vs) H) :
    FnG P w K mg base CX (k + 1) f (PySem.W.fnOf nm qu pa bo sc dv kv dc pm an cd ct) ps sp := by
  refine ⟨ln, fun A ou s H ar us vs Q E room gd en bd rel want => ?_⟩
  have there : K.In s.heap := en.mod.kin.keeps fun b o z => (en.bs b o z).1
  have nl : s.heap.NoLimit := en.mod.nolimit.keeps fun b o z => (en.bs b o z).1
  refine codeAny_call_function room.depth (there _ _ hf) rfl S.co S.gen rfl (PySem.W.codeRec_of there hq) (bd _ _ _ _ ?_)
  refine wpAny_newFunctionEnv_cells S.kind (fun y hy => ?_) fun env eenv s1 x => ?_
  · obtain ⟨n, v⟩ := y
    exact (S.par n (List.of_mem_zip hy).1).imp id fun q => ⟨q, PySem.W.cellsFrom_some _ _ _ (.inl q)⟩
  subst eenv
  refine ⟨nl.keeps x.toInCall.keep, codeAny_func ?_⟩
  obtain ⟨t, ht, hw⟩ := hb A ou s H vs Q E (room.deeper _) gd want
  have J0 := inv_start (CX := CX) (E := E) S room.hd en (ln _ _ _ _ want) rel x
  refine wpAny_mono (ht.run [] s1 (L2.start N vs) H _ J0 hw) (fun fl s' hs => ?_) fun e s' hs => hs
  cases fl with
  | brk => exact False.elim hs.choose_spec.choose_spec.2
  | cont => exact False.elim hs.choose_spec.choose_spec.2
  | ret u =>
    obtain ⟨v, _, G, J, rv, q⟩ := hs
    exact ⟨v, G, J.os, J.bare, J.base, J.hok, rv, q⟩
  | next =>
    obtain ⟨_, G, J, q⟩ := hs
    exact ⟨V.non, G, J.os, J.bare, J.base, J.hok, rfl, q⟩
/-- .. by the text -/
theorem fun_okG {x qual : Str} {st : Stmt} {N : List Str} (F : Fun K x qual st f fd) (S : FnScope N ps (defScope st)) (ln : ∀ vs H Q E, sp vs H Q E → vs.length = ps.length)
    (hb : ∀ (cd : Value) (A : Around) (ou : List Env) (s : Shared) (H : Hp) (vs : List V) (Q : VK) (E : XK), Room k (A.deeper (envOfC qual (defScope st) s.heap.objs.size f cd)) → A.guards = some [] → sp vs H Q E →
      ∃ t, PSs (cxOf CX0 P w K mg base N qual (defScope st) f cd A ou s H E).nox (defBody st) t ∧ t { nx := fun _ G => Q .non G, rt := Q } (L2.start N vs) H) : FnG P w K mg base CX0 (k + 1) f fd ps sp := by
  obtain ⟨oc, od, kV, doc, pm, an, cd, ct, osl, rfl, lk, hc⟩ := F.ex
  refine fnG_of lk hc S ln fun A ou s H vs Q E hr hg want => ?_
  obtain ⟨t, h, q⟩ := hb cd A ou s H vs Q E hr hg want
  exact ⟨t, h.nox, q⟩
end
section
variable {X : Cx} {CX : CXT} {k : Nat} {f : Addr} {fd : FuncData} {ps : List Str} {sp : Sp} {dvs : List V} {ds : List Value} {E : XK} {x : Str} {p pos : Pos} {e : Expr} {es : List Expr} {t : TA}
theorem pe_callG (F : FnG X.prog X.w X.K X.mg X.base CX k f fd ps sp) (hr : Room k X.A) (gd : X.A.guards = some []) (hg : Gl X x) (hm : X.mg x = some (.ref f)) (hk : PySem.W.keepIn X.K (.ref f) = true) (hb : Binds X.K fd ps ds) (hd : Vals dvs ds) (hx : Passes CX X E)
    (ha : PA X (e :: es) t) (hdb : (x == ("__debug__" : Str)) = false := by decide) (he : starEach (e :: es) X.env = (false, eval e X.env) :: starEach es X.env := by rfl) (hpl : (backTo pos (starEach es X.env)).any (·.1) = false := by rfl) :
    PE X (.Call (.Name x p) (e :: es) [] pos) (tCall sp dvs E t) := by
  refine ⟨fun pins s σ H Q I h => wpAny_Call_Name_kw (ld_glob I hg hm ?_ hdb)⟩
  refine PySem.W.callWith_K (h₀ := X.base) I.ok.mod.kin hk (thn (ha.run pos pins s σ H _ I h) fun us s1 ⟨vs, H1, J, r, q⟩ => ⟨J.kIn, ?_⟩) he hpl
  have r2 : Vals (vs ++ dvs) (us ++ ds) := r.append hd
  have ll : (us ++ ds).length = ps.length := by
    rw [← r2.length]
    exact F.len _ _ _ _ q
  refine wpAny_call (codeAny_mono (F.run X.A X.stack s1 H1 ⟨us, []⟩ (us ++ ds) (vs ++ dvs) Q E hr gd J.env0 (hb s1 us J.kIn ll) r2 q) fun r s' z => ?_)
  cases r with
  | error er => exact hx pins σ H1 s1 er s' J z
  | ok fl =>
    cases fl with
    | ret u => exact J.after z
    | next => exact False.elim z
    | brk => exact False.elim z
    | cont => exact False.elim z
/-- repr of nested data -/
theorem call_reprD (gd : X.A.guards = some []) (hu : X.A.units + 64 < cLine) : CallR X (.builtin "repr") (fun xs H Q => ∃ (a : Addr) (d : PyData), xs = [.ref a] ∧ Dp X.K H (.ref a) d ∧ d.showable = true ∧ d.hasDict = false ∧ d.depth ≤ 60 ∧ d.shown.length ≤ sizeLine ∧ Q (.str d.shown) H) := by
  intro pins s σ H xs us Q I r h
  obtain ⟨a, d, rfl, hd, h1, h2, h3, h4, q⟩ := h
  obtain ⟨u, rfl, e⟩ := vals1 r
  cases (show u = Value.ref a from e)
  obtain ⟨as, rd⟩ := Dp.reads I d (.ref a) (.ref a) hd rfl
  refine PySem.repr_of_reads' rd h1 (fun z => by rw [h2] at z; cases z) gd (by omega) (fun _ _ z => z) (fun h' u tk k => ?_) h4
  exact ⟨.str _, H, I.kept (t' := tk) k, ⟨u, rfl⟩, q⟩
end

/-! the law's own call -/
section
variable {P : Program} {w : World} {K : PySem.W.Frag} {mg mb : Str → Option Value} {k : Nat} {fa a : Addr} {fd : FuncData} {x : Str} {sp : Sp} {s₁ : Shared} {vs : List Value} {ns : List Int}
/-- from one abstract heap, in which the script alone may stand -/
theorem enter (KX : K.In s₁.heap) (gl : s₁.heap.Ns mainGlobals mg) (bl : s₁.heap.Ns builtinsNs mb) (bb : ∀ y : Str, y ≠ "__name__" → mb y = bootBuiltins y) (nl : s₁.heap.NoLimit) (g0 : s₁.gens = #[])
    (at_ : s₁.heap.get? a = some { cls := .type "list", data := .seq vs.toArray }) (room : Room k callerA) (bind : ∀ (s : Shared) (u : Value), BindsTo s fd ⟨[u], []⟩ [(x, u)])
    (F : ∀ base : Heap, K.In base → base.Ns mainGlobals mg → FnG P w K mg base CX0 k fa fd [x] sp) {H : Hp} (only : Only H) (ok : HOk P w H s₁.heap) (alone : ∀ b, H b ≠ none → b = a) (notK : H a ≠ none → K.lookup a = none)
    (want : sp [.ref a] H (fun v _ => v = .bl true) fun _ _ _ => False) :
    codeAny (model P w) callerA (.call (.ref fa) ⟨[.ref a], []⟩) (fun r s' => r = .ok (.ret (.bool true)) ∧ OldK s₁.heap s'.heap ∧ s'.os = s₁.os ∧ AllBare s'.gens) s₁ := by
  have free : ∀ {b : Addr} {o : Obj}, s₁.heap.get? b = some o → (∀ it n, o.data ≠ .seq it n) → H b = none := fun {b o} z nd => by
    cases q : H b with
    | none => rfl
    | some u =>
      obtain rfl := alone b (by rw [q]; exact fun y => nomatch y)
      rw [at_] at z
      cases z
      exact absurd rfl (nd vs.toArray _)
  have nsOf : ∀ {b : Addr} {m : Str → Option Value}, s₁.heap.Ns b m → (hidT s₁.heap H).Ns b m := fun {b m} ⟨o, es, ep, z, d, r⟩ =>
    ⟨o, es, ep, hidT_get z (free z fun it n y => by rw [d] at y; exact nomatch y), d, r⟩
  have inB : K.In (hidT s₁.heap H) := fun b o z => by
    refine hidT_get (KX b o z) ?_
    cases q : H b with
    | none => rfl
    | some u =>
      obtain rfl := alone b (by rw [q]; exact fun y => nomatch y)
      rw [notK (by rw [q]; exact fun y => nomatch y)] at z
      cases z
  have md : Mod K mg (hidT s₁.heap H) := ⟨inB, nsOf gl, ⟨mb, nsOf bl, bb⟩, let ⟨mc, y1, y2⟩ := nl; ⟨mc, nsOf y1, y2⟩⟩
  have en : Env0 P w K mg (hidT s₁.heap H) callerA [] s₁ H := ⟨rfl, md, fun b o z => of_hidT z, Nat.le_of_eq (hidT_size _ _), trivial, fun b z => absurd (show b ∈ ([] : List Addr) from z) (List.not_mem_nil), ok, .of_eq g0⟩
  refine codeAny_mono ((F _ inB (nsOf gl)).run callerA [] s₁ H ⟨[.ref a], []⟩ [.ref a] [.ref a] _ _ room rfl en (bind s₁ (.ref a)) (.cons rfl .nil) want) fun r s' h => ?_
  cases r with
  | error e => exact False.elim h
  | ok fl =>
    cases fl with
    | next => exact False.elim h
    | brk => exact False.elim h
    | cont => exact False.elim h
    | ret u =>
      obtain ⟨v, G, e1, e2, un, okG, rel, q⟩ := h
      obtain rfl : v = V.bl true := q
      obtain rfl : u = Value.bool true := rel
      refine ⟨rfl, OldK.of_keep fun b o z => ?_, e1, e2⟩
      cases q : H b with
      | none => exact un.keep b o z q (fun y => nomatch y) (fun y => nomatch y)
      | some u =>
        rcases only b with y | ⟨ob, xs, y⟩
        · rw [q] at y
          cases y
        · have z1 := (ok b _ y).1
          have z2 := (okG b _ (un.frzs b ob _ y)).1
          rw [z] at z1
          cases z1
          exact z2

theorem enter_all (KX : K.In s₁.heap) (gl : s₁.heap.Ns mainGlobals mg) (bl : s₁.heap.Ns builtinsNs mb) (bb : ∀ y : Str, y ≠ "__name__" → mb y = bootBuiltins y) (nl : s₁.heap.NoLimit) (g0 : s₁.gens = #[])
    (at_ : s₁.heap.get? a = some { cls := .type "list", data := .seq vs.toArray }) (ia : IntsAre vs ns) (small : ns.length ≤ sizeLine) (room : Room k callerA) (bind : ∀ (s : Shared) (u : Value), BindsTo s fd ⟨[u], []⟩ [(x, u)])
    (F : ∀ base : Heap, K.In base → base.Ns mainGlobals mg → FnG P w K mg base CX0 k fa fd [x] sp) (want : ∀ H : Hp, Only H → SqL K H a (ns.map V.int) → sp [.ref a] H (fun v _ => v = .bl true) fun _ _ _ => False) :
    codeAny (model P w) callerA (.call (.ref fa) ⟨[.ref a], []⟩) (fun r s' => r = .ok (.ret (.bool true)) ∧ OldK s₁.heap s'.heap ∧ s'.os = s₁.os ∧ AllBare s'.gens) s₁ := by
  have rel := vals_ints ia
  cases hk : K.lookup a with
  | some o =>
    have z := KX a o hk
    rw [at_] at z
    cases z
    have only : Only (fun _ => none) := fun _ => .inl rfl
    have len := ia.length
    exact enter KX gl bl bb nl g0 at_ room bind F only (fun b u z => by cases z) (fun b z => absurd rfl z) (fun z => absurd rfl z)
      (want _ only (.inr ⟨_, vs.toArray, _, hk, rfl, rfl, rfl, by rw [List.size_toArray, len]; exact small, by simpa using rel⟩))
  | none =>
    let ob : Obj := { cls := .type "list", data := .seq vs.toArray }
    let H : Hp := fun b => if b = a then some (.frz ob (.lst (ns.map V.int))) else none
    have hit : H a = some (.frz ob (.lst (ns.map V.int))) := if_pos rfl
    have one : ∀ b, H b ≠ none → b = a := fun b z => by
      by_cases e : b = a
      · exact e
      · exact absurd (if_neg e) z
    have only : Only H := fun b => by
      by_cases e : b = a
      · exact .inr ⟨ob, ns.map V.int, if_pos e⟩
      · exact .inl (if_neg e)
    refine enter KX gl bl bb nl g0 at_ room bind F only (fun b u z => ?_) one (fun _ => hk) (want H only (.inl (.inr ⟨ob, hit⟩)))
    obtain rfl := one b (by rw [z]; exact fun y => nomatch y)
    rw [hit] at z
    cases z
    exact ⟨at_, by rw [List.length_map]; exact small, vs, _, rel, at_⟩
end
/-- what k_head leaves, from the law's promise -/
theorem walkG {l : PySem.W.OpenLaw} {n k : Nat} {q : Program} {loose : List Str} {XP : (Str → Option Value) → Heap → Prop} {YP : World → Heap → Prop} {d : DefRec} {K : Params → PySem.W.Frag} {sp : PySem.W.Frag → Sp} {x : Str}
    (hn : l.most = some n) (hz : n ≤ sizeLine) (hdf : d.params.defaults = []) (room : Room k callerA) (hY : ∀ (w : World) (h : Heap), YP w h → (K w.params).In h)
    (F : ∀ (w : World) (mg : Str → Option Value) (fa : Addr) (h : Heap), (K w.params).In h → h.Ns mainGlobals mg → mg d.name = some (.ref fa) →
      ∃ fd : FuncData, (∀ (s : Shared) (u : Value), BindsTo s fd ⟨[u], []⟩ [(x, u)]) ∧ ∀ base : Heap, (K w.params).In base → base.Ns mainGlobals mg → FnG l.prog w (K w.params) mg base CX0 k fa fd [x] (sp (K w.params)))
    (want : ∀ (K : PySem.W.Frag) (H : Hp) (a : Addr) (ns : List Int), ns.length ≤ n → Only H → SqL K H a (ns.map V.int) → sp K [.ref a] H (fun v _ => v = .bl true) fun _ _ _ => False) :
    PySem.W.WalkO q loose XP YP l.row.toRowW d [] (fun f vs => PySem.call f vs) := by
  refine Att.attach_call hn hdf fun w s0 s1 mg mb fa o pm cd doc a vs ns G Y ho hd hcd hmg hobj ia len g0 => ?_
  obtain ⟨fd, bi, FF⟩ := F w mg fa _ (hY w _ Y) G.T.g hmg
  exact enter_all (hY w _ Y) G.T.g G.T.b G.T.builtins G.T.nolimit g0 hobj ia (Nat.le_trans len hz) room bi FF fun H only hs => want _ H a ns len only hs
end LG
-- GL
/-! elements of generator expressions that call nothing of the text: values by names, under whatever frames -/
namespace LE
open PySem PySem.Spec PyProof.Rows L2
/-- where such an element is reckoned: the names that it sees, what stands as the def that holds it had it -/
structure Site (X : Cx) (sc : Scope) (H : Hp) (Γ : List (Str × V)) (ce : Env) (t : Shared) : Prop where
  fn : sc.kind = .function
  eqs : ce.scope = sc
  gl : ce.globals = mainGlobals
  bl : ce.builtins = builtinsNs
  mod : Mod X.K X.mg X.base
  bs : ∀ b o, X.base.get? b = some o → t.heap.get? b = some o
  obj : ∀ b u, H b = some u → (∀ q, u ≠ .tbl q) → ObjOk X.prog X.w H t.heap b u
  var : ∀ y v, Γ.lookup y = some v → ∃ u, RelV v u ∧ ((sc.names.lookup y = some .local ∧ ∃ m, t.heap.Ns ce.locals m ∧ m y = some u) ∨ (sc.names.lookup y = some .free ∧ ∃ c, ce.cells.lookup y = some c ∧ t.heap.IsCell c (some u)))
section
variable {X : Cx} {sc : Scope} {H : Hp} {Γ : List (Str × V)} {ce : Env} {t t' : Shared}
theorem Site.keeps (S : Site X sc H Γ ce t) (k : Keeps t t') : Site X sc H Γ ce t' := by
  obtain ⟨h', n, rfl, kk⟩ := k
  refine ⟨S.fn, S.eqs, S.gl, S.bl, S.mod, fun b o e => kk _ _ (S.bs b o e), fun b u e n => (S.obj b u e n).stay (fun c v _ y => kk c v y) (fun _ y => y) fun _ _ y => y, fun y v e => ?_⟩
  obtain ⟨u, r, l⟩ := S.var y v e
  refine ⟨u, r, l.imp (fun ⟨a, m, hn, hm⟩ => ⟨a, m, hn.keeps kk, hm⟩) fun ⟨a, c, hc, o, ho, hd⟩ => ⟨a, c, hc, o, kk _ _ ho, hd⟩⟩
theorem Site.list {p : Addr} {xs : List V} (S : Site X sc H Γ ce t) (h : SqL X.K H p xs) : ∃ its : List Value, Vals xs its ∧ PlainL t.heap p its.toArray ∧ xs.length ≤ sizeLine := by
  rcases h with (h | ⟨o, h⟩) | ⟨o, its, n, hk, hc, hd, hs, hz, r⟩
  · obtain ⟨z, its, n, r, e⟩ := S.obj p _ h fun _ y => nomatch y
    exact ⟨its, r, ⟨_, n, e, rfl, rfl, rfl⟩, z⟩
  · obtain ⟨_, z, its, n, r, e⟩ := S.obj p _ h fun _ y => nomatch y
    exact ⟨its, r, ⟨_, n, e, rfl, rfl, rfl⟩, z⟩
  · refine ⟨its.toList, r, ⟨o, n, S.bs _ _ (S.mod.kin p o hk), hc, hd, by simpa using hs⟩, ?_⟩
    have e := r.length
    simp only [Array.length_toList] at e
    omega
end
/-- e is v there, and nothing is changed -/
def PU (X : Cx) (sc : Scope) (H : Hp) (Γ : List (Str × V)) (e : Expr) (v : V) : Prop :=
  ∀ (ce : Env) (B : Around) (t : Shared) (F R : Value → Shared → Prop), Site X sc H Γ ce t → (∀ u t', RelV v u → Keeps t t' → R u t') → wpAny (model X.prog X.w) B (eval e ce) R F t
theorem kt (s : Shared) (k : Nat) : Keeps s { s with toks := k } := ⟨s.heap, k, rfl, fun _ _ e => e⟩
theorem k0 (s : Shared) : Keeps s s := kt s s.toks
theorem Keeps.on {a b c : Shared} (h : Keeps a b) (h' : Keeps b c) : Keeps a c := by
  obtain ⟨x, n, rfl, k⟩ := h
  obtain ⟨y, m, rfl, k'⟩ := h'
  exact ⟨y, m, rfl, fun i o e => k' i o (k i o e)⟩
section
variable {X : Cx} {sc : Scope} {H : Hp} {Γ : List (Str × V)} {a b : Expr} {pos : Pos}
theorem pu_var {y : Str} {v : V} (h : Γ.lookup y = some v) (hd : (y == ("__debug__" : Str)) = false := by decide) (hcd : (y == ("__classdict__" : Str)) = false := by decide) : PU X sc H Γ (.Name y pos) v := by
  intro ce B t F R S q
  obtain ⟨u, r, l⟩ := S.var y v h
  have fk : ce.scope.kind = .function := by rw [S.eqs]; exact S.fn
  rcases l with ⟨hl, m, hn, hm⟩ | ⟨hl, c, hc, ho⟩
  · exact wpAny_Name (wpAny_loadName_local fk (show ce.scope.names.lookup y = some .local by rw [S.eqs]; exact hl) hn hm (q u t r (k0 t))) hd
  · exact wpAny_Name (wpAny_loadName_free fk (show ce.scope.names.lookup y = some .free by rw [S.eqs]; exact hl) hc ho (q u t r (k0 t)) hcd) hd
theorem pu_int {i : Int} {j : Nat} : PU X sc H Γ (.Constant (.int i) j pos) (.int i) := fun ce B t F R S q => wpAny_Constant_int (q _ _ ⟨_, rfl⟩ (kt t _))
/-- two ints are compared -/
theorem pu_cmp {op : CmpOp} {g : Int → Int → Bool} {i j : Int} (rule : ∀ (B : Around) (i j : Int) (t u : Tok) (s : Shared) (Q : Value → Shared → Prop) (E : Value → Shared → Prop), Q (.bool (g i j)) s → wpAny (model X.prog X.w) B (compareOp op (.int i t) (.int j u)) Q E s)
    (ha : PU X sc H Γ a (.int i)) (hb : PU X sc H Γ b (.int j)) (hm : behindInMarks op b = false := by rfl) : PU X sc H Γ (.Compare a [op] [b] pos) (.bl (g i j)) := by
  intro ce B t F R S q
  refine wpAny_Compare1 (ha ce B t F _ S fun u t1 r1 k1 => hb ce B t1 F _ (S.keeps k1) fun w t2 r2 k2 => ?_) hm
  obtain ⟨_, rfl⟩ := r1
  obtain ⟨_, rfl⟩ := r2
  exact rule _ _ _ _ _ _ _ _ (q _ _ rfl (Keeps.on k1 k2))
theorem pu_lt {i j : Int} (ha : PU X sc H Γ a (.int i)) (hb : PU X sc H Γ b (.int j)) : PU X sc H Γ (.Compare a [.Lt] [b] pos) (.bl (decide (i < j))) := pu_cmp (g := fun i j => decide (i < j)) (fun _ _ _ _ _ _ _ _ q => lt_int q) ha hb (nomark _)
theorem pu_eqI {i j : Int} (ha : PU X sc H Γ a (.int i)) (hb : PU X sc H Γ b (.int j)) : PU X sc H Γ (.Compare a [.Eq] [b] pos) (.bl (decide (i = j))) := by
  intro ce B t F R S q
  refine wpAny_Compare1 (ha ce B t F _ S fun u t1 r1 k1 => hb ce B t1 F _ (S.keeps k1) fun w t2 r2 k2 => ?_) (nomark _)
  obtain ⟨_, rfl⟩ := r1
  obtain ⟨_, rfl⟩ := r2
  exact eq_int (q _ _ (by show _ = _; congr 1) (Keeps.on k1 k2))
theorem pu_sub {i j : Int} (ha : PU X sc H Γ a (.int i)) (hb : PU X sc H Γ b (.int j)) : PU X sc H Γ (.BinOp a .Sub b pos) (.int (i - j)) := by
  intro ce B t F R S q
  refine wpAny_BinOp (ha ce B t F _ S fun u t1 r1 k1 => hb ce B t1 F _ (S.keeps k1) fun w t2 r2 k2 => ?_)
  obtain ⟨_, rfl⟩ := r1
  obtain ⟨_, rfl⟩ := r2
  exact sub_int (q _ _ ⟨_, rfl⟩ (Keeps.on (Keeps.on k1 k2) (kt t2 _)))
theorem pu_non {j : Nat} : PU X sc H Γ (.Constant .none j pos) .non := fun ce B t F R S q => Constant_none (q _ _ rfl (k0 t))
/-- a is not None -/
theorem pu_notN {v : V} {j : Nat} {p : Pos} (ha : PU X sc H Γ a v) : PU X sc H Γ (.Compare a [.IsNot] [.Constant .none j p] pos) (.bl (!decide (v = .non))) := by
  intro ce B t F R S q
  refine wpAny_Compare1 (ha ce B t F _ S fun u t1 r1 k1 => Constant_none (isnot_none_gen (q _ _ ?_ k1))) rfl
  cases v <;> first
    | (cases r1; rfl)
    | (obtain ⟨t, rfl⟩ := r1; rfl)
theorem pu_one {op : BoolOp} {v : V} (ha : PU X sc H Γ a v) : PU X sc H Γ (.BoolOp op [a] pos) v := fun ce B t F R S q => BoolOp_one (ha ce B t F R S q)
theorem pu_and {rest : List Expr} {c r : Bool} (ha : PU X sc H Γ a (.bl c)) (hb : c = true → PU X sc H Γ (.BoolOp .And (b :: rest) pos) (.bl r)) : PU X sc H Γ (.BoolOp .And (a :: b :: rest) pos) (.bl (c && r)) := by
  intro ce B t F R S q
  refine BoolOp_and (ha ce B t F _ S fun u t1 r1 k1 => ?_)
  cases r1
  refine wpAny_truthy_bool ?_
  cases c with
  | true => exact hb rfl ce B t1 F R (S.keeps k1) fun u t2 r2 k2 => q u t2 r2 (Keeps.on k1 k2)
  | false => exact q _ _ rfl k1
/-- an item of a list, by a place from 0 on -/
theorem pu_ix {p : Addr} {xs : List V} {i : Nat} {v : V} (ha : PU X sc H Γ a (.ref p)) (hb : PU X sc H Γ b (.int (i : Int))) (hl : SqL X.K H p xs) (hi : xs[i]? = some v) (hs : PlainIx b := by exact fun _ _ => rfl) : PU X sc H Γ (.Subscript a b pos) v := by
  intro ce B t F R S q
  refine Subscript_ (ha ce B t F _ S fun u t1 r1 k1 => hb ce B t1 F _ (S.keeps k1) fun w t2 r2 k2 => ?_)
  cases r1
  obtain ⟨_, rfl⟩ := r2
  have S2 := (S.keeps k1).keeps k2
  obtain ⟨its, r, pl, hz⟩ := S2.list hl
  obtain ⟨x, ex, rx⟩ := r.get hi
  have hn := line63
  have hlt : i < xs.length := (List.getElem?_eq_some_iff.mp hi).1
  exact item_listR pl.isList (by omega) (by omega) (by simpa using ex) (q _ _ rx (Keeps.on k1 k2)) (hs _ _)
/-- len of a list -/
theorem pu_len {p : Addr} {xs : List V} {np : Pos} (ha : PU X sc H Γ a (.ref p)) (hl : SqL X.K H p xs) (hg : sc.names.lookup ("len" : Str) = some .globalImplicit) (hm : X.mg "len" = none)
    (he : ∀ ce : Env, starEach [a] ce = (false, eval a ce) :: starEach [] ce := by exact fun _ => rfl) : PU X sc H Γ (.Call (.Name "len" np) [a] [] pos) (.int xs.length) := by
  intro ce B t F R S q
  obtain ⟨mb, h1, h2⟩ := S.mod.blt
  refine wpAny_Call_Name_kw (Calls.Name_function_global (by rw [S.eqs]; exact S.fn) (show ce.scope.names.lookup ("len" : Str) = some .globalImplicit by rw [S.eqs]; exact hg)
    (Calls.loadGlobal_builtin (by rw [S.gl]; exact S.mod.glob.keeps S.bs) hm (by rw [S.bl]; exact h1.keeps S.bs) ((h2 "len" (by decide)).trans boot_len) ?_) (by decide))
  refine PyProof.Rows.callWith_builtin1 ?_ (he ce) rfl
  rw [he ce]
  refine Calls.spliced_cons (ha ce B t F _ S fun u t1 r1 k1 => Calls.spliced_nil ?_)
  cases r1
  obtain ⟨its, r, pl, hz⟩ := (S.keeps k1).list hl
  have hn := line63
  have e := r.length
  exact Calls.call_len_list pl.isList (by simp only [List.size_toArray] <;> omega) (q _ _ ⟨_, by rw [List.size_toArray, e]⟩ (Keeps.on k1 (kt t1 _)))
end
end LE
-- GA
/-! any and all of a generator expression over a list, its element reckoned by GL -/
namespace LE
open PySem PySem.Spec PyProof.Rows L2
open GxR (TabB TabG Tabbed GenS)
theorem pair_of_lookup {α : Type} : ∀ {l : List (Str × α)} {y : Str} {v : α}, l.lookup y = some v → (y, v) ∈ l
  | (k, w) :: r, y, v, h => by
    rw [List.lookup_cons] at h
    cases e : y == k with
    | true =>
      rw [e] at h
      have e2 : y = k := by simpa using e
      cases h
      rw [e2]
      exact List.mem_cons_self
    | false =>
      rw [e] at h
      exact List.mem_cons_of_mem _ (pair_of_lookup h)
/-- what is asked of the expression's scope, to be seen by looking -/
structure GOK (ds sc : Scope) (x : Str) : Prop where
  kind : sc.kind = .function
  co : sc.isCoroutine = false
  cell : ∀ y ∈ sc.names, y.2 ≠ .cell
  dot : sc.names.lookup (".0" : Str) = some NameKind.local
  loc : sc.names.lookup x = some .local
  kin : ∀ y ∈ sc.names, y.2 = .free → ds.names.lookup y.1 = some .cell ∨ ds.names.lookup y.1 = some .free
instance {ds sc : Scope} {x : Str} : Decidable (GOK ds sc x) :=
  decidable_of_iff (sc.kind = .function ∧ sc.isCoroutine = false ∧ (∀ y ∈ sc.names, y.2 ≠ .cell) ∧ sc.names.lookup (".0" : Str) = some NameKind.local ∧ sc.names.lookup x = some .local ∧ ∀ y ∈ sc.names, y.2 = .free → ds.names.lookup y.1 = some .cell ∨ ds.names.lookup y.1 = some .free)
    ⟨fun ⟨a, b, c, d, e, f⟩ => ⟨a, b, c, d, e, f⟩, fun ⟨a, b, c, d, e, f⟩ => ⟨a, b, c, d, e, f⟩⟩
def Gsc (X : Cx) (sc : Scope) (x : Str) : Prop := ∃ ds, X.env.scope = ds ∧ GOK ds sc x
theorem Gsc.gens {X : Cx} {sc : Scope} {x : Str} (g : Gsc X sc x) (ok : X.Ok) : GenS X.env sc x := by
  obtain ⟨ds, rfl, h⟩ := g
  exact ⟨h.kind, h.co, h.cell, h.dot, h.loc, fun y hy e => ok.has _ (h.kin y hy e)⟩
/-- the names of the def that the element sees, and what they hold -/
def Seen (X : Cx) (σ : L2.St) (sc : Scope) (Γ : List (Str × V)) : Prop :=
  ∀ y v, Γ.lookup y = some v → ∃ i : Nat, X.N[i]? = some y ∧ σ[i]? = some (some v) ∧ (X.env.scope.names.lookup y = some .cell ∨ X.env.scope.names.lookup y = some .free) ∧ sc.names.lookup y = some .free
theorem seen_nil {X : Cx} {σ : L2.St} {sc : Scope} : Seen X σ sc [] := fun _ _ h => nomatch h
theorem seen_cons {X : Cx} {σ : L2.St} {sc : Scope} {Γ : List (Str × V)} {y : Str} {v : V} (i : Nat) (hN : X.N[i]? = some y) (hσ : σ[i]? = some (some v)) (hk : X.env.scope.names.lookup y = some .cell ∨ X.env.scope.names.lookup y = some .free) (hf : sc.names.lookup y = some .free)
    (r : Seen X σ sc Γ) : Seen X σ sc ((y, v) :: Γ) := fun z w h => by
  rw [List.lookup_cons] at h
  cases e : z == y with
  | true =>
    rw [e] at h
    cases h
    rw [show z = y by simpa using e]
    exact ⟨i, hN, hσ, hk, hf⟩
  | false =>
    rw [e] at h
    exact r z w h
/-- a generator that is ready, of n turns, the j-th one true as tr says -/
def Rdy (X : Cx) (pins : List (Addr × Obj)) (σ : L2.St) (H1 : Hp) (P : Addr) (n : Nat) (tr : Nat → Bool) (g : Addr) (s5 : Shared) : Prop :=
  ∃ (fp wr : List Addr) (G : Array GenState → Array GenState → Prop) (F : Nat → Value → Prop) (St : Nat → Shared → Prop),
    WalksS X.prog X.w X.A.in1 g fp wr G n F St ∧ St 0 s5 ∧ TruthOf X.prog X.w X.A.in1 F tr ∧ ∀ s', Moved wr G s5 s' → ∃ H2, Tabbed P H1 H2 ∧ Inv X pins σ H2 s'
section
variable {X : Cx} {pins : List (Addr × Obj)} {σ : L2.St} {H : Hp} {s : Shared}
/-- the expression's code object: found, or made and put behind the table -/
theorem code_step {c P : Addr} {pos : Pos} {q : Str} {sc : Scope} {ps : Array Value} {R : Value → Shared → Prop} {E : Value → Shared → Prop} {A : Around} {M : Model} {t : Shared} (hcode : X.env.code = .ref c) (cd : PySem.W.CodeHd t.heap c P)
    (hP : t.heap.get? P = some { cls := .none, data := .fields ps }) (ht : TriplesOk ps.toList)
    (go : ∀ (code : Value) (h3 : Heap) (tk : Nat) (more : Array Value), Heap.ExtBut P t.heap h3 → t.heap.objs.size ≤ h3.objs.size → h3.get? P = some { cls := .none, data := .fields (ps ++ more) } → TriplesOk (ps ++ more).toList → R code { t with heap := h3, toks := tk }) :
    wpAny M A (genexprCode X.env pos q sc) R E t := by
  cases e : codeAmong pos ps.toList with
  | some v =>
    refine PySem.wpAny_genexprCode_hit hcode (cd.code hP ht) e ?_
    have z := go v t.heap t.toks #[] (Heap.ExtBut.refl _ _) (Nat.le_refl _) (by rw [Array.append_empty]; exact hP) (by rw [Array.append_empty]; exact ht)
    exact z
  | none =>
    refine PySem.wpAny_genexprCodeX hcode (cd.code hP ht) (cd.tab hP) e fun d h3 tk x ge lt ic _ it _ => go _ h3 tk _ x (Nat.le_trans ge (Nat.le_of_lt lt)) it.2 ?_
    obtain ⟨_, _, _, _, _, _, _, _, _, _, _, _, _, _, _, _, _, _, _, tr, _⟩ := ic
    exact tr
/-- .. for x in a list -/
theorem gen_list {c P : Addr} {elt iter : Expr} {x : Str} {px gpos : Pos} {sc : Scope} {te : TE} {k : Nat} {Q' : Value → Shared → Prop} {R : Nat → (Nat → Bool) → Hp → Prop}
    (hr : Room k X.A) (TB : TabB X.base X.mg c P) (hcode : X.env.code = .ref c) (S : GenS X.env sc x) (hi : PE X iter te) (hs : ∀ v, genFold iter X.env v = pure v) (I : Inv X pins σ H s)
    (h : te σ H fun v H1 => ∃ (a : Addr) (xs : List V) (tr : Nat → Bool) (Γ : List (Str × V)), v = .ref a ∧ SqL X.K H1 a xs ∧ TabG H1 P ∧ Seen X σ sc Γ ∧ (∀ j w, xs[j]? = some w → PU X sc H1 ((x, w) :: Γ) elt (.bl (tr j))) ∧ R xs.length tr H1)
    (hQ : ∀ n tr H1 g s5, R n tr H1 → Rdy X pins σ H1 P n tr g s5 → Q' (.ref g) s5) :
    wpAny (model X.prog X.w) X.A (eval (.GeneratorExp elt [⟨.Name x px, iter, [], 0⟩] sc gpos) X.env) Q' X.xe s := by
  refine wpAny_GeneratorExp_walksQ hr.hd S.co (closure_ok S.free) S.cell S.dot S.loc S.kind (by have := hr.dp; omega) ?_ hs
  refine thn (hi.run pins s σ H _ I h) fun u s1 ⟨v, H1, I1, r1, a, xs, tr, Γ, ev, hl, ⟨ps, hP, ht⟩, sn, hel, hR⟩ => ?_
  subst ev
  cases (show u = Value.ref a from r1)
  obtain ⟨its, rv, pl, hz⟩ := I1.list hl
  have nlen := rv.length
  refine wpAny_pyIter_list pl.isList ?_
  -- the iterator stands behind all else
  have kp : ∀ b o, s1.heap.get? b = some o → (s1.heap.push { cls := .type "list_iterator", data := .fields #[.ref a, .int 0 0] }).get? b = some o := fun b o e => Heap.get?_push_of_some _ e
  have oP : s1.heap.get? P = some { cls := .none, data := .fields ps } := I1.hok P _ hP
  have nl2 : (s1.heap.push { cls := .type "list_iterator", data := .fields #[.ref a, .int 0 0] }).NoLimit := I1.nolimit.push _
  have hsz2 : (s1.heap.push { cls := .type "list_iterator", data := .fields #[.ref a, .int 0 0] }).objs.size = s1.heap.objs.size + 1 := Heap.size_push ..
  have itA : (s1.heap.push { cls := .type "list_iterator", data := .fields #[.ref a, .int 0 0] }).IsListIter s1.heap.objs.size a 0 := ⟨_, Heap.get?_push_size _ rfl, rfl, rfl⟩
  have hal : a < s1.heap.objs.size := by
    obtain ⟨o, e, _⟩ := pl.isList
    exact Heap.lt_size e
  refine ⟨nl2, code_step (ps := ps) hcode (TB.code.keeps fun b o e => kp b o (I1.bk b o e)) (kp _ _ oP) ht fun code h3 tk more ex ge hP3 ht3 => ?_⟩
  have ge : s1.heap.objs.size + 1 ≤ h3.objs.size := by
    rw [← hsz2]
    exact ge
  obtain ⟨bm, ob, e1, e2, e3, e4, e5, e6, e7, e8⟩ := TB.bm
  have k3 : ∀ b o, b ≠ P → s1.heap.get? b = some o → h3.get? b = some o := fun b o n e => ex b o n (kp b o e)
  refine wpAny_builtinsFor (m := X.mg) (by rw [I1.ok.glob]; exact ((I1.mod.glob.keeps I1.bk).keeps kp).extBut ex TB.gP) e1 e2 (k3 _ _ e4 (I1.bk _ _ e5)) e6 e7 e8 ?_
  have aP : a ≠ P := fun z => by
    obtain ⟨o, e, d, n, e'⟩ := pl.isList
    rw [z, oP] at e
    cases e
    cases e'
  have iP : s1.heap.objs.size ≠ P := fun z => by
    have := Heap.lt_size oP
    rw [← z] at this
    exact Nat.lt_irrefl _ this
  have cP : cStatics ≠ P := fun z => by
    obtain ⟨_, ⟨o, es, ep, ho, hd, _⟩, _⟩ := I1.nolimit
    rw [z, oP] at ho
    cases ho
    cases hd
  have cl : cStatics < s1.heap.objs.size := let ⟨_, q, _⟩ := I1.nolimit; q.lt
  refine ⟨s1.heap.objs.size, [s1.heap.objs.size, a], [s1.heap.objs.size], its.toArray.size, fun i v => its.toArray[i]? = some v, fun i h => h.IsListIter s1.heap.objs.size a i ∧ h.IsList a its.toArray, fun _ => true, fun i y => y = .bool (tr i), rfl,
    fun A' hA => Walks.list hA _ _ (Nat.ne_of_lt hal) _, ⟨itA.at fun o e => ex _ o iP e, ?_⟩, fun b hb => ?_, nl2.extBut ex cP, fun z => ?_, fun href hk => ⟨fun A' E' i v t m _ _ _ _ _ => ?_, fun A' E' i v t m hA hv _ hn hm kk => ?_⟩, fun g h5 tk5 gs bare lt5 sz5 k5 W at5 => ?_⟩
  · obtain ⟨o, e, r⟩ := pl.isList
    exact ⟨o, k3 a o aP e, r⟩
  · show b < h3.objs.size
    rcases List.mem_cons.mp hb with z | z
    · rw [z]
      exact Nat.lt_of_lt_of_le (Nat.lt_succ_self _) ge
    · rw [List.mem_singleton.mp z]
      exact Nat.lt_of_lt_of_le (Nat.lt_succ_of_lt hal) ge
  · have z2 := List.mem_singleton.mp z
    rw [z2] at cl
    exact Nat.lt_irrefl _ cl
  · rw [List.forIn_nil]
    exact wpAny_pure ⟨rfl, k0 t⟩
  · -- one element
    have up : ∀ b o, b ≠ P → s1.heap.get? b = some o → t.heap.get? b = some o := fun b o n e => by
      have lb := Heap.lt_size e
      refine kk b (List.mem_range.mpr (show b < h3.objs.size from Nat.lt_of_lt_of_le (Nat.lt_succ_of_lt lb) ge)) (fun y => ?_) o (hk b o (k3 b o n e))
      rw [List.mem_singleton.mp y] at lb
      exact Nat.lt_irrefl _ lb
    have hv' : its[i]? = some v := by simpa using hv
    obtain ⟨w, ew, rw'⟩ : ∃ w, xs[i]? = some w ∧ RelV w v := by
      have lt : i < xs.length := by
        rw [nlen]
        exact (List.getElem?_eq_some_iff.mp hv').1
      obtain ⟨y, ey, ry⟩ := rv.get (List.getElem?_eq_getElem lt)
      rw [hv'] at ey
      cases ey
      exact ⟨_, List.getElem?_eq_getElem lt, ry⟩
    refine hel i w ew _ A' t E' _ ?_ fun u t' ru ku => ⟨ru, ku⟩
    refine ⟨S.kind, rfl, I1.ok.glob, rfl, I1.mod, fun b o e => up b o (fun z => ?_) (I1.bk b o e), fun b o e n => (I1.hok b o e).stay (fun d y hd ey => up d y (fun z => ?_) ey) (fun _ y => y) fun _ _ y => y, fun y v' e => ?_⟩
    · have := (I1.bs b o e).2
      rw [z, hP] at this
      cases this
    · rcases hd with q | q
      · rw [← q, z, hP] at e
        exact n ps (Option.some.inj e).symm
      · rw [z, hP] at q
        cases q
    · rw [List.lookup_cons] at e
      cases b : y == x with
      | true =>
        rw [b] at e
        have e' : y = x := by simpa using b
        cases e
        exact ⟨v, rw', .inl ⟨by rw [e']; exact S.loc, m, hn, by rw [e']; exact hm⟩⟩
      | false =>
        rw [b] at e
        obtain ⟨j, hN, hσ, hv2, hf⟩ := sn y v' e
        obtain ⟨m1, _, hl1⟩ := I1.loc
        obtain ⟨u, ru, lk⟩ := hl1 j y v' hN hσ (.inr hv2)
        rcases lk with ⟨q1, _⟩ | ⟨_, cc, hc, hcell⟩
        · have q1' : X.env.scope.names.lookup y = some .local := q1
          rcases hv2 with q2 | q2 <;> (rw [q1'] at q2; cases q2)
        · obtain ⟨oc, ec, dc⟩ := hcell
          refine ⟨u, ru, .inr ⟨hf, cc, NdefX.clo_has S.free (pair_of_lookup hf) hc, oc, up cc oc (fun z => ?_) ec, dc⟩⟩
          rw [z, oP] at ec
          cases ec
          cases dc
  · -- behind its making
    simp only [GxR.passing_true, List.length_range] at W
    have en : its.toArray.size = xs.length := by rw [List.size_toArray, nlen]
    refine hQ its.toArray.size tr H1 g _ (by rw [en]; exact hR) ⟨_, _, _, _, _, W.in4_1, at5, fun j y sj Qj Ej hy hq => ?_, fun s' mv => ?_⟩
    · obtain ⟨i, hij, rfl⟩ := hy
      obtain ⟨_, ej⟩ := List.getElem?_eq_some_iff.mp hij
      rw [List.getElem_range] at ej
      rw [← ej]
      exact wpAny_truthy_bool hq
    · have out : ∀ b o, s1.heap.get? b = some o → b ∉ h3.objs.size :: [s1.heap.objs.size] := fun b o e y => by
        have lb := Heap.lt_size e
        rcases List.mem_cons.mp y with z | z
        · rw [z] at lb
          have : (h3.objs.size : Nat) < s1.heap.objs.size := lb
          omega
        · rw [List.mem_singleton.mp z] at lb
          exact Nat.lt_irrefl _ lb
      have J := GxR.inv_tab (more := more) (h' := s'.heap) (g' := s'.gens) (d' := s'.drawn) (t' := s'.toks) I1 hP (fun b o n e => mv.heap b o (out b o e) (k5 b o (k3 b o n e))) (mv.heap P _ (out P _ oP) (k5 P _ hP3)) (AllBare.movedS (I1.bare.push bare) mv)
      rw [GxR.sh_eta s1 s' mv.os] at J
      exact ⟨_, ⟨⟨_, upd_same, ht3⟩, fun b n => upd_ne n⟩, J⟩
/-- any(test for x in a list), all(..) -/
def tGenL (X : Cx) (P : Addr) (x : Str) (sc : Scope) (elt : Expr) (fold : Nat → (Nat → Bool) → Bool) (te : TE) : TE := fun σ H Q => te σ H fun v H1 => ∃ (a : Addr) (xs : List V) (tr : Nat → Bool) (Γ : List (Str × V)), v = .ref a ∧ SqL X.K H1 a xs ∧ TabG H1 P ∧
  Seen X σ sc Γ ∧ (∀ j w, xs[j]? = some w → PU X sc H1 ((x, w) :: Γ) elt (.bl (tr j))) ∧ ∀ H2, Tabbed P H1 H2 → Q (.bl (fold xs.length tr)) H2
def anyTo (n : Nat) (tr : Nat → Bool) : Bool := (List.range n).any tr
def allTo (n : Nat) (tr : Nat → Bool) : Bool := (List.range n).all tr
section
variable {c P : Addr} {elt iter : Expr} {x : Str} {px p pos gpos : Pos} {sc : Scope} {te : TE} {k : Nat}
theorem pe_anyL (hr : Room k X.A) (hg : Gl X "any") (hm : X.mg "any" = none) (TB : TabB X.base X.mg c P) (hcode : X.env.code = .ref c) (S : Gsc X sc x) (hi : PE X iter te) (hs : ∀ v, genFold iter X.env v = pure v)
    (he : starEach [.GeneratorExp elt [⟨.Name x px, iter, [], 0⟩] sc gpos] X.env = (false, eval (.GeneratorExp elt [⟨.Name x px, iter, [], 0⟩] sc gpos) X.env) :: starEach [] X.env := by rfl) :
    PE X (.Call (.Name "any" p) [.GeneratorExp elt [⟨.Name x px, iter, [], 0⟩] sc gpos] [] pos) (tGenL X P x sc elt anyTo te) := by
  refine ⟨fun pins s σ H Q I h => wpAny_Call_Name_kw (ld_blt I hg hm boot_any (PyProof.Rows.callWith_builtin1 ?_ he (by rfl)))⟩
  rw [he]
  refine Calls.spliced_cons (gen_list (R := fun n tr H1 => ∀ H2, Tabbed P H1 H2 → Q (.bl (anyTo n tr)) H2) hr TB hcode (S.gens I.ok) hi hs I h fun n tr H1 g s5 hR ⟨fp, wr, G, F, sq, W, h0, tt, aft⟩ => Calls.spliced_nil ?_)
  refine call_any_walkS (W.self 0 _ _ _ h0 ⟨g, fp, wr, G, _, F, sq, _, rfl, W, h0, tt, fun s' mv => ?_⟩)
  obtain ⟨H2, T, J⟩ := aft s' mv
  exact ⟨.bl _, H2, J, rfl, hR H2 T⟩
theorem pe_allL (hr : Room k X.A) (hg : Gl X "all") (hm : X.mg "all" = none) (TB : TabB X.base X.mg c P) (hcode : X.env.code = .ref c) (S : Gsc X sc x) (hi : PE X iter te) (hs : ∀ v, genFold iter X.env v = pure v)
    (he : starEach [.GeneratorExp elt [⟨.Name x px, iter, [], 0⟩] sc gpos] X.env = (false, eval (.GeneratorExp elt [⟨.Name x px, iter, [], 0⟩] sc gpos) X.env) :: starEach [] X.env := by rfl) :
    PE X (.Call (.Name "all" p) [.GeneratorExp elt [⟨.Name x px, iter, [], 0⟩] sc gpos] [] pos) (tGenL X P x sc elt allTo te) := by
  refine ⟨fun pins s σ H Q I h => wpAny_Call_Name_kw (ld_blt I hg hm (by decide +kernel : bootBuiltins "all" = some (.builtin "all")) (PyProof.Rows.callWith_builtin1 ?_ he (by rfl)))⟩
  rw [he]
  refine Calls.spliced_cons (gen_list (R := fun n tr H1 => ∀ H2, Tabbed P H1 H2 → Q (.bl (allTo n tr)) H2) hr TB hcode (S.gens I.ok) hi hs I h fun n tr H1 g s5 hR ⟨fp, wr, G, F, sq, W, h0, tt, aft⟩ => Calls.spliced_nil ?_)
  refine call_all_walkS (W.self 0 _ _ _ h0 ⟨g, fp, wr, G, _, F, sq, _, rfl, W, h0, tt, fun s' mv => ?_⟩)
  obtain ⟨H2, T, J⟩ := aft s' mv
  exact ⟨.bl _, H2, J, rfl, hR H2 T⟩
end
end
end LE
-- GB
/-! any and all of a generator expression over enumerate(a list) -/
namespace LE
open PySem PySem.Spec PyProof.Rows L2
open GxR (TabB TabG Tabbed GenS)
section
variable {X : Cx} {pins : List (Addr × Obj)} {σ : L2.St} {H : Hp} {s : Shared}
/-- what the element sees, from what stands where the generator is made -/
theorem site_of {P : Addr} {ps : Array Value} {sc : Scope} {x : Str} {Γ L : List (Str × V)} {ce : Env} {s1 t : Shared} {H1 : Hp} {m : Str → Option Value} (S : GenS X.env sc x) (I1 : Inv X pins σ H1 s1) (hP : H1 P = some (.tbl ps)) (sn : Seen X σ sc Γ)
    (up : ∀ b o, b ≠ P → s1.heap.get? b = some o → t.heap.get? b = some o) (es : ce.scope = sc) (eg : ce.globals = mainGlobals) (eb : ce.builtins = builtinsNs) (ec : ce.cells = cloFrom X.env.cells sc.names [])
    (hn : t.heap.Ns ce.locals m) (loc : ∀ y v, L.lookup y = some v → sc.names.lookup y = some .local ∧ ∃ u, RelV v u ∧ m y = some u) : Site X sc H1 (L ++ Γ) ce t := by
  have oP : s1.heap.get? P = some { cls := .none, data := .fields ps } := I1.hok P _ hP
  refine ⟨S.kind, es, eg, eb, I1.mod, fun b o e => up b o (fun z => ?_) (I1.bk b o e), fun b o e n => (I1.hok b o e).stay (fun d y hd ey => up d y (fun z => ?_) ey) (fun _ y => y) fun _ _ y => y, fun y v e => ?_⟩
  · have := (I1.bs b o e).2
    rw [z, hP] at this
    cases this
  · rcases hd with q | q
    · rw [← q, z, hP] at e
      exact n ps (Option.some.inj e).symm
    · rw [z, hP] at q
      cases q
  · have split : ∀ L : List (Str × V), (L ++ Γ).lookup y = some v → L.lookup y = some v ∨ Γ.lookup y = some v := fun L => by
      induction L with
      | nil => exact fun z => .inr z
      | cons p r ih =>
        intro z
        rw [List.cons_append, List.lookup_cons] at z
        rw [List.lookup_cons]
        cases q : y == p.1 with
        | true =>
          rw [q] at z
          exact .inl z
        | false =>
          rw [q] at z
          exact ih z
    rcases split L e with e | e
    · obtain ⟨hl, u, ru, hm⟩ := loc y v e
      exact ⟨u, ru, .inl ⟨hl, m, hn, hm⟩⟩
    · obtain ⟨j, hN, hσ, hv2, hf⟩ := sn y v e
      obtain ⟨m1, _, hl1⟩ := I1.loc
      obtain ⟨u, ru, lk⟩ := hl1 j y v hN hσ (.inr hv2)
      rcases lk with ⟨q1, _⟩ | ⟨_, cc, hc, hcell⟩
      · have q1' : X.env.scope.names.lookup y = some .local := q1
        rcases hv2 with q2 | q2 <;> (rw [q1'] at q2; cases q2)
      · obtain ⟨oc, e1, dc⟩ := hcell
        refine ⟨u, ru, .inr ⟨hf, cc, by rw [ec]; exact NdefX.clo_has S.free (pair_of_lookup hf) hc, oc, up cc oc (fun z => ?_) e1, dc⟩⟩
        rw [z, oP] at e1
        cases e1
        cases dc
theorem gen_enum {c P : Addr} {elt e : Expr} {xa xb : Str} {pa pb pt ep np gpos : Pos} {kt : Nat} {sc : Scope} {ta : TA} {k : Nat} {Q' : Value → Shared → Prop} {R : Nat → (Nat → Bool) → Hp → Prop}
    (hr : Room k X.A) (TB : TabB X.base X.mg c P) (hcode : X.env.code = .ref c) (S : GenS X.env sc xa) (hb : sc.names.lookup xb = some .local) (hab : xa ≠ xb) (hg : Gl X "enumerate") (hm : X.mg "enumerate" = none) (hi : PA X [e] ta)
    (hst : starEach [e] X.env = [(false, eval e X.env)]) (hs : ∀ v, genFold (.Call (.Name "enumerate" np) [e] [] ep) X.env v = pure v) (I : Inv X pins σ H s)
    (h : ta σ H fun vs H1 => ∃ (a : Addr) (xs : List V) (tr : Nat → Bool) (Γ : List (Str × V)), vs = [.ref a] ∧ SqL X.K H1 a xs ∧ TabG H1 P ∧ Seen X σ sc Γ ∧ (∀ j w, xs[j]? = some w → PU X sc H1 ([(xb, w), (xa, .int (j : Int))] ++ Γ) elt (.bl (tr j))) ∧ R xs.length tr H1)
    (hQ : ∀ n tr H1 g s5, R n tr H1 → Rdy X pins σ H1 P n tr g s5 → Q' (.ref g) s5) :
    wpAny (model X.prog X.w) X.A (eval (.GeneratorExp elt [⟨.Tuple [.Name xa pa, .Name xb pb] kt pt, .Call (.Name "enumerate" np) [e] [] ep, [], 0⟩] sc gpos) X.env) Q' X.xe s := by
  refine wpAny_GeneratorExp_walksQT hr.hd S.co (closure_ok S.free) S.cell S.dot S.loc hb hab S.kind (by have := hr.dp; omega) ?_ hs
  refine Call_ (ld_blt I hg hm boot_enumerate (PyProof.Rows.callWith_type1 (thn (hi.run ep pins s σ H _ I h) fun us s1 ⟨vs, H1, I1, r1, a, xs, tr, Γ, ev, hl, ⟨ps, hP, ht⟩, sn, hel, hR⟩ => ?_) hst rfl))
  subst ev
  obtain ⟨u, rfl, r2⟩ := vals1 r1
  cases (show u = Value.ref a from r2)
  obtain ⟨its, rv, pl, hz⟩ := I1.list hl
  have nlen := rv.length
  have oP : s1.heap.get? P = some { cls := .none, data := .fields ps } := I1.hok P _ hP
  have hal : a < s1.heap.objs.size := by
    obtain ⟨o, q, _⟩ := pl.isList
    exact Heap.lt_size q
  refine call_enumerate_list pl.isList fun h2 en2 it2 sz2 kp => wpAny_pyIter_enum en2 ?_
  have nl2 : h2.NoLimit := I1.nolimit.keeps kp
  refine ⟨nl2, code_step (ps := ps) hcode (TB.code.keeps fun b o q => kp b o (I1.bk b o q)) (kp _ _ oP) ht fun code h3 tk more ex ge hP3 ht3 => ?_⟩
  have ge : s1.heap.objs.size + 2 ≤ h3.objs.size := by
    rw [← sz2]
    exact ge
  obtain ⟨bm, ob, e1, e2, e3, e4, e5, e6, e7, e8⟩ := TB.bm
  have k3 : ∀ b o, b ≠ P → s1.heap.get? b = some o → h3.get? b = some o := fun b o n q => ex b o n (kp b o q)
  refine wpAny_builtinsFor (m := X.mg) (by rw [I1.ok.glob]; exact ((I1.mod.glob.keeps I1.bk).keeps kp).extBut ex TB.gP) e1 e2 (k3 _ _ e4 (I1.bk _ _ e5)) e6 e7 e8 ?_
  have aP : a ≠ P := fun z => by
    obtain ⟨o, q, d, n, q'⟩ := pl.isList
    rw [z, oP] at q
    cases q
    cases q'
  have Plt : P < s1.heap.objs.size := Heap.lt_size oP
  have nP : ∀ b : Addr, s1.heap.objs.size ≤ b → b ≠ P := fun b q z => by
    rw [z] at q
    exact absurd (Nat.lt_of_lt_of_le Plt q) (Nat.lt_irrefl _)
  have cP : cStatics ≠ P := fun z => by
    obtain ⟨_, ⟨o, es, q, ho, hd, _⟩, _⟩ := I1.nolimit
    rw [z, oP] at ho
    cases ho
    cases hd
  have cl : cStatics < s1.heap.objs.size := let ⟨_, q, _⟩ := I1.nolimit; q.lt
  have young : ∀ b, b ∈ [s1.heap.objs.size + 1, s1.heap.objs.size] → s1.heap.objs.size ≤ b := fun b q => by
    rcases List.mem_cons.mp q with z | z
    · rw [z]; exact Nat.le_succ _
    · rw [List.mem_singleton.mp z]; exact Nat.le_refl _
  refine ⟨s1.heap.objs.size + 1, [s1.heap.objs.size + 1, s1.heap.objs.size, a], [s1.heap.objs.size + 1, s1.heap.objs.size], its.toArray.size, fun i vals => ∃ t x, its.toArray[i]? = some x ∧ vals = #[.int i t, x], _, _, fun _ => true, fun i y => y = .bool (tr i), rfl,
    fun A' hA => (WalksT.enumerate hA _ _ _ (Nat.succ_ne_self _) (Nat.ne_of_lt (Nat.lt_succ_of_lt hal)) (Nat.ne_of_lt hal) its.toArray).toU, fun i vals ⟨t, x, _, q⟩ => ⟨_, _, q⟩, ⟨⟨.none, ex _ _ (nP _ (Nat.le_succ _)) en2⟩, it2.at fun o q => ex _ o (nP _ (Nat.le_refl _)) q, ?_⟩, fun b hb2 => ?_, nl2.extBut ex cP, fun z => ?_,
    fun href hk => ⟨fun A' E' i va vb t m _ _ _ _ _ _ => ?_, fun A' E' i va vb t m hA hv _ hn hm1 hm2 kk => ?_⟩, fun g h5 tk5 gs bare lt5 sz5 k5 W at5 => ?_⟩
  · obtain ⟨o, q, r⟩ := pl.isList
    exact ⟨o, k3 a o aP q, r⟩
  · show b < h3.objs.size
    rcases List.mem_cons.mp hb2 with z | z
    · rw [z]
      exact Nat.lt_of_lt_of_le (Nat.lt_succ_self _) ge
    · rcases List.mem_cons.mp z with z | z
      · rw [z]
        exact Nat.lt_of_lt_of_le (Nat.lt_succ_of_lt (Nat.lt_succ_self _)) ge
      · rw [List.mem_singleton.mp z]
        exact Nat.lt_of_lt_of_le (Nat.lt_succ_of_lt (Nat.lt_succ_of_lt hal)) ge
  · exact absurd (Nat.lt_of_lt_of_le cl (young _ z)) (Nat.lt_irrefl _)
  · rw [List.forIn_nil]
    exact wpAny_pure ⟨rfl, k0 t⟩
  · have up : ∀ b o, b ≠ P → s1.heap.get? b = some o → t.heap.get? b = some o := fun b o n q => by
      have lb := Heap.lt_size q
      exact kk b (List.mem_range.mpr (show b < h3.objs.size from Nat.lt_of_lt_of_le (Nat.lt_succ_of_lt (Nat.lt_succ_of_lt lb)) ge)) (fun y => absurd (Nat.lt_of_lt_of_le lb (young _ y)) (Nat.lt_irrefl _)) o (hk b o (k3 b o n q))
    obtain ⟨tk', x, hx, ev⟩ := hv
    have ev' : va = .int i tk' ∧ vb = x := by simpa using ev
    obtain ⟨rfl, rfl⟩ := ev'
    have hv' : its[i]? = some vb := by simpa using hx
    obtain ⟨w, ew, rw'⟩ : ∃ w, xs[i]? = some w ∧ RelV w vb := by
      have lt : i < xs.length := by
        rw [nlen]
        exact (List.getElem?_eq_some_iff.mp hv').1
      obtain ⟨y, ey, ry⟩ := rv.get (List.getElem?_eq_getElem lt)
      rw [hv'] at ey
      cases ey
      exact ⟨_, List.getElem?_eq_getElem lt, ry⟩
    refine hel i w ew _ A' t E' _ (site_of S I1 hP sn up rfl I1.ok.glob rfl rfl hn fun y v q => ?_) fun u t' ru ku => ⟨ru, ku⟩
    rw [List.lookup_cons] at q
    cases b1 : y == xb with
    | true =>
      rw [b1] at q
      cases q
      rw [show y = xb by simpa using b1]
      exact ⟨hb, vb, rw', hm2⟩
    | false =>
      rw [b1, List.lookup_cons] at q
      cases b2 : y == xa with
      | true =>
        rw [b2] at q
        cases q
        rw [show y = xa by simpa using b2]
        exact ⟨S.loc, _, ⟨_, rfl⟩, hm1⟩
      | false =>
        rw [b2] at q
        cases q
  · simp only [GxR.passing_true, List.length_range] at W
    have en : its.toArray.size = xs.length := by rw [List.size_toArray, nlen]
    refine hQ its.toArray.size tr H1 g _ (by rw [en]; exact hR) ⟨_, _, _, _, _, W.in4_1, at5, fun j y sj Qj Ej hy hq => ?_, fun s' mv => ?_⟩
    · obtain ⟨i, hij, rfl⟩ := hy
      obtain ⟨_, ej⟩ := List.getElem?_eq_some_iff.mp hij
      rw [List.getElem_range] at ej
      rw [← ej]
      exact wpAny_truthy_bool hq
    · have out : ∀ b o, s1.heap.get? b = some o → b ∉ h3.objs.size :: [s1.heap.objs.size + 1, s1.heap.objs.size] := fun b o q y => by
        have lb := Heap.lt_size q
        rcases List.mem_cons.mp y with z | z
        · rw [z] at lb
          exact absurd (Nat.lt_of_le_of_lt (Nat.le_trans (Nat.le_succ _) (Nat.le_trans (Nat.le_succ _) ge)) lb) (Nat.lt_irrefl _)
        · exact absurd (Nat.lt_of_lt_of_le lb (young _ z)) (Nat.lt_irrefl _)
      have J := GxR.inv_tab (more := more) (h' := s'.heap) (g' := s'.gens) (d' := s'.drawn) (t' := s'.toks) I1 hP (fun b o n q => mv.heap b o (out b o q) (k5 b o (k3 b o n q))) (mv.heap P _ (out P _ oP) (k5 P _ hP3)) (AllBare.movedS (I1.bare.push bare) mv)
      rw [GxR.sh_eta s1 s' mv.os] at J
      exact ⟨_, ⟨⟨_, upd_same, ht3⟩, fun b n => upd_ne n⟩, J⟩
def tGenE (X : Cx) (P : Addr) (xa xb : Str) (sc : Scope) (elt : Expr) (fold : Nat → (Nat → Bool) → Bool) (ta : TA) : TE := fun σ H Q => ta σ H fun vs H1 => ∃ (a : Addr) (xs : List V) (tr : Nat → Bool) (Γ : List (Str × V)), vs = [.ref a] ∧ SqL X.K H1 a xs ∧ TabG H1 P ∧
  Seen X σ sc Γ ∧ (∀ j w, xs[j]? = some w → PU X sc H1 ([(xb, w), (xa, .int (j : Int))] ++ Γ) elt (.bl (tr j))) ∧ ∀ H2, Tabbed P H1 H2 → Q (.bl (fold xs.length tr)) H2
section
variable {c P : Addr} {elt e : Expr} {xa xb : Str} {pa pb pt ep np p pos gpos : Pos} {kt : Nat} {sc : Scope} {ta : TA} {k : Nat}
theorem pe_anyE (hr : Room k X.A) (hg : Gl X "any") (hm : X.mg "any" = none) (TB : TabB X.base X.mg c P) (hcode : X.env.code = .ref c) (S : Gsc X sc xa) (hb : sc.names.lookup xb = some .local) (hab : xa ≠ xb) (hge : Gl X "enumerate") (hme : X.mg "enumerate" = none)
    (hi : PA X [e] ta) (hst : starEach [e] X.env = [(false, eval e X.env)]) (hs : ∀ v, genFold (.Call (.Name "enumerate" np) [e] [] ep) X.env v = pure v)
    (he : starEach [.GeneratorExp elt [⟨.Tuple [.Name xa pa, .Name xb pb] kt pt, .Call (.Name "enumerate" np) [e] [] ep, [], 0⟩] sc gpos] X.env = (false, eval (.GeneratorExp elt [⟨.Tuple [.Name xa pa, .Name xb pb] kt pt, .Call (.Name "enumerate" np) [e] [] ep, [], 0⟩] sc gpos) X.env) :: starEach [] X.env := by rfl) :
    PE X (.Call (.Name "any" p) [.GeneratorExp elt [⟨.Tuple [.Name xa pa, .Name xb pb] kt pt, .Call (.Name "enumerate" np) [e] [] ep, [], 0⟩] sc gpos] [] pos) (tGenE X P xa xb sc elt anyTo ta) := by
  refine ⟨fun pins s σ H Q I h => wpAny_Call_Name_kw (ld_blt I hg hm boot_any (PyProof.Rows.callWith_builtin1 ?_ he (by rfl)))⟩
  rw [he]
  refine Calls.spliced_cons (gen_enum (R := fun n tr H1 => ∀ H2, Tabbed P H1 H2 → Q (.bl (anyTo n tr)) H2) hr TB hcode (S.gens I.ok) hb hab hge hme hi hst hs I h fun n tr H1 g s5 hR ⟨fp, wr, G, F, sq, W, h0, tt, aft⟩ => Calls.spliced_nil ?_)
  refine call_any_walkS (W.self 0 _ _ _ h0 ⟨g, fp, wr, G, _, F, sq, _, rfl, W, h0, tt, fun s' mv => ?_⟩)
  obtain ⟨H2, T, J⟩ := aft s' mv
  exact ⟨.bl _, H2, J, rfl, hR H2 T⟩
end
end
end LE
-- GT
/-! the law's own call under known guards, with the tables of the code objects that hold generator expressions -/
namespace LG
open PySem PySem.Spec PyProof.Rows L2
open GxR (TabB)
section
variable {P : Program} {w : World} {K : PySem.W.Frag} {mg mb : Str → Option Value} {k : Nat} {fa a : Addr} {fd : FuncData} {x : Str} {sp : Sp} {s₁ : Shared} {vs : List Value} {ns : List Int} {cs : List (Addr × Addr)}
/-- the abstract heap at the start: the script (if it is no written thing), the tables, nothing else -/
structure Begin (K : PySem.W.Frag) (cs : List (Addr × Addr)) (a : Addr) (H : Hp) : Prop where
  tab : ∀ p ∈ cs, H p.2 = some (.tbl #[])
  only : ∀ b u, H b = some u → (b ∈ cs.map (·.2) ∧ u = .tbl #[]) ∨ (b = a ∧ K.lookup a = none ∧ ∃ o xs, u = .frz o (.lst xs))
theorem enterT (KX : K.In s₁.heap) (gl : s₁.heap.Ns mainGlobals mg) (bl : s₁.heap.Ns builtinsNs mb) (bb : ∀ y : Str, y ≠ "__name__" → mb y = bootBuiltins y) (nl : s₁.heap.NoLimit) (g0 : s₁.gens = #[])
    (tb : ∀ p ∈ cs, s₁.heap.get? p.2 = some { cls := .none, data := .fields #[] }) (nk : ∀ p ∈ cs, K.lookup p.2 = none) (hd : ∀ p ∈ cs, PySem.W.CodeHd s₁.heap p.1 p.2)
    (bmn : ∃ (bm : Addr) (ob : Obj), mg "__builtins__" = some (.ref bm) ∧ bm ≠ builtinsNs ∧ s₁.heap.get? bm = some ob ∧ ob.cls = .type "module" ∧ ob.dict = some builtinsNs ∧ ob.data = .plain)
    (at_ : s₁.heap.get? a = some { cls := .type "list", data := .seq vs.toArray }) (room : Room k callerA) (bind : ∀ (s : Shared) (u : Value), BindsTo s fd ⟨[u], []⟩ [(x, u)])
    (F : ∀ base : Heap, K.In base → base.Ns mainGlobals mg → (∀ p ∈ cs, TabB base mg p.1 p.2) → FnG P w K mg base CX0 k fa fd [x] sp) {H : Hp} (bg : Begin K cs a H) (ok : HOk P w H s₁.heap)
    (want : sp [.ref a] H (fun v _ => v = .bl true) fun _ _ _ => False) :
    codeAny (model P w) callerA (.call (.ref fa) ⟨[.ref a], []⟩) (fun r s' => r = .ok (.ret (.bool true)) ∧ OldK s₁.heap s'.heap ∧ s'.os = s₁.os ∧ AllBare s'.gens) s₁ := by
  have tbm : ∀ b, b ∈ cs.map (·.2) → s₁.heap.get? b = some { cls := .none, data := .fields #[] } := fun b z => by
    obtain ⟨p, hp, rfl⟩ := List.mem_map.mp z
    exact tb p hp
  -- what is no list and no table is not told of
  have free : ∀ {b : Addr} {o : Obj}, s₁.heap.get? b = some o → (∀ it n, o.data ≠ .seq it n) → o.data ≠ .fields #[] → H b = none := fun {b o} z nd nf => by
    cases q : H b with
    | none => rfl
    | some u =>
      rcases bg.only b u q with ⟨m, _⟩ | ⟨rfl, _⟩
      · rw [tbm b m] at z
        cases z
        exact absurd rfl nf
      · rw [at_] at z
        cases z
        exact absurd rfl (nd vs.toArray _)
  have dic : ∀ {b : Addr} {o : Obj} {es : Array DictEntry} {ep : Nat}, s₁.heap.get? b = some o → o.data = .dict es ep → H b = none := fun {b o es ep} z d => free z (fun it n y => by rw [d] at y; exact nomatch y) fun y => by rw [d] at y; exact nomatch y
  have nsOf : ∀ {b : Addr} {m : Str → Option Value}, s₁.heap.Ns b m → (hidT s₁.heap H).Ns b m := fun {b m} ⟨o, es, ep, z, d, r⟩ => ⟨o, es, ep, hidT_get z (dic z d), d, r⟩
  have inB : K.In (hidT s₁.heap H) := fun b o z => by
    refine hidT_get (KX b o z) ?_
    cases q : H b with
    | none => rfl
    | some u =>
      rcases bg.only b u q with ⟨m, _⟩ | ⟨rfl, nl, _⟩
      · obtain ⟨p, hp, rfl⟩ := List.mem_map.mp m
        rw [nk p hp] at z
        cases z
      · rw [nl] at z
        cases z
  have md : Mod K mg (hidT s₁.heap H) := ⟨inB, nsOf gl, ⟨mb, nsOf bl, bb⟩, let ⟨mc, y1, y2⟩ := nl; ⟨mc, nsOf y1, y2⟩⟩
  have tabs : ∀ p ∈ cs, TabB (hidT s₁.heap H) mg p.1 p.2 := fun p hp => by
    have hP := tb p hp
    refine ⟨?_, ?_, fun z => ?_⟩
    · obtain ⟨o, us, f, tf, fl, tg, i, t, tt, z, c1, c2, c3, r⟩ := hd p hp
      refine ⟨o, us, f, tf, fl, tg, i, t, tt, hidT_get z (free z (fun it n y => by rw [c2] at y; exact nomatch y) fun y => ?_), c1, c2, c3, r⟩
      rw [c2] at y
      cases y
      simp at c3
    · obtain ⟨bm, ob, b1, b2, b3, b4, b5, b6⟩ := bmn
      refine ⟨bm, ob, b1, b2, fun z => ?_, fun z => ?_, hidT_get b3 (free b3 (fun it n y => by rw [b6] at y; exact nomatch y) fun y => by rw [b6] at y; exact nomatch y), b4, b5, b6⟩
      · obtain ⟨o, es, ep, e, d, _⟩ := gl
        rw [z, e] at b3
        cases b3
        rw [d] at b6
        exact nomatch b6
      · rw [z, hP] at b3
        cases b3
        exact nomatch b6
    · obtain ⟨o, es, ep, e, d, _⟩ := gl
      rw [z, hP] at e
      cases e
      exact nomatch d
  have en : Env0 P w K mg (hidT s₁.heap H) callerA [] s₁ H := ⟨rfl, md, fun b o z => of_hidT z, Nat.le_of_eq (hidT_size _ _), trivial, fun b z => absurd (show b ∈ ([] : List Addr) from z) (List.not_mem_nil), ok, .of_eq g0⟩
  refine codeAny_mono ((F _ inB (nsOf gl) tabs).run callerA [] s₁ H ⟨[.ref a], []⟩ [.ref a] [.ref a] _ _ room rfl en (bind s₁ (.ref a)) (.cons rfl .nil) want) fun r s' h => ?_
  cases r with
  | error e => exact False.elim h
  | ok fl =>
    cases fl with
    | next => exact False.elim h
    | brk => exact False.elim h
    | cont => exact False.elim h
    | ret u =>
      obtain ⟨v, G, e1, e2, un, okG, rel, q⟩ := h
      obtain rfl : v = V.bl true := q
      obtain rfl : u = Value.bool true := rel
      -- a table may have grown, all else stands
      have grow : ∀ p ∈ cs, ∃ more : Array Value, s'.heap.get? p.2 = some { cls := .none, data := .fields more } := fun p hp => by
        obtain ⟨more, z⟩ := un.tbls p.2 #[] (bg.tab p hp)
        exact ⟨_, okG p.2 _ z⟩
      have stay : ∀ b o, b ∉ cs.map (·.2) → s₁.heap.get? b = some o → s'.heap.get? b = some o := fun b o nb z => by
        cases q : H b with
        | none => exact un.keep b o z q (fun y => nomatch y) (fun y => nomatch y)
        | some u =>
          rcases bg.only b u q with ⟨m, _⟩ | ⟨_, _, ob, xs, rfl⟩
          · exact absurd m nb
          · have z1 := (ok b _ q).1
            have z2 := (okG b _ (un.frzs b ob _ q)).1
            rw [z] at z1
            cases z1
            exact z2
      refine ⟨rfl, ⟨fun b o z => ?_, fun b o z => ?_⟩, e1, e2⟩
      · by_cases m : b ∈ cs.map (·.2)
        · obtain ⟨p, hp, rfl⟩ := List.mem_map.mp m
          obtain ⟨more, hm⟩ := grow p hp
          rw [tb p hp] at z
          cases z
          exact .inr (.inl ⟨((hd p hp).tab (tb p hp)).isCodeTable, rfl, #[], more, rfl, by rw [Array.empty_append]; exact hm⟩)
        · exact .inl (stay b o m z)
      · by_cases m : b ∈ cs.map (·.2)
        · obtain ⟨p, hp, rfl⟩ := List.mem_map.mp m
          obtain ⟨more, hm⟩ := grow p hp
          exact ⟨_, hm⟩
        · exact ⟨o, stay b o m z⟩
theorem enterT_all (KX : K.In s₁.heap) (gl : s₁.heap.Ns mainGlobals mg) (bl : s₁.heap.Ns builtinsNs mb) (bb : ∀ y : Str, y ≠ "__name__" → mb y = bootBuiltins y) (nl : s₁.heap.NoLimit) (g0 : s₁.gens = #[])
    (tb : ∀ p ∈ cs, s₁.heap.get? p.2 = some { cls := .none, data := .fields #[] }) (nk : ∀ p ∈ cs, K.lookup p.2 = none) (hd : ∀ p ∈ cs, PySem.W.CodeHd s₁.heap p.1 p.2)
    (bmn : ∃ (bm : Addr) (ob : Obj), mg "__builtins__" = some (.ref bm) ∧ bm ≠ builtinsNs ∧ s₁.heap.get? bm = some ob ∧ ob.cls = .type "module" ∧ ob.dict = some builtinsNs ∧ ob.data = .plain)
    (at_ : s₁.heap.get? a = some { cls := .type "list", data := .seq vs.toArray }) (ia : IntsAre vs ns) (small : ns.length ≤ sizeLine) (room : Room k callerA) (bind : ∀ (s : Shared) (u : Value), BindsTo s fd ⟨[u], []⟩ [(x, u)])
    (F : ∀ base : Heap, K.In base → base.Ns mainGlobals mg → (∀ p ∈ cs, TabB base mg p.1 p.2) → FnG P w K mg base CX0 k fa fd [x] sp)
    (want : ∀ H : Hp, (∀ p ∈ cs, H p.2 = some (.tbl #[])) → SqL K H a (ns.map V.int) → sp [.ref a] H (fun v _ => v = .bl true) fun _ _ _ => False) :
    codeAny (model P w) callerA (.call (.ref fa) ⟨[.ref a], []⟩) (fun r s' => r = .ok (.ret (.bool true)) ∧ OldK s₁.heap s'.heap ∧ s'.os = s₁.os ∧ AllBare s'.gens) s₁ := by
  have rel := vals_ints ia
  have len := ia.length
  have tbm : ∀ b, b ∈ cs.map (·.2) → s₁.heap.get? b = some { cls := .none, data := .fields #[] } := fun b z => by
    obtain ⟨p, hp, rfl⟩ := List.mem_map.mp z
    exact tb p hp
  have an : a ∉ cs.map (·.2) := fun z => by
    have e := tbm a z
    rw [at_] at e
    exact nomatch congrArg Obj.data (Option.some.inj e)
  have mem : ∀ p ∈ cs, p.2 ∈ cs.map (·.2) := fun p hp => List.mem_map.mpr ⟨p, hp, rfl⟩
  cases hk : K.lookup a with
  | some o =>
    have z := KX a o hk
    rw [at_] at z
    cases z
    let H : Hp := fun b => if b ∈ cs.map (·.2) then some (.tbl #[]) else none
    have e1 : ∀ b, b ∈ cs.map (·.2) → H b = some (.tbl #[]) := fun b m => if_pos m
    have e2 : ∀ b u, H b = some u → b ∈ cs.map (·.2) ∧ u = .tbl #[] := fun b u z => by
      by_cases m : b ∈ cs.map (·.2)
      · rw [e1 b m] at z
        cases z
        exact ⟨m, rfl⟩
      · rw [show H b = none from if_neg m] at z
        cases z
    refine enterT KX gl bl bb nl g0 tb nk hd bmn at_ room bind F (H := H) ⟨fun p hp => e1 _ (mem p hp), fun b u z => .inl (e2 b u z)⟩ (fun b u z => ?_)
      (want H (fun p hp => e1 _ (mem p hp)) (.inr ⟨_, vs.toArray, _, hk, rfl, rfl, rfl, by rw [List.size_toArray, len]; exact small, by simpa using rel⟩))
    obtain ⟨m, rfl⟩ := e2 b u z
    exact tbm b m
  | none =>
    let ob : Obj := { cls := .type "list", data := .seq vs.toArray }
    let H : Hp := fun b => if b = a then some (.frz ob (.lst (ns.map V.int))) else if b ∈ cs.map (·.2) then some (.tbl #[]) else none
    have hit : H a = some (.frz ob (.lst (ns.map V.int))) := if_pos rfl
    have e1 : ∀ b, b ∈ cs.map (·.2) → H b = some (.tbl #[]) := fun b m => (if_neg (fun z => an (by rw [← z]; exact m))).trans (if_pos m)
    have e2 : ∀ b u, H b = some u → (b ∈ cs.map (·.2) ∧ u = .tbl #[]) ∨ (b = a ∧ u = .frz ob (.lst (ns.map V.int))) := fun b u z => by
      by_cases i : b = a
      · rw [i, hit] at z
        cases z
        exact .inr ⟨i, rfl⟩
      · by_cases m : b ∈ cs.map (·.2)
        · rw [e1 b m] at z
          cases z
          exact .inl ⟨m, rfl⟩
        · rw [show H b = none from (if_neg i).trans (if_neg m)] at z
          cases z
    refine enterT KX gl bl bb nl g0 tb nk hd bmn at_ room bind F (H := H) ⟨fun p hp => e1 _ (mem p hp), fun b u z => (e2 b u z).imp id fun ⟨i, e⟩ => ⟨i, hk, ob, _, e⟩⟩ (fun b u z => ?_) (want H (fun p hp => e1 _ (mem p hp)) (.inl (.inr ⟨ob, hit⟩)))
    rcases e2 b u z with ⟨m, rfl⟩ | ⟨rfl, rfl⟩
    · exact tbm b m
    · exact ⟨at_, by rw [List.length_map]; exact small, vs, _, rel, at_⟩
end
/-- a def of the text whose code object's table is empty at the law's start -/
def Bare (mg : Str → Option Value) (h : Heap) (nm : Str) : Prop := ∃ (a c P : Addr) (o : Obj) (fd : FuncData), mg nm = some (.ref a) ∧ h.get? a = some o ∧ o.data = .func fd ∧ fd.code = .ref c ∧ PySem.W.CodeHd h c P ∧ h.get? P = some { cls := .none, data := .fields #[] }
/-- what k_head leaves, from the law's promise; nms: the defs that hold generator expressions -/
theorem walkGT {l : PySem.W.OpenLaw} {n k : Nat} {q : Program} {loose : List Str} {XP : (Str → Option Value) → Heap → Prop} {YP : World → Heap → Prop} {d : DefRec} {K : Params → PySem.W.Frag} {x : Str} (nms : List Str)
    (hn : l.most = some n) (hz : n ≤ sizeLine) (hdf : d.params.defaults = []) (room : Room k callerA) (hrec : (nms.all fun nm => (recsOf q).any fun e => e.name == nm) = true) (hY : ∀ (w : World) (h : Heap), YP w h → (K w.params).In h)
    (F : ∀ (w : World) (mg : Str → Option Value) (fa : Addr) (h : Heap), (K w.params).In h → h.Ns mainGlobals mg → mg d.name = some (.ref fa) → (∀ nm ∈ nms, Bare mg h nm) →
      ∃ (fd : FuncData) (cs : List (Addr × Addr)) (sp : Sp), (∀ p ∈ cs, h.get? p.2 = some { cls := .none, data := .fields #[] }) ∧ (∀ p ∈ cs, (K w.params).lookup p.2 = none) ∧ (∀ p ∈ cs, PySem.W.CodeHd h p.1 p.2) ∧ (∀ (s : Shared) (u : Value), BindsTo s fd ⟨[u], []⟩ [(x, u)]) ∧
        (∀ (H : Hp) (a : Addr) (ns : List Int), ns.length ≤ n → (∀ p ∈ cs, H p.2 = some (.tbl #[])) → SqL (K w.params) H a (ns.map V.int) → sp [.ref a] H (fun v _ => v = .bl true) fun _ _ _ => False) ∧
        ∀ base : Heap, (K w.params).In base → base.Ns mainGlobals mg → (∀ p ∈ cs, TabB base mg p.1 p.2) → FnG l.prog w (K w.params) mg base CX0 k fa fd [x] sp) :
    PySem.W.WalkO q loose XP YP l.row.toRowW d [] (fun f vs => PySem.call f vs) := by
  refine Att.attach_call hn hdf fun w s0 s1 mg mb fa o pm cd doc a vs ns G Y ho hd hcd hmg hobj ia len g0 => ?_
  obtain ⟨fd, cs, sp, t1, t2, t3, bi, wt, FF⟩ := F w mg fa _ (hY w _ Y) G.T.g hmg fun nm hnm => by
    obtain ⟨e, he, en⟩ := List.any_eq_true.mp (List.all_eq_true.mp hrec nm hnm)
    obtain ⟨b, o2, fd2, c2, P2, h1, h2, h3, h4, h5, h6⟩ := G.T.tab e he
    rw [beq_iff_eq.mp en] at h1
    exact ⟨b, c2, P2, o2, fd2, h1, h2, h3, h4, PySem.W.CodeHd.of h5 h6, h6.2⟩
  exact enterT_all (hY w _ Y) G.T.g G.T.b G.T.builtins G.T.nolimit g0 t1 t2 t3 G.T.bmain hobj ia (Nat.le_trans len hz) room bi FF fun H ht hs => wt H a ns len ht hs
end LG
-- SL
/-! sum(a list of lists, a list); set(a list of ints) -/
namespace LM
open PySem PySem.Spec PyProof.Rows L2
section
variable {prog : Program} {w : World} {A : Around} {R : Result → Shared → Prop}
abbrev lob (xs : Array Value) (n : Nat) : Obj := { cls := .type "list", dict := none, data := .seq xs n, slots := #[] }
/-- what stands while the lists are put together: h0 is the heap ahead, acc holds what is put together -/
structure Mid (h0 : Heap) (I S l : Addr) (items : Array Value) (i : Nat) (acc : Addr) (p : Array Value) (m : Nat) (h : Heap) : Prop where
  keep : ∀ b o, h0.get? b = some o → h.get? b = some o
  it : h.IsListIter I l i
  st : ∃ c, h.get? S = some (lob #[.ref acc] c)
  ac : h.get? acc = some (lob p m)
  aI : acc ≠ I
  aS : acc ≠ S
theorem loop (hh : A.handled = none) {b0 : Addr} {h0 : Heap} {I S l : Addr} {items : Array Value} {c : Nat → Addr} {ys : Nat → Array Value} {nn : Nat → Nat} {pre : Nat → Array Value} (hl : h0.IsList l items) (lI : l ≠ I) (gI : h0.objs.size ≤ I) (nI : h0.get? I = none) (nS : h0.get? S = none) (IS : I ≠ S)
    (hi : ∀ j, j < items.size → items[j]? = some (.ref (c j)) ∧ h0.get? (c j) = some (lob (ys j) (nn j))) (hp : ∀ j, j < items.size → pre (j + 1) = pre j ++ ys j) (hz : ∀ j, j ≤ items.size → (pre j).size ≤ sizeLine) :
    ∀ (k i : Nat) (s : Shared) (acc : Addr) (m : Nat), items.size - i = k → i ≤ items.size → Mid h0 I S l items i acc (pre i) m s.heap → (i = 0 ∧ acc = b0) ∨ h0.objs.size ≤ acc →
      (∀ h' tk acc' m', (∀ b o, h0.get? b = some o → h'.get? b = some o) → h'.get? acc' = some (lob (pre items.size) m') → (items.size = 0 ∧ acc' = b0) ∨ h0.objs.size ≤ acc' → R (.ok (.ret (.ref acc'))) { s with heap := h', toks := tk }) →
      codeAny (model prog w) A (.builtin "sum.loop" ⟨[.ref I, .ref S, rawInt 2, rawInt 0], []⟩) R s := by
  have ne0 : ∀ {b : Addr} {o : Obj} {x : Addr}, h0.get? b = some o → h0.get? x = none → b ≠ x := fun e n z => by
    rw [z, n] at e
    cases e
  intro k
  induction k with
  | zero =>
    intro i s acc m hk hle M fr hR
    obtain rfl : i = items.size := by omega
    obtain ⟨cc, hS⟩ := M.st
    refine codeAny_builtin F.entry_sum_loop ?_; rw [Around.under_plainId F.plain_sum_loop _]
    show wpAny _ A.in1 (seqItems? (.ref S) >>= _) _ _ s; refine wpAny_bind (wpAny_seqItems hS rfl ?_)
    show wpAny _ A.in1 (tryCatch (pyNext (.ref I)) _ >>= _) _ _ s; refine wpAny_bind (wpAny_tryCatch ((Walks.list (A := A.in1) hh I l lI items).done s _ _ ⟨M.it, hl.at fun o e => M.keep _ o e⟩ fun h' tk kk => ?_))
    exact wpAny_pure (hR h' tk acc m (fun b o e => kk b o (fun z => ne0 e nI (List.mem_singleton.mp z)) (M.keep b o e)) (kk _ _ (fun z => M.aI (List.mem_singleton.mp z)) M.ac) fr)
  | succ k ih =>
    intro i s acc m hk hle M fr hR
    have hlt : i < items.size := by omega
    obtain ⟨cc, hS⟩ := M.st
    refine codeAny_builtin F.entry_sum_loop ?_; rw [Around.under_plainId F.plain_sum_loop _]
    show wpAny _ A.in1 (seqItems? (.ref S) >>= _) _ _ s; refine wpAny_bind (wpAny_seqItems hS rfl ?_)
    show wpAny _ A.in1 (tryCatch (pyNext (.ref I)) _ >>= _) _ _ s
    refine wpAny_bind (wpAny_tryCatch ((Walks.list (A := A.in1) hh I l lI items).item i s _ _ hlt ⟨M.it, hl.at fun o e => M.keep _ o e⟩ fun v h1 tk1 hv st1 kk => ?_))
    obtain ⟨e1, e2⟩ := hi i hlt
    rw [e1] at hv
    cases hv
    have sub : ∀ {b : Addr}, b ≠ I → b ∉ [I] := fun n z => n (List.mem_singleton.mp z)
    have k1 : ∀ b o, h0.get? b = some o → h1.get? b = some o := fun b o e => kk b o (sub (ne0 e nI)) (M.keep b o e)
    have S1 := kk S _ (sub (Ne.symm IS)) hS
    have A1 := kk acc _ (sub M.aI) M.ac
    have lt : ∀ {b : Addr} {o : Obj}, h1.get? b = some o → b ≠ h1.objs.size := fun e => Nat.ne_of_lt (Heap.lt_size e)
    show wpAny _ A.in1 ((holding [Value.ref (c i)] (binaryOp .Add (.ref acc) (.ref (c i)))).attempt >>= _) _ _ _
    refine wpAny_bind (wpAny_attempt (wpAny_holding (PySem.P.add_list A1 (k1 _ _ e2) ?_ (by have := hz (i + 1) hlt; rw [hp i hlt, Array.size_append] at this; exact this))))
    -- the new list takes the elder one's place
    have S2 : (h1.push (lob (pre i ++ ys i) 0)).get? S = some (lob #[.ref acc] cc) := Heap.get?_push_of_some _ S1
    show wpAny _ A.in1 (updateSeq S (fun _ => #[Value.ref h1.objs.size]) >>= _) _ _ _; refine wpAny_bind (wpAny_updateSeq S2 rfl ?_)
    have S3 := Heap.get?_update_self (Obj.mapSeq fun _ => #[Value.ref h1.objs.size]) S2 rfl
    refine wpAny_bind (wpAny_letGo ?_); refine wpAny_bind (wpAny_updateSeq S3 rfl ?_)
    have S4 := Heap.get?_update_self (Obj.mapSeq fun _ => #[Value.ref h1.objs.size]) S3 rfl
    have k4 : ∀ b o, b ≠ S → h1.get? b = some o → (((h1.push (lob (pre i ++ ys i) 0)).update S (Obj.mapSeq fun _ => #[Value.ref h1.objs.size])).update S (Obj.mapSeq fun _ => #[Value.ref h1.objs.size])).get? b = some o := fun b o n e =>
      (Heap.get?_update_other _ _ (Ne.symm n)).trans ((Heap.get?_update_other _ _ (Ne.symm n)).trans (Heap.get?_push_of_some _ e))
    have aS : h1.objs.size ≠ S := fun z => lt S1 z.symm
    have aI : h1.objs.size ≠ I := fun z => by
      obtain ⟨o, e, _⟩ := st1.1
      exact lt e z.symm
    refine wpAny_pure ⟨plainId_quiet F.plain_sum_loop _, ih (i + 1) _ h1.objs.size 0 (by omega) hlt ⟨fun b o e => k4 b o (ne0 e nS) (k1 b o e), st1.1.at fun o e => k4 I o IS e, ⟨_, S4⟩, ?_, aI, aS⟩ (.inr ?_) fun h' tk acc' m' q1 q2 q3 => hR h' tk acc' m' q1 q2 q3⟩
    rotate_left
    · obtain ⟨o, e, _⟩ := st1.1
      exact Nat.le_of_lt (Nat.lt_of_le_of_lt gI (Heap.lt_size e))
    rw [hp i hlt]
    exact (Heap.get?_update_other _ _ (Ne.symm aS)).trans ((Heap.get?_update_other _ _ (Ne.symm aS)).trans (Heap.get?_push_size _ rfl))
theorem args2 (a b : Value) : argsOk "sum" ⟨[a, b], []⟩ := by unfold argsOk; kernel_rfl
theorem sum_lists {E : Value → Shared → Prop} {Q : Value → Shared → Prop} {s : Shared} (hh : A.handled = none) {l b : Addr} {items bs : Array Value} {nb : Nat} {c : Nat → Addr} {ys : Nat → Array Value} {nn : Nat → Nat} {pre : Nat → Array Value} (hl : s.heap.IsList l items) (hb : s.heap.get? b = some (lob bs nb))
    (hi : ∀ j, j < items.size → items[j]? = some (.ref (c j)) ∧ s.heap.get? (c j) = some (lob (ys j) (nn j))) (h0 : pre 0 = bs) (hp : ∀ j, j < items.size → pre (j + 1) = pre j ++ ys j) (hz : ∀ j, j ≤ items.size → (pre j).size ≤ sizeLine)
    (hQ : ∀ h' tk acc m, (∀ b o, s.heap.get? b = some o → h'.get? b = some o) → h'.get? acc = some (lob (pre items.size) m) → (items.size = 0 ∧ acc = b) ∨ s.heap.objs.size ≤ acc → Q (.ref acc) { s with heap := h', toks := tk }) :
    wpAny (model prog w) A (call (.builtin "sum") [.ref l, .ref b]) Q E s := by
  refine call_function_tree F.kind_sum F.plain_sum F.entry_sum (args2 _ _) ?_
  unfold Builtin.«sum»
  simp only [List.length_cons, List.length_nil]; rw [if_neg (by decide)]
  refine wpAny_bind (wpAny_of_eq (show Builtin.Builtins.bindParams "sum" ["start"] 0 ⟨[.ref b], []⟩ = pure [some (.ref b)] from rfl) ?_)
  refine wpAny_bind (wpAny_pyIter_list hl ?_)
  refine wpAny_bind (wpAny_pure ?_)
  have ob : (s.heap.push { cls := .type "list_iterator", data := .fields #[.ref l, .int 0 0] }).get? b = some (lob bs nb) := Heap.get?_push_of_some _ hb
  have ty : Shared.TypeIs { s with heap := s.heap.push { cls := .type "list_iterator", data := .fields #[.ref l, .int 0 0] } } (.ref b) "list" := ⟨_, ob, rfl⟩
  simp only [List.forIn_cons, List.forIn_nil]
  refine wpAny_bind (wpAny_bind (wpAny_bind (wpAny_isInstance (T := "list") (b := false) ty F.sub_list_str ?_))); simp only [Bool.false_eq_true, if_false]
  refine wpAny_pure (wpAny_bind (wpAny_bind (wpAny_isInstance (T := "list") (b := false) ty F.sub_list_bytes ?_))); simp only [Bool.false_eq_true, if_false]
  refine wpAny_pure (wpAny_bind (wpAny_bind (wpAny_isInstance (T := "list") (b := false) ty (by rw [isSubtype_type]; kernel_rfl) ?_))); simp only [Bool.false_eq_true, if_false]
  refine wpAny_pure (wpAny_pure ?_)
  refine wpAny_bind (wpAny_newObj_type ?_)
  have hsz : (s.heap.push { cls := .type "list_iterator", data := .fields #[.ref l, .int 0 0] }).objs.size = s.heap.objs.size + 1 := Heap.size_push ..
  have non : ∀ x, s.heap.objs.size ≤ x → s.heap.get? x = none := fun x hx => by
    cases e : s.heap.get? x with
    | none => rfl
    | some o => exact absurd (Nat.lt_of_lt_of_le (Heap.lt_size e) hx) (Nat.lt_irrefl _)
  have ll : l < s.heap.objs.size := by
    obtain ⟨o, e, _⟩ := hl
    exact Heap.lt_size e
  refine wpAny_pure ⟨plainId_quiet F.plain_sum_loop _, loop (R := _) (b0 := b) (h0 := s.heap) (I := s.heap.objs.size) (c := c) (ys := ys) (nn := nn) (pre := pre) hh hl (Nat.ne_of_lt ll) (Nat.le_refl _) (non _ (Nat.le_refl _)) (non _ (by show s.heap.objs.size ≤ _; rw [hsz]; exact Nat.le_succ _)) (by show s.heap.objs.size ≠ _; rw [hsz]; exact Nat.ne_of_lt (Nat.lt_succ_self _)) hi hp hz
    items.size 0 _ b nb (Nat.sub_zero _) (Nat.zero_le _) ⟨fun x o e => Heap.get?_push_of_some _ (Heap.get?_push_of_some _ e), ⟨_, Heap.get?_push_of_some _ (Heap.get?_push_size _ rfl), rfl, rfl⟩, ⟨0, Heap.get?_push_size _ rfl⟩, ?_, ?_, ?_⟩ (.inl ⟨rfl, rfl⟩) fun h' tk acc m q1 q2 q3 => hQ h' tk acc m q1 q2 q3⟩
  · rw [h0]
    exact Heap.get?_push_of_some _ ob
  · exact Nat.ne_of_lt (Heap.lt_size hb)
  · show b ≠ _
    rw [hsz]
    exact Nat.ne_of_lt (Nat.lt_succ_of_lt (Heap.lt_size hb))
end
section
variable {X : Cx}
/-- the lists of xs, one behind the other -/
def Lists (H : Hp) (xs : List V) (yss : List (List V)) : Prop := xs.length = yss.length ∧ ∀ (j : Nat) (zs : List V), yss[j]? = some zs → ∃ c : Addr, xs[j]? = some (V.ref c) ∧ H c = some (.lst zs)
def preA (b : Array Value) (ys : Nat → Array Value) : Nat → Array Value
  | 0 => b
  | j + 1 => preA b ys j ++ ys j
theorem vals_pre {bs : List V} {b : Array Value} {ys : Nat → Array Value} {yss : List (List V)} (hb : Vals bs b.toList) (h : ∀ j zs, yss[j]? = some zs → Vals zs (ys j).toList) : ∀ j, j ≤ yss.length → Vals (bs ++ (yss.take j).flatten) (preA b ys j).toList
  | 0, _ => by
    rw [List.take_zero, List.flatten_nil, List.append_nil]
    exact hb
  | j + 1, hj => by
    obtain ⟨zs, e⟩ : ∃ zs, yss[j]? = some zs := ⟨yss[j], List.getElem?_eq_getElem hj⟩
    rw [List.take_add_one, e]
    show Vals (bs ++ (yss.take j ++ [zs]).flatten) (preA b ys j ++ ys j).toList
    rw [List.flatten_append, ← List.append_assoc, Array.toList_append]
    refine (vals_pre hb h j (by omega)).append ?_
    rw [show [zs].flatten = zs by simp]
    exact h j zs e
theorem cr_sumL (hc : X.calm = true) : CallR X (.builtin "sum") (fun vs H Q => ∃ (a b : Addr) (xs bs : List V) (yss : List (List V)), vs = [.ref a, .ref b] ∧ SqL X.K H a xs ∧ H b = some (.lst bs) ∧ Lists H xs yss ∧ bs.length + yss.flatten.length ≤ sizeLine ∧
    (xs = [] → Q (.ref b) H) ∧ ∀ p, H p = none → Q (.ref p) (upd H p (.lst (bs ++ yss.flatten)))) := by
  intro pins s σ H vs us Q I r h
  obtain ⟨a, b, xs, bs, yss, rfl, ha, hb, ⟨ln, hL⟩, hz, q0, q1⟩ := h
  obtain ⟨u, v, rfl, e1, e2⟩ := vals2 r
  cases (show u = Value.ref a from e1)
  cases (show v = Value.ref b from e2)
  obtain ⟨its, rv, pl, _⟩ := I.list ha
  obtain ⟨_, bits, nb, rb, lb, eb⟩ := I.lstM hb
  have nlen := rv.length
  -- the items' lists as they stand
  have ex : ∀ j : Nat, ∃ p : Addr × Array Value × Nat, ∀ zs : List V, yss[j]? = some zs → xs[j]? = some (.ref p.1) ∧ Vals zs p.2.1.toList ∧ zs.length = p.2.1.size ∧ s.heap.get? p.1 = some (lob p.2.1 p.2.2) := fun j => by
    cases e : yss[j]? with
    | none => exact ⟨(0, #[], 0), fun zs z => nomatch z⟩
    | some zs =>
      obtain ⟨c, hx, hc⟩ := hL j zs e
      obtain ⟨_, zi, n, rz, lz, ez⟩ := I.lstM hc
      exact ⟨(c, zi.toArray, n), fun z2 q => by cases q; exact ⟨hx, rz, by rw [List.size_toArray]; exact lz, ez⟩⟩
  let f := fun j => Classical.choose (ex j)
  have hf : ∀ (j : Nat) (zs : List V), yss[j]? = some zs → xs[j]? = some (.ref (f j).1) ∧ Vals zs (f j).2.1.toList ∧ zs.length = (f j).2.1.size ∧ s.heap.get? (f j).1 = some (lob (f j).2.1 (f j).2.2) := fun j => Classical.choose_spec (ex j)
  have sz : its.toArray.size = yss.length := by rw [List.size_toArray, ← nlen, ln]
  have vp := vals_pre (b := bits.toArray) (ys := fun j => (f j).2.1) (yss := yss) rb fun j zs e => (hf j zs e).2.1
  have pz : ∀ j, j ≤ its.toArray.size → (preA bits.toArray (fun j => (f j).2.1) j).size ≤ sizeLine := fun j hj => by
    have l := (vp j (by omega)).length
    rw [List.length_append] at l
    have e3 : (preA bits.toArray (fun j => (f j).2.1) j).toList.length = (preA bits.toArray (fun j => (f j).2.1) j).size := Array.length_toList
    have : (yss.take j).flatten.length ≤ yss.flatten.length := by
      have e := congrArg (fun l : List (List V) => l.flatten.length) (List.take_append_drop j yss)
      simp only [List.flatten_append, List.length_append] at e
      omega
    omega
  refine sum_lists (c := fun j => (f j).1) (ys := fun j => (f j).2.1) (nn := fun j => (f j).2.2) (pre := preA bits.toArray fun j => (f j).2.1) (I.ok.hd hc) pl.isList eb (fun j hj => ?_) rfl (fun j _ => rfl) pz fun h' tk acc m keep at_ fr => ?_
  · obtain ⟨zs, e⟩ : ∃ zs, yss[j]? = some zs := ⟨yss[j]'(by omega), List.getElem?_eq_getElem (by omega)⟩
    obtain ⟨hx, _, _, hg⟩ := hf j zs e
    obtain ⟨y, ey, ry⟩ := rv.get hx
    cases (show y = Value.ref (f j).1 from ry)
    exact ⟨by simpa using ey, hg⟩
  · rcases fr with ⟨z, rfl⟩ | z
    · have : xs = [] := List.length_eq_zero_iff.mp (by rw [nlen]; simpa using z)
      exact ⟨.ref acc, H, I.kept (t' := tk) keep, rfl, q0 this⟩
    · have vals := vp yss.length (Nat.le_refl _)
      rw [List.take_length] at vals
      have at2 : h'.get? acc = some (lob (preA bits.toArray (fun j => (f j).2.1) yss.length) m) := by rw [← sz]; exact at_
      have J := I.laid (t' := tk) (o := .lst (bs ++ yss.flatten)) keep z ⟨by rw [List.length_append]; exact hz, _, m, vals, at2⟩
      exact ⟨.ref acc, _, J, rfl, q1 acc (I.hok.fresh z)⟩
/-- set(a list of whole numbers): nothing else is in it -/
theorem call_setL (hc : X.calm = true) : CallR X (.type "set") (fun vs H Q => ∃ (a : Addr) (ns : List Int), vs = [.ref a] ∧ SqL X.K H a (ns.map V.int) ∧ ns.length ≤ 40 ∧ ∀ p S n, H p = none → (∀ k, S k = true → k ∈ ns) → n ≤ ns.length → Q (.ref p) (upd H p (.set S n))) := by
  intro pins s σ H vs us Q I r h
  obtain ⟨a, ns, rfl, ha, hz, q⟩ := h
  obtain ⟨u, rfl, e1⟩ := vals1 r
  cases (show u = Value.ref a from e1)
  obtain ⟨its, rv, pl, _⟩ := I.list ha
  have il := rv.length
  rw [List.length_map] at il
  refine call_set_list (ns := ns) (I.ok.hd hc) pl.isList (by simpa using rv.ints) (by rw [List.size_toArray]; exact Nat.lt_of_le_of_lt (by omega) (by decide : 41 < scanBound)) fun h' tk hs keep => ?_
  have eN : its.toArray.size = ns.length := by rw [List.size_toArray, il]
  rw [eN] at hs
  have J := I.laid (t' := tk) (a := s.heap.objs.size) (o := .set _ _) (fun b o e => keep b o (Heap.lt_size e) e) (Nat.le_refl _) hs
  refine ⟨.ref s.heap.objs.size, _, J, rfl, q _ _ _ (I.hok.fresh (Nat.le_refl _)) (fun k hk => ?_) (firstMet_length_le _ _)⟩
  have hk : (firstMet (fun i => ns.getD i 0) ns.length).any (· == k) = true := hk
  rw [firstMet_any, List.any_map, List.any_eq_true] at hk
  obtain ⟨j, hj, e⟩ := hk
  have hj := List.mem_range.mp hj
  have e2 : ns.getD j 0 = k := by simpa using e
  rw [← e2, List.getD_eq_getElem?_getD, List.getElem?_eq_getElem hj]
  exact List.getElem_mem hj
end
end LM
-- SR
/-! set(a list of whole numbers), made so that it may be gone through in its order -/
namespace LM
open PySem PySem.Spec PyProof.Rows L2
section
variable {P : Program} {w : World} {A : Around} {E : Value → Shared → Prop}
/-- turn by turn -/
theorem fill_turns {R : Result → Shared → Prop} {it D : Addr} {fp wr : List Addr} {G : Array GenState → Array GenState → Prop} {ns : List Int} {n : Nat} {Pv : Nat → Value → Prop} {St : Nat → Shared → Prop}
    (W : WalksS P w A.in1 it fp wr G n Pv St) (hn : n = ns.length) (val : ∀ i v, Pv i v → ∃ t, v = .int (ns.getD i 0) t) (off : D ∉ fp) (room : ns.length + 1 < scanBound) :
    ∀ (left i : Nat) (u : Shared), ns.length = i + left → St i u → (∃ S m, SetR w u.heap D S m ∧ (∀ k, S k = true → k ∈ ns) ∧ m ≤ i) →
      (∀ u' S m, Moved (D :: wr) G u u' → SetR w u'.heap D S m → (∀ k, S k = true → k ∈ ns) → m ≤ ns.length → R (.ok (.ret .none)) u') →
      codeAny (model P w) A (.builtin "set.update.loop" ⟨[.ref D, .ref it], []⟩) R u := by
  subst hn
  have offw : D ∉ wr := fun z => off (W.sub _ z)
  have more : ∀ b ∈ wr, b ∈ D :: wr := fun b z => List.mem_cons_of_mem _ z
  intro left
  induction left with
  | zero =>
    intro i u el st ⟨S, m, sr, hS, hm⟩ fin
    obtain rfl : i = ns.length := by omega
    refine codeAny_builtin F.entry_set_update_loop ?_
    rw [Around.under_plainId F.plain_set_update_loop _]
    show wpAny _ A.in1 (pyNext (.ref it) >>= _) _ _ u
    refine wpAny_bind (W.done u _ _ st fun u' mv => ?_)
    show wpAny _ A.in1 (ret Value.none) _ _ u'
    exact wpAny_pure (fin u' S m (mv.mono more) (sr.at fun o e => mv.heap D o offw e) hS hm)
  | succ left ih =>
    intro i u el st ⟨S, m, sr, hS, hm⟩ fin
    refine codeAny_builtin F.entry_set_update_loop ?_
    rw [Around.under_plainId F.plain_set_update_loop _]
    show wpAny _ A.in1 (pyNext (.ref it) >>= _) _ _ u
    refine wpAny_bind (W.item i u _ _ (by omega) st fun v u1 hv st1 mv => ?_)
    obtain ⟨t, rfl⟩ := val i v hv
    have sr1 : SetR w u1.heap D S m := sr.at fun o e => mv.heap D o offw e
    show wpAny _ A.in1 (holding [Value.int (ns.getD i 0) t] (setAdd D (.int (ns.getD i 0) t)) >>= _) _ _ u1
    refine wpAny_bind (wpAny_holding ?_)
    unfold setAdd
    refine wpAny_holding (wpAny_bind ((intKind P w).pyHash (k := ns.getD i 0) (intKind_is _ _ _ _) ?_))
    refine setR_add_hashed (s := { u1 with toks := u1.toks + 1 }) sr1 (by omega) fun h2 sb sr2 => ?_
    have inn : ns.getD i 0 ∈ ns := by
      rw [List.getD_eq_getElem?_getD, List.getElem?_eq_getElem (by omega)]
      exact List.getElem_mem _
    refine wpAny_pure ⟨plainId_quiet F.plain_set_update_loop _, ih (i + 1) _ (by omega) (W.frame _ u1 _ _ st1 (Nat.le_succ _) fun b hb o e => ?_) ⟨_, _, sr2, fun k hk => ?_, ?_⟩ fun u3 S3 m3 mv3 sr3 hS3 hm3 => ?_⟩
    · rw [sb.2 b fun z : b = D => off (by rw [← z]; exact hb)]
      exact e
    · rcases Bool.or_eq_true _ _ |>.mp hk with z | z
      · exact hS k z
      · rw [of_decide_eq_true z]
        exact inn
    · split <;> omega
    · refine fin u3 S3 m3 (Moved.trans W.gtrans ((mv.mono more).then_heap (Nat.le_succ _) fun b o hb e => ?_) mv3) sr3 hS3 hm3
      rw [sb.2 b fun z : b = D => hb (by rw [z]; exact List.mem_cons_self)]
      exact e
theorem made_led (a : Value) {u : Shared} {Q1 : Value → Shared → Prop}
    (go : Q1 (.ref u.heap.objs.size) { u with heap := u.heap.push { cls := .type "set", dict := none, data := .set #[] 0 (.fresh 0 0 (!w.params.followText "set-order")) } }) :
    codeAny (model P w) A (.call (.builtin "set.__new__") ⟨[.type "set", a], []⟩) (wants Q1 E) u := by
  refine codeAny_of_tree (show wpAny _ A.in1 (do checkBuiltinCall "set.__new__" ⟨[.type "set", a], []⟩; again (.builtin "set.__new__" ⟨[.type "set", a], []⟩)) _ _ u from ?_)
  refine wpAny_bind (wpAny_of_eq (F.newCall_set_1 a) (wpAny_pure ⟨plainId_quiet F.plain_set_new _, codeAny_builtin F.entry_set_new ?_⟩))
  rw [Around.under_plainId F.plain_set_new _]
  unfold Builtin.«set.__new__» Builtin.Frozenset.newClass
  have selfsub := sub_set_self
  obtain ⟨x1, x2, x3, x4, x5⟩ := u
  dsimp only
  wp_walk
  refine wpAny_askSetting (wpAny_pure ?_)
  dsimp only
  simp only [newObj]
  exact wpAny_bind (wpAny_alloc (wpAny_pure (wpAny_pure go)))
theorem set_ints {u : Shared} {l : Addr} {its : Array Value} {ns : List Int} {Q : Value → Shared → Prop} (calm : A.handled = none) (hl : u.heap.IsList l its) (hin : IntsAre its.toList ns) (room : ns.length + 1 < scanBound)
    (go : ∀ (h2 : Heap) (tk : Nat) (S : Int → Bool) (m : Nat), SetR w h2 u.heap.objs.size S m → (∀ k, S k = true → k ∈ ns) → m ≤ ns.length → (∀ b o, b < u.heap.objs.size → u.heap.get? b = some o → h2.get? b = some o) → Q (.ref u.heap.objs.size) { u with heap := h2, toks := tk }) :
    wpAny (model P w) A (call (.type "set") [.ref l]) Q E u := by
  obtain ⟨cc, tt, mro_is⟩ := F.called_set.mro
  have made_is := F.called_set.made
  have sub_is := F.called_set.sub
  have sz : its.size = ns.length := by
    have := hin.length
    simpa using this
  refine wpAny_call (codeAny_of_tree (show wpAny _ _ (callAny (.type "set") _) _ _ _ from ?_))
  refine wpAny_pure ⟨Code.quiet_builtin _ (by decide +kernel), codeAny_builtin F.entry_type_call ?_⟩
  rw [Around.under_plain (weight_type_call_type "set" [.ref l] []) rfl]
  have c1 := F.called_set.notType
  have c2 := F.called_set.canCreate
  have c3 := F.typeCall_set_1 (.ref l)
  repeat (any_goals (first | assumption | wp_step))
  refine codeAny_mono (made_led (E := E) (.ref l) (Q1 := fun x u1 => x = .ref u.heap.objs.size ∧ u1 = { u with heap := u.heap.push { cls := .type "set", dict := none, data := .set #[] 0 (.fresh 0 0 (!w.params.followText "set-order")) } }) ⟨rfl, rfl⟩) fun r1 u1 h1 => ?_
  cases r1 with
  | error e => exact h1
  | ok fl =>
    cases fl with
    | ret x =>
      obtain ⟨rfl, rfl⟩ := h1
      have sr0 : SetR w (u.heap.push { cls := .type "set", dict := none, data := .set #[] 0 (.fresh 0 0 (!w.params.followText "set-order")) }) u.heap.objs.size (fun _ => false) 0 := setR_fresh w
      have ty0 : Shared.TypeIs { u with heap := u.heap.push { cls := .type "set", dict := none, data := .set #[] 0 (.fresh 0 0 (!w.params.followText "set-order")) } } (.ref u.heap.objs.size) "set" := ⟨_, Heap.get?_push_size _ rfl, rfl⟩
      generalize hob : ({ cls := .type "set", dict := none, data := .set #[] 0 (.fresh 0 0 (!w.params.followText "set-order")) } : Obj) = ob at sr0 ty0
      have getS : (u.heap.push ob).get? u.heap.objs.size = some { cls := .type "set", dict := none, data := .set #[] 0 (.fresh 0 0 (!w.params.followText "set-order")) } := by
        rw [hob]
        exact Heap.get?_push_size _ (by rw [← hob]; rfl)
      have i1 := F.called_set.init.lookup
      have i2 := F.called_set.init.bind (.ref u.heap.objs.size)
      repeat (any_goals (first | assumption | wp_step))
      refine codeAny_mono (codeAny_call_builtin (R := wants (fun y u2 => y = .none ∧ ∃ h2 tk S m, u2 = { u with heap := h2, toks := tk } ∧ SetR w h2 u.heap.objs.size S m ∧ (∀ k, S k = true → k ∈ ns) ∧ m ≤ ns.length ∧
          (∀ b o, b < u.heap.objs.size → u.heap.get? b = some o → h2.get? b = some o)) E) F.called_set.init.plain F.entry_set_init (check_set_init_1 ty0 ?_)) fun r2 u2 h2 => ?_
      · have hl1 : (u.heap.push ob).IsList l its := hl.push _
        obtain ⟨o1, at1, cl1, n1, da1⟩ := hl1
        obtain ⟨ocl, odi, oda, osl⟩ := o1
        simp only at cl1 da1
        subst cl1
        subst da1
        have s1 := F.sub_list_set
        have s2 := F.sub_list_frozenset
        have s3 : (Value.type "list" == Value.type "dict") = false := by decide
        have hl2 : (u.heap.push ob).IsList l its := hl.push _
        unfold Builtin.«set.__init__» noKeywords Builtin.Frozenset.updateFrom
        generalize hgen : pyIter = gen
        wp_walk
        subst hgen
        refine wpAny_pyIter_list hl2 ?_
        refine wpAny_bind (wpAny_runValue ?_)
        have below : l < u.heap.objs.size := by
          obtain ⟨o, e, _⟩ := hl
          exact Heap.lt_size e
        have nh : A.in1.in1.in1.handled = none := by simp [calm]
        have apart : l ≠ (u.heap.push ob).objs.size := by
          rw [Heap.size_push]
          exact Nat.ne_of_lt (Nat.lt_succ_of_lt below)
        have far : u.heap.objs.size ∉ [(u.heap.push ob).objs.size, l] := fun z => by
          rw [Heap.size_push] at z
          rcases List.mem_cons.mp z with z | z
          · exact Nat.ne_of_lt (Nat.lt_succ_self _) z
          · exact Nat.ne_of_gt below (List.mem_singleton.mp z)
        refine fill_turns (ns := ns) ((Walks.list nh _ l apart its).toS) sz (fun i v hv => hin.int_at i v (by rw [Array.getElem?_toList]; exact hv)) far room ns.length 0 _ (by omega) ⟨⟨_, Heap.get?_push_size _ rfl, rfl, rfl⟩, hl2.push _⟩ ⟨_, 0, sr0.at fun o e => Heap.get?_push_of_some _ e, (fun _ z => nomatch z), Nat.le_refl _⟩ fun u3 S m mv sr hS hm => ?_
        obtain ⟨y1, y2, y3, y4, y5⟩ := u3
        obtain rfl : y2 = u.gens := mv.gens
        obtain rfl : y3 = u.drawn := mv.drawn
        obtain rfl : y5 = u.os := mv.os
        refine (show wpAny _ _ _ _ _ _ from wpAny_pure (show wpAny _ _ (ret Value.none) _ _ _ from wpAny_pure ⟨rfl, y1, y4, S, m, rfl, sr, hS, hm, fun b o hb e => ?_⟩))
        refine mv.heap b o (fun z => ?_) (Heap.get?_push_of_some _ (Heap.get?_push_of_some _ e))
        rcases List.mem_cons.mp z with z | z
        · exact Nat.ne_of_lt hb z
        · rw [List.mem_singleton.mp z, Heap.size_push] at hb
          exact Nat.not_lt_of_gt (Nat.lt_succ_self _) hb
      · cases r2 with
        | error e => exact h2
        | ok fl2 =>
          cases fl2 with
          | ret y =>
            obtain ⟨rfl, h3, tk, S, m, rfl, sr, hS, hm, kp⟩ := h2
            repeat (any_goals (first | assumption | wp_step))
            exact go _ _ S m sr hS hm kp
          | _ => exact h2.elim
    | _ => exact h1.elim
theorem call_setR {X : Cx} (hc : X.calm = true) : CallR X (.type "set") (fun xs H Q => ∃ (a : Addr) (ns : List Int), xs = [.ref a] ∧ SqL X.K H a (ns.map V.int) ∧ ns.length ≤ 40 ∧ ∀ p S n, H p = none → (∀ k, S k = true → k ∈ ns) → n ≤ ns.length → Q (.ref p) (upd H p (SetO X.w p S n))) := by
  intro pins s σ H xs us Q I r h
  obtain ⟨a, ns, rfl, ha, hz, q⟩ := h
  obtain ⟨u, rfl, e1⟩ := vals1 r
  cases (show u = Value.ref a from e1)
  obtain ⟨its, rv, pl, _⟩ := I.list ha
  have il := rv.length
  rw [List.length_map] at il
  refine set_ints (ns := ns) (I.ok.hd hc) pl.isList (by simpa using rv.ints) (Nat.lt_of_le_of_lt (by omega) (by decide : 41 < scanBound)) fun h2 tk S m sr hS hm keep => ?_
  have J := I.laid (t' := tk) (a := s.heap.objs.size) (o := SetO X.w s.heap.objs.size S m) (fun b o e => keep b o (Heap.lt_size e) e) (Nat.le_refl _) (setO_new sr)
  exact ⟨.ref s.heap.objs.size, _, J, rfl, q _ _ _ (I.hok.fresh (Nat.le_refl _)) hS hm⟩
end
end LM
-- EX
/-! errors of own classes whose __init__ tells the class's name: C.__name__, e.__class__, isinstance, the whole of a raise -/
namespace LX
open PySem PySem.W PySem.Calls PyProof.Rows Builtin Builtin.ObjectAttr Builtin.Getset_descriptor
section
variable {prog : Program} {w : World} {A : Around} {E : Value → Shared → Prop} {s : Shared} {K : Frag} {R : Result → Shared → Prop} {C : Addr}
/-- the name that a class keeps in its slots -/
theorem kept_name {tp v : Value} {o : Obj} (X : K.In s.heap) (tC : typeIn K (.ref C) = some (.type "type")) (ho : K.lookup C = some o) (hs : o.slots[2]? = some (some v)) (h : R (.ok (.ret v)) s) :
    codeAny (model prog w) A (.call (.builtin "getset_descriptor.__get__") ⟨[.builtin "type.__name__", .ref C, tp], []⟩) R s := by
  obtain ⟨hp, g, dr, tk, os⟩ := s
  have isTy : Looks (model prog w) hp (typeOf (.ref C)) (.type "type") := looks_typeIn X tC
  have same : Looks (model prog w) hp (isSubtype (.type "type") (.type "type")) true := .of_pure (by rw [isSubtype_type]; kernel_rfl)
  refine codeAny_call_builtin KF.slot_gs.plain KF.entry_gs (KF.slot_gs.check _ _ _ _ _ _ _ _ ktyn_type (KF.args_gs _ _ _) ?_)
  unfold Builtin.«getset_descriptor.__get__» descrGet
  rw [show descrGetArgs ⟨[.builtin "type.__name__", .ref C, tp], []⟩ = pure (.builtin "type.__name__", some (.ref C), given tp) by kernel_rfl]
  refine wpAny_bind (wpAny_pure ?_); unfold descrGetter descrCheckInstance descrNameAndClass isInstance
  simp only [ktyn_owner]; repeat lk
  refine ⟨Code.quiet_builtin _ (by decide +kernel), codeAny_builtin ktyn_entry ?_⟩
  unfold Builtin.«type.__name__» keptObject slotAt; dsimp only
  refine wpAny_bind (wpAny_bind (wpAny_loadPart_at (X _ _ ho) (wpAny_pure ?_))); rw [hs]
  exact wpAny_pure h
theorem name_of_class {v : Value} {o : Obj} {ex : Bool} {Q : Value → Shared → Prop} (X : K.In s.heap) (hr : readsIn K C (.type "type") = true)
    (e : findCls K (.ref C) (.type "type") "__name__" = some (.get (.builtin "getset_descriptor.__get__") (.builtin "type.__name__") (.ref C) (.type "type")))
    (tC : typeIn K (.ref C) = some (.type "type")) (ho : K.lookup C = some o) (hs : o.slots[2]? = some (some v)) (hv : handedIn v = true) (h : Q v { s with toks := s.toks + 1 }) :
    wpAny (model prog w) A (getAttr (.ref C) "__name__" ex) Q E s := cls_bind X hr e (wpAny_call (kept_name (s := { s with toks := s.toks + 1 }) X tC ho hs (handed_on hv h)))
/-- what the written part says of an own error class -/
structure Own (K : Frag) (D : Addr) : Prop where
  cl : (clsIn K D).isSome = true
  ga : findIn K (.ref D) "__getattribute__" = some (some (.builtin "BaseException.__getattribute__"))
  gt : findIn K (.ref D) "__getattr__" = some none
  sub : subIn K (.ref D) (.type "BaseException") = some true
  at_ : findIn K (.ref D) "__class__" = some (some (.builtin "object.__class__"))
  sp : specialIn K (.builtin "object.__class__") "__get__" = some (some (.builtin "getset_descriptor.__get__"))
  tk : takesIn K (.builtin "object.__class__") = some true
  mro : mroIn K D (.type "object") = some true
theorem class_of_error {x D : Addr} {ox : Obj} {od : Option Obj} {ex : Bool} {Q : Value → Shared → Prop} (T : Own K D) (X : K.In s.heap) (I : InstAt s.heap x ox D od) (h : Q (.ref D) { s with toks := s.toks + 1 }) :
    wpAny (model prog w) A (getAttr (.ref x) "__class__" ex) Q E s := by
  have hf : findObj K D od "__class__" = some (.bind (.builtin "getset_descriptor.__get__") (.builtin "object.__class__")) := findObj_dataE T.cl T.at_ T.sp T.tk
  obtain ⟨hp, g, d, t, os⟩ := s
  have l0 := I.type (M := model prog w); have l1 := looks_findIn (M := model prog w) X T.ga
  have l2 := looks_findIn (M := model prog w) X T.gt; have l3 := looks_find (M := model prog w) X I hf
  have isE : Looks (model prog w) hp (isInstance (.ref x) (.type "BaseException")) true := l0.andThen (looks_subIn X T.sub)
  have n2 : (Value.builtin "BaseException.__getattribute__" == Value.builtin "object.__getattribute__") = false := by decide +kernel
  unfold getAttr getAttrBy
  refine wpAny_bind (wpAny_mkText (wpAny_holding (wpAny_bind (l0.at (wpAny_bind (l1.at ?_))))))
  show wpAny _ _ (if (onTheHeap (Value.ref D) && Value.builtin "BaseException.__getattribute__" == Value.builtin "object.__getattribute__") = true then _ else _) _ _ _; rw [n2, Bool.and_false, if_neg Bool.false_ne_true]
  unfold getAttrByItsOwn hookBefore; refine wpAny_bind ?_; rw [if_pos (show onTheHeap (Value.ref D) = true from rfl)]
  refine l2.at (wpAny_bind (wpAny_attempt (wpAny_holding ?_)))
  unfold callGetattribute boundAndCalled; rw [show (ex && onTheHeap (Value.builtin "BaseException.__getattribute__")) = false by cases ex <;> rfl, if_neg Bool.false_ne_true, PySem.F.excAttr_ValueError.ga.bind (.ref x)]
  refine wpAny_bind (wpAny_pure ?_); show wpAny _ _ (call (.builtin "BaseException.__getattribute__") [.ref x, .str "__class__" t]) _ _ _
  refine wpAny_call (codeAny_call_builtin PySem.F.excAttr_ValueError.ga.plain PySem.F.entry_bexc_ga (@PySem.W.check_slot (model prog w) _ _ ⟨hp, g, d, t + 1, os⟩ "BaseException.__getattribute__" "BaseException" "__getattribute__" (.ref x) [.str "__class__" t] [] _ (by decide +kernel) (by decide +kernel) isE (PySem.F.args_bexc_ga (.ref x) (.str "__class__" t)) ?_))
  unfold Builtin.«object.__getattribute__»; refine wpAny_bind (wpAny_of_eq (a := ((Value.ref x : Value), [Value.str "__class__" t])) (by first | rfl | (simp only [slotArgs]; rfl)) ?_)
  refine wpAny_bind (wpAny_pure (wpAny_bind (l0.at (wpAny_bind (l3.at (wpAny_bind (wpAny_holding (wpAny_call (class_get (s := ⟨hp, g, d, t + 1, os⟩) (ox := ox) (od := od) X I T.mro ?_)))))))))
  refine wpAny_pure ?_; show wpAny _ _ (handedOut (.ref D)) _ _ _; rw [handedOut_of (v := .ref D) rfl]
  first | exact wpAny_pure h | exact wpAny_pure (wpAny_pure h)
end
end LX
namespace LX
open PySem PySem.Spec PyProof.Rows L2
/-- .. and of its kept name -/
structure Named (K : PySem.W.Frag) (D : Addr) (nm : Str) : Prop where
  own : Own K D
  rd : PySem.W.readsIn K D (.type "type") = true
  fc : PySem.W.findCls K (.ref D) (.type "type") "__name__" = some (.get (.builtin "getset_descriptor.__get__") (.builtin "type.__name__") (.ref D) (.type "type"))
  ty : PySem.W.typeIn K (.ref D) = some (.type "type")
  lk : ∃ (o : Obj) (t : Tok), K.lookup D = some o ∧ o.slots[2]? = some (some (.str nm t))
  sz : nm.length ≤ 1000
def tCn (K : PySem.W.Frag) (te : TE) : TE := fun σ H Q => te σ H fun x H1 => ∃ (a D : Addr) (nm : Str), x = .ref a ∧ H1 a = some (exo a D none) ∧ Named K D nm ∧ Q (.str nm) H1
/-- self.__class__.__name__ -/
theorem pe_cn {X : Cx} {e : Expr} {te : TE} {p1 p2 : Pos} (he : PE X e te) (hb : attributeBase e "__class__" X.env (eval e X.env) = eval e X.env := by rfl)
    (hb2 : attributeBase (.Attribute e "__class__" p1) "__name__" X.env (eval (.Attribute e "__class__" p1) X.env) = eval (.Attribute e "__class__" p1) X.env := by rfl) : PE X (.Attribute (.Attribute e "__class__" p1) "__name__" p2) (tCn X.K te) := by
  refine ⟨fun pins s σ H Q I h => attr_of hb2 (attr_of hb (thn (he.run pins s σ H _ I h) fun u s1 hh => ?_))⟩
  obtain ⟨x, H1, J, rx, a, D, nm, rfl, ea, T, q⟩ := hh
  obtain rfl : u = Value.ref a := rx
  obtain ⟨t1, hg⟩ := exo_at J.hok ea
  obtain ⟨o, tk, hlk, hsl⟩ := T.lk
  refine class_of_error (od := none) T.own J.kIn ⟨hg, rfl, rfl, True.intro⟩ ?_
  exact name_of_class (s := { s1 with toks := s1.toks + 1 }) J.kIn T.rd T.fc T.ty hlk hsl rfl ⟨.str nm, H1, (J.tok _).tok _, ⟨tk, rfl⟩, q⟩
/-- isinstance(e, c) of a caught error that has fields -/
def rIsD (K : PySem.W.Frag) (D a dd : Addr) : List V → Hp → VK → Prop := fun xs H Q => ∃ (c : V) (cv : Value) (b : Bool) (fs : List (Str × V)), xs = [.ref a, c] ∧ ClsV c cv ∧ H dd = some (.xd fs) ∧ PySem.W.kitOne K (.ref D) cv = some b ∧ Q (.bl b) H
theorem call_isD {X : Cx} {a D dd : Addr} {oe : Obj} {pn : List (Addr × Obj)} (T : Own X.K D) (hz : Zc (.ref D) (some dd) oe) (hf : ∃ vs, oe.data = .fields vs) : CallR (X.suite a ((a, oe) :: pn)) (.builtin "isinstance") (rIsD X.K D a dd) := by
  intro pins s σ H xs us Q I r h
  obtain ⟨c, cv, b, fs, rfl, hcv, hdd, e, q⟩ := h
  obtain ⟨u1, u2, rfl, r1, r2⟩ := vals2 r
  obtain rfl : u1 = Value.ref a := r1
  have ec := hcv.eq r2
  subst ec
  obtain ⟨hget, _⟩ := I.pin (a, oe) (List.mem_append_left _ List.mem_cons_self)
  obtain ⟨vs, hv⟩ := hf
  have hx : ObjOk X.prog X.w H s.heap dd (.xd fs) := I.hok dd _ hdd
  obtain ⟨mA, hns, _⟩ := hx
  obtain ⟨od, ho, _⟩ := lookIn_ns hns
  have J : PySem.W.InstAt s.heap a oe D (some od) := ⟨hget, hz.1, by unfold PySem.W.notCls; rw [hv] <;> rfl, by rw [hz.2]; exact ho⟩
  exact PySem.W.kia_one (PySem.W.kitx_exc T.cl T.ga T.gt T.sub T.at_ T.sp T.tk T.mro) I.kIn J e (fun z => nomatch z) fun tk => ⟨.bl b, H, I.tok tk, rfl, q⟩
end LX
-- EY
/-! further generic texts: // by a divisor of any sign, isinstance of a caught error whose class is told by the reading, the facts of an own error class that keeps a number -/
namespace LX
open PySem PySem.Spec PyProof.Rows L2
def CDivWN (_ j : Int) : Prop := j ≠ 0 ∧ j.natAbs.log2 < 9000
section
variable {X : Cx}
theorem op_fdivWN : OpR X (binaryOp .FloorDiv) (rI CDivWN fun i j => .int (i.fdiv j)) := opI fun _ _ _ _ _ _ _ hc q => floordiv_int hc.1 q (.inl (PyProof.noPylong_of_log2 hc.2))
end
def rIsX (K : PySem.W.Frag) (a : Addr) (cls : Value) (d : Option Addr) : List V → Hp → VK → Prop := fun xs H Q => ∃ (D dd : Addr) (c : V) (cv : Value) (b : Bool) (fs : List (Str × V)), cls = .ref D ∧ d = some dd ∧ Own K D ∧ xs = [.ref a, c] ∧ ClsV c cv ∧
  H dd = some (.xd fs) ∧ PySem.W.kitOne K (.ref D) cv = some b ∧ Q (.bl b) H
theorem call_isX {X : Cx} {a : Addr} {cls : Value} {d : Option Addr} {oe : Obj} {pn : List (Addr × Obj)} (hz : Zc cls d oe) (hf : ∃ vs, oe.data = .fields vs) : CallR (X.suite a ((a, oe) :: pn)) (.builtin "isinstance") (rIsX X.K a cls d) := by
  intro pins s σ H xs us Q I r h
  obtain ⟨D, dd, c, cv, b, fs, rfl, rfl, T, ex, hcv, hdd, e, q⟩ := h
  exact call_isD T hz hf pins s σ H xs us Q I r ⟨c, cv, b, fs, ex, hcv, hdd, e, q⟩
theorem text_len {i : Int} {k : Nat} (hk : 0 < k) (h : i.natAbs < 10 ^ k) : (Str.ofString (toString i)).length ≤ k + 1 := by
  have e := PySem.int_text_length_le10 hk h
  rw [PyProof.Rows.ofString_length]
  exact e
theorem bits_le {i : Int} {k : Nat} (h : i.natAbs < 2 ^ k) : Builtin.Int.intBits i ≤ k := PyProof.Rows.intBits_le h
/-- the base of the text's errors -/
structure Err0 (K : PySem.W.Frag) (mg : Str → Option Value) (st : Stmt) where
  CM : Addr
  f : Addr
  fd : FuncData
  F : Fun K "__init__" "ModelError.__init__" st f fd
  b : Binds K fd ["self", "at"] []
  tI : PySem.W.typeIn K (.ref f) = some (.type "function")
  gM : mg "ModelError" = some (.ref CM)
  mV : mg "ValueError" = none
  vV : PySem.W.findCls K (.type "ValueError") (.type "type") "__init__" = some (.val (.builtin "ValueError.__init__"))
/-- one of them -/
structure ErrC (K : PySem.W.Frag) (mg : Str → Option Value) (x : Str) (CM f : Addr) where
  C : Addr
  nm : Str
  named : Named K C nm
  oex : OexC K C
  noAt : PySem.W.findIn K (.ref C) "at" = some none
  iC : PySem.W.findIn K (.ref C) "__init__" = some (some (.ref f))
  g : mg x = some (.ref C)
  exm : PySem.W.exmOne K (.ref C) (.ref CM) = some true
  kit : PySem.W.kitOne K (.ref C) (.ref C) = some true
  xf : XfC K C
/-- an error of the class at C is taken by a clause for the class at S above it -/
theorem exm_is {K : PySem.W.Frag} {S C : Addr} (h1 : PySem.W.subIn K (.ref S) (.type "BaseException") = some true) (h2 : PySem.W.isClsIn K S = true) (h3 : PySem.W.typeIn K (.ref S) = some (.type "type")) (h4 : PySem.W.subIn K (.ref C) (.ref S) = some true) :
    PySem.W.exmOne K (.ref C) (.ref S) = some true := by
  have a : ((PySem.W.clsIn K S).isSome && PySem.W.typeIn K (.ref S) == some (.type "type")) = true := by
    rw [show (PySem.W.clsIn K S).isSome = true from h2, h3]; rfl
  unfold PySem.W.exmOne
  rw [h1, if_pos (by rfl)]
  show (if ((PySem.W.clsIn K S).isSome && PySem.W.typeIn K (.ref S) == some (.type "type")) = true then PySem.W.subIn K (.ref C) (.ref S) else none) = some true
  rw [if_pos a, h4]
theorem refs_one (c : Addr) : PySem.HandSPX.refsVE [.ref c, .type "ValueError", .type "Exception", .type "BaseException", .type "object"] = true := by
  show PySem.HandSPX.refsVE PySem.HandSPX.veTail = true
  decide +kernel
theorem kit_self (K : PySem.W.Frag) (C : Addr) : PySem.W.kitOne K (.ref C) (.ref C) = some true := by
  unfold PySem.W.kitOne
  rw [if_pos (by simp)]
/-- a and b as a value, where b changes nothing and its answer is known -/
def tAndP (ta tb : TE) : TE := fun σ H Q => ta σ H fun x H1 => ∃ c r, x = .bl c ∧ (c = true → ∀ Q' : VK, Q' (.bl r) H1 → tb σ H1 Q') ∧ Q (.bl (c && r)) H1
theorem pe_andP {X : Cx} {a b : Expr} {rest : List Expr} {ta tb : TE} {pos : Pos} (ha : PE X a ta) (hb : PE X (.BoolOp .And (b :: rest) pos) tb) : PE X (.BoolOp .And (a :: b :: rest) pos) (tAndP ta tb) := by
  refine ⟨fun pins s σ H Q I h => ?_⟩
  refine BoolOp_and (thn (ha.run pins s σ H _ I h) fun v s1 ⟨x, H1, I1, r1, q1⟩ => ?_)
  obtain ⟨c, r, rfl, hA, q⟩ := q1
  cases r1
  refine wpAny_truthy_bool ?_
  cases c with
  | true => exact hb.run pins s1 σ H1 Q I1 (hA rfl Q q)
  | false => exact ⟨.bl false, H1, I1, rfl, q⟩
/-- an error is let go that stood above H -/
theorem upd_back {H : Hp} {a d : Addr} {o1 o2 o3 x : HO} (ha : H a = none) (hd : d ≠ a) : upd (del (upd (upd (upd H a o1) d o2) a o3) a) d x = upd H d x := by
  funext b
  by_cases h1 : b = d
  · rw [h1, upd_same, upd_same]
  · rw [upd_ne h1, upd_ne h1]
    by_cases h2 : b = a
    · rw [h2, del_same, ha]
    · rw [del_ne h2, upd_ne h2, upd_ne h1, upd_ne h2]
/-- __init__ of the text's errors, at an error of the class C -/
def sp_init (K : PySem.W.Frag) : Sp := fun vs H Q _ => ∃ (e C : Addr) (nm : Str) (i : Int), vs = [.ref e, .int i] ∧ H e = some (exo e C none) ∧ Named K C nm ∧ OexC K C ∧ PySem.W.findIn K (.ref C) "at" = some none ∧ i.natAbs < 10 ^ 12 ∧
  ∀ d, H d = none → d ≠ e → Q .non (upd (upd H d (exd d [("at", .int i)])) e (exo e C (some d)))
/-- what a raise asks when the class's __init__ is as above -/
theorem raised {K : PySem.W.Frag} {mg : Str → Option Value} {x : Str} {CM f : Addr} (T : ErrC K mg x CM f) {H : Hp} {n : Int} {E : XK} (hn : n.natAbs < 10 ^ 12) (q : ∀ d, H d = none → E (.ref T.C) (some d) (upd H d (.xd [("at", .int n)]))) (a : Addr) (ha : H a = none) :
    sp_init K (.ref a :: ([.int n] ++ [])) (upd H a (exo a T.C none)) (fun v H2 => v = .non ∧ ∃ (d : Addr) (fs : List (Str × V)), H2 a = some (exo a T.C (some d)) ∧ H2 d = some (exd d fs) ∧ H d = none ∧ E (.ref T.C) (some d) (upd (del H2 a) d (.xd fs))) (fun _ _ _ => False) := by
  refine ⟨a, T.C, T.nm, n, rfl, upd_same, T.named, T.oex, T.noAt, hn, fun d hd ne => ⟨rfl, d, [("at", .int n)], upd_same, ?_, ?_, ?_⟩⟩
  · rw [upd_ne ne]; exact upd_same
  · rw [upd_ne ne] at hd; exact hd
  · rw [upd_ne ne] at hd
    rw [upd_back ha ne]
    exact q d hd
end LX
-- KMath
/-! plain mathematics of lists of integers that stand for polynomials -/
namespace K00
abbrev cf (ns : List Int) (m : Nat) : Int := ns.getD m 0
theorem cf_lt {ns : List Int} {m : Nat} (h : m < ns.length) : cf ns m = ns[m] := by simp [cf, List.getD_eq_getElem?_getD, h]
theorem cf_ge {ns : List Int} {m : Nat} (h : ns.length ≤ m) : cf ns m = 0 := by simp [cf, List.getD_eq_getElem?_getD, List.getElem?_eq_none h]
theorem cf_some {ns : List Int} {m : Nat} {x : Int} (h : ns[m]? = some x) : cf ns m = x := by simp [cf, List.getD_eq_getElem?_getD, h]
theorem at_cf {ns : List Int} {m : Nat} (h : m < ns.length) : ns[m]? = some (cf ns m) := by rw [cf_lt h, List.getElem?_eq_getElem h]
theorem cf_cons_succ (a : Int) (r : List Int) (m : Nat) : cf (a :: r) (m + 1) = cf r m := by simp [cf]
theorem cf_cons_zero (a : Int) (r : List Int) : cf (a :: r) 0 = a := by simp [cf]

def trim : List Int → List Int
  | [] => []
  | a :: r => if trim r = [] ∧ a = 0 then [] else a :: trim r
/-- without a nought at the end -/
def Can (ns : List Int) : Prop := ns = [] ∨ cf ns (ns.length - 1) ≠ 0
instance (ns : List Int) : Decidable (Can ns) := by unfold Can; infer_instance

theorem cf_trim : ∀ (ns : List Int) (m : Nat), cf (trim ns) m = cf ns m
  | [], _ => rfl
  | a :: r, m => by
    unfold trim
    split
    · rename_i h
      have ih := cf_trim r
      rw [h.1] at ih
      cases m with
      | zero => rw [cf_cons_zero, h.2]; rfl
      | succ m => rw [cf_cons_succ, ← ih m]; rfl
    · cases m with
      | zero => rfl
      | succ m => rw [cf_cons_succ, cf_cons_succ, cf_trim r m]
theorem can_trim : ∀ ns : List Int, Can (trim ns)
  | [] => .inl rfl
  | a :: r => by
    unfold trim
    split
    · exact .inl rfl
    · rename_i h
      right
      rcases can_trim r with e | e
      · rw [e] at h ⊢
        have ha : a ≠ 0 := fun z => h ⟨rfl, z⟩
        simpa [cf] using ha
      · have hl : (trim r).length ≠ 0 := by
          intro z
          have z' : trim r = [] := List.length_eq_zero_iff.mp z
          rw [z'] at e
          exact e rfl
        show cf (a :: trim r) ((trim r).length + 1 - 1) ≠ 0
        have e2 : (trim r).length + 1 - 1 = ((trim r).length - 1) + 1 := by omega
        rw [e2, cf_cons_succ]
        exact e
theorem trim_len : ∀ ns : List Int, (trim ns).length ≤ ns.length
  | [] => Nat.le_refl _
  | a :: r => by
    unfold trim
    have := trim_len r
    split
    · exact Nat.zero_le _
    · simp only [List.length_cons]; omega
theorem len_le_of {a b : List Int} (ha : Can a) (h : ∀ m, cf a m = cf b m) : a.length ≤ b.length := by
  rcases ha with e | e
  · rw [e]; exact Nat.zero_le _
  · rcases Nat.lt_or_ge b.length a.length with q | q
    · exfalso
      apply e
      rw [h, cf_ge (by omega)]
    · exact q
theorem can_ext {a b : List Int} (ha : Can a) (hb : Can b) (h : ∀ m, cf a m = cf b m) : a = b := by
  have h1 := len_le_of ha h
  have h2 := len_le_of hb (fun m => (h m).symm)
  have hl : a.length = b.length := by omega
  refine List.ext_getElem hl fun m h3 h4 => ?_
  rw [← cf_lt h3, ← cf_lt h4, h m]
theorem trim_can {a : List Int} (h : Can a) : trim a = a := can_ext (can_trim a) h (cf_trim a)
theorem can_iff {a : List Int} : Can a ↔ trim a = a := ⟨trim_can, fun h => h ▸ can_trim a⟩
theorem trim_eq {a b : List Int} (h : ∀ m, cf a m = cf b m) : trim a = trim b := can_ext (can_trim a) (can_trim b) fun m => by rw [cf_trim, cf_trim, h]
theorem cf_take {ns : List Int} {L m : Nat} : cf (ns.take L) m = if m < L then cf ns m else 0 := by
  unfold cf
  rw [List.getD_eq_getElem?_getD, List.getD_eq_getElem?_getD, List.getElem?_take]
  split <;> rfl
theorem take_trim {ns : List Int} {L : Nat} (hL : L ≤ ns.length) (h0 : ∀ m, L ≤ m → cf ns m = 0) (h1 : L = 0 ∨ cf ns (L - 1) ≠ 0) : ns.take L = trim ns := by
  refine can_ext ?_ (can_trim ns) fun m => ?_
  · rcases h1 with e | e
    · exact .inl (by rw [e]; rfl)
    · have hp : 0 < L := by
        rcases Nat.eq_zero_or_pos L with z | z
        · subst z
          exfalso
          exact e (h0 _ (Nat.zero_le _))
        · exact z
      refine .inr ?_
      rw [List.length_take, Nat.min_eq_left hL, cf_take, if_pos (by omega)]
      exact e
  · rw [cf_trim, cf_take]
    split
    · rfl
    · rename_i q
      exact (h0 m (by omega)).symm

/-! sums -/
def padd (a b : List Int) : List Int := trim ((List.range (max a.length b.length)).map fun m => cf a m + cf b m)
theorem cf_map_range {n : Nat} {f : Nat → Int} {m : Nat} : cf ((List.range n).map f) m = if m < n then f m else 0 := by
  by_cases h : m < n
  · rw [if_pos h, cf_lt (by simpa using h)]
    simp
  · rw [if_neg h, cf_ge (by simpa using Nat.le_of_not_lt h)]
theorem cf_padd (a b : List Int) (m : Nat) : cf (padd a b) m = cf a m + cf b m := by
  unfold padd
  rw [cf_trim, cf_map_range]
  split
  · rfl
  · rename_i h
    rw [cf_ge (show a.length ≤ m by omega), cf_ge (show b.length ≤ m by omega)]
    rfl
theorem can_padd (a b : List Int) : Can (padd a b) := can_trim _
theorem padd_of {a b t : List Int} (h : ∀ m, cf t m = cf a m + cf b m) : trim t = padd a b := can_ext (can_trim _) (can_padd a b) fun m => by rw [cf_trim, cf_padd, h]
theorem padd_nil (a : List Int) : padd a [] = trim a := (padd_of (t := a) fun m => by show cf a m = cf a m + 0; omega).symm
theorem padd_len (a b : List Int) : (padd a b).length ≤ max a.length b.length := by
  unfold padd
  refine Nat.le_trans (trim_len _) ?_
  simp

/-! products -/
def conv (a b : List Int) : Nat → Nat → Int
  | 0, _ => 0
  | n + 1, m => conv a b n m + cf a n * (if n ≤ m then cf b (m - n) else 0)
theorem conv_out {a b : List Int} : ∀ {n m : Nat}, a.length + b.length ≤ m + 1 → n ≤ a.length → conv a b n m = 0
  | 0, _, _, _ => rfl
  | n + 1, m, h, hn => by
    unfold conv
    rw [conv_out h (by omega)]
    split
    · rw [cf_ge (show b.length ≤ m - n by omega)]; simp
    · simp
def pmul (a b : List Int) : List Int := trim ((List.range (a.length + b.length)).map fun m => conv a b a.length m)
theorem cf_pmul (a b : List Int) (m : Nat) : cf (pmul a b) m = conv a b a.length m := by
  unfold pmul
  rw [cf_trim, cf_map_range]
  split
  · rfl
  · rename_i h
    exact (conv_out (by omega) (Nat.le_refl _)).symm
theorem can_pmul (a b : List Int) : Can (pmul a b) := can_trim _
theorem pmul_of {a b t : List Int} (h : ∀ m, cf t m = conv a b a.length m) : trim t = pmul a b := can_ext (can_trim _) (can_pmul a b) fun m => by rw [cf_trim, cf_pmul, h]
theorem cf_shift {k : Nat} {r : List Int} {m : Nat} : cf (List.replicate k 0 ++ r) m = if k ≤ m then cf r (m - k) else 0 := by
  unfold cf
  rw [List.getD_eq_getElem?_getD, List.getD_eq_getElem?_getD]
  by_cases h : k ≤ m
  · rw [if_pos h, List.getElem?_append_right (by simpa using h)]
    simp
  · rw [if_neg h, List.getElem?_append_left (by simp; omega)]
    simp [List.getElem?_replicate, show m < k by omega]
theorem cf_scale {c : Int} {r : List Int} {m : Nat} : cf (r.map (c * ·)) m = c * cf r m := by
  unfold cf
  rw [List.getD_eq_getElem?_getD, List.getD_eq_getElem?_getD, List.getElem?_map]
  cases r[m]? <;> simp
/-- one turn of the reckoning by shifted multiples -/
theorem conv_turn {a b t : List Int} {n : Nat} (ht : ∀ m, cf t m = conv a b n m) (m : Nat) : cf (padd t (List.replicate n 0 ++ if cf a n ≠ 0 then b.map (cf a n * ·) else [])) m = conv a b (n + 1) m := by
  rw [cf_padd, ht, cf_shift]
  show _ = conv a b n m + cf a n * (if n ≤ m then cf b (m - n) else 0)
  by_cases q : n ≤ m
  · rw [if_pos q, if_pos q]
    by_cases h : cf a n = 0
    · rw [if_neg (fun z => z h), h]; simp [cf]
    · rw [if_pos h, cf_scale]
  · rw [if_neg q, if_neg q]; simp

/-! values -/
def pval (x : Int) : List Int → Int
  | [] => 0
  | a :: r => pval x r * x + a
theorem pval_last (x : Int) : ∀ (ns : List Int) (i : Nat), i < ns.length → pval x (ns.drop (ns.length - (i + 1))) = pval x (ns.drop (ns.length - i)) * x + cf ns (ns.length - 1 - i) := fun ns i h => by
  have e : ns.length - (i + 1) < ns.length := by omega
  rw [List.drop_eq_getElem_cons e]
  have e2 : ns.length - (i + 1) + 1 = ns.length - i := by omega
  rw [e2]
  show pval x (ns.drop (ns.length - i)) * x + _ = _
  rw [← cf_lt e]
  congr 2
  omega
theorem pow_bound {x : Int} (hx : x.natAbs ≤ 1000) : ∀ i : Nat, (x ^ i).natAbs < 2 ^ (10 * i + 1)
  | 0 => by rw [Int.pow_zero]; decide
  | i + 1 => by
    rw [Int.pow_succ, Int.natAbs_mul]
    have h := pow_bound hx i
    have e : 2 ^ (10 * (i + 1) + 1) = 2 ^ (10 * i + 1) * 1024 := by
      rw [show 10 * (i + 1) + 1 = (10 * i + 1) + 10 by omega, Nat.pow_add]
    rw [e]
    exact Nat.mul_lt_mul'' h (by omega)
end K00
namespace K47
open PySem PySem.Spec PyProof.Rows L2
open K00 (cf trim padd pmul conv cf_lt cf_ge cf_some at_cf cf_trim can_trim trim_len take_trim cf_take padd_of pmul_of padd_nil padd_len cf_padd cf_pmul can_padd can_pmul trim_can Can can_ext)
-- B47
def topS (i : Nat) : Stmt := PySem.Challenge.pw_unsaidsizes_k47_grids_changed.main.body.getD i (.Pass ⟨0, 0, 0, 0⟩)
abbrev s_trimmed : Stmt := topS 1
theorem sc_trimmed : FnScope ["numbers", "length"] ["numbers"] (defScope s_trimmed) := ⟨rfl, rfl, rfl, by decide +kernel, rfl, by decide +kernel, by decide +kernel⟩
abbrev s_plus : Stmt := topS 2
theorem sc_plus : FnScope ["one", "two", "length", "total", "k", "number"] ["one", "two"] (defScope s_plus) := ⟨rfl, rfl, rfl, by decide +kernel, rfl, by decide +kernel, by decide +kernel⟩
abbrev s_times : Stmt := topS 3
theorem sc_times : FnScope ["one", "two", "total", "k", "number", "m", "other"] ["one", "two"] (defScope s_times) := ⟨rfl, rfl, rfl, by decide +kernel, rfl, by decide +kernel, by decide +kernel⟩
abbrev s_wording : Stmt := topS 5
theorem sc_wording : FnScope ["name", "at"] ["name", "at"] (defScope s_wording) := ⟨rfl, rfl, rfl, by decide +kernel, rfl, by decide +kernel, by decide +kernel⟩
abbrev s_width : Stmt := topS 9
theorem sc_width : FnScope ["table"] ["table"] (defScope s_width) := ⟨rfl, rfl, rfl, by decide +kernel, rfl, by decide +kernel, by decide +kernel⟩
abbrev s_cell : Stmt := topS 10
theorem sc_cell : FnScope ["row", "two", "j", "total", "k", "one"] ["row", "two", "j"] (defScope s_cell) := ⟨rfl, rfl, rfl, by decide +kernel, rfl, by decide +kernel, by decide +kernel⟩
abbrev s_product : Stmt := topS 11
theorem sc_product : FnScope ["one", "two", "row", "j"] ["one", "two"] (defScope s_product) := ⟨rfl, rfl, rfl, by decide +kernel, rfl, by decide +kernel, by decide +kernel⟩
abbrev s_is_exact : Stmt := topS 13
theorem sc_is_exact : FnScope ["told"] ["told"] (defScope s_is_exact) := ⟨rfl, rfl, rfl, by decide +kernel, rfl, by decide +kernel, by decide +kernel⟩
abbrev s_exact_indexes : Stmt := topS 15
theorem sc_exact_indexes : FnScope ["grid", "i", "told"] ["grid"] (defScope s_exact_indexes) := ⟨rfl, rfl, rfl, by decide +kernel, rfl, by decide +kernel, by decide +kernel⟩
abbrev s_copied : Stmt := topS 16
theorem sc_copied : FnScope ["told", "kind", "row", "one"] ["told"] (defScope s_copied) := ⟨rfl, rfl, rfl, by decide +kernel, rfl, by decide +kernel, by decide +kernel⟩
abbrev s_with_exact : Stmt := topS 17
theorem sc_with_exact : FnScope ["grid", "table", "found", "i", "row", "told"] ["grid", "table"] (defScope s_with_exact) := ⟨rfl, rfl, rfl, by decide +kernel, rfl, by decide +kernel, by decide +kernel⟩
abbrev s_exact_rows : Stmt := topS 18
theorem sc_exact_rows : FnScope ["grid", "kind", "row", "one"] ["grid"] (defScope s_exact_rows) := ⟨rfl, rfl, rfl, by decide +kernel, rfl, by decide +kernel, by decide +kernel⟩
abbrev s_changed : Stmt := topS 19
theorem sc_changed : FnScope ["grid", "changes", "table", "many"] ["grid", "changes"] (defScope s_changed) := ⟨rfl, rfl, rfl, by decide +kernel, rfl, by decide +kernel, by decide +kernel⟩
abbrev s_law_draws : Stmt := topS 21
theorem sc_law_draws : FnScope ["script", "draws", "k", "rest", "turn", "mixed"] ["script"] (defScope s_law_draws) := ⟨rfl, rfl, rfl, by decide +kernel, rfl, by decide +kernel, by decide +kernel⟩
abbrev s_law_mix : Stmt := topS 22
theorem sc_law_mix : FnScope ["draws", "k", "many", "value"] ["draws", "k", "many"] (defScope s_law_mix) := ⟨rfl, rfl, rfl, by decide +kernel, rfl, by decide +kernel, by decide +kernel⟩
abbrev s_law_trimmed : Stmt := topS 23
theorem sc_law_trimmed : FnScope ["numbers", "size", "turn"] ["numbers"] (defScope s_law_trimmed) := ⟨rfl, rfl, rfl, by decide +kernel, rfl, by decide +kernel, by decide +kernel⟩
abbrev s_law_plus : Stmt := topS 24
theorem sc_law_plus : FnScope ["one", "two", "out", "k"] ["one", "two"] (defScope s_law_plus) := ⟨rfl, rfl, rfl, by decide +kernel, rfl, by decide +kernel, by decide +kernel⟩
abbrev s_law_times : Stmt := topS 25
theorem sc_law_times : FnScope ["one", "two", "out", "i", "j"] ["one", "two"] (defScope s_law_times) := ⟨rfl, rfl, rfl, by decide +kernel, rfl, by decide +kernel, by decide +kernel⟩
abbrev s_law_number : Stmt := topS 26
theorem sc_law_number : FnScope ["draws", "k", "great", "menu"] ["draws", "k"] (defScope s_law_number) := ⟨rfl, rfl, rfl, by decide +kernel, rfl, by decide +kernel, by decide +kernel⟩
abbrev s_law_element : Stmt := topS 27
theorem sc_law_element : FnScope ["draws", "k", "shares", "out", "at"] ["draws", "k", "shares"] (defScope s_law_element) := ⟨rfl, rfl, rfl, by decide +kernel, rfl, by decide +kernel, by decide +kernel⟩
abbrev s_law_likely : Stmt := topS 28
theorem sc_law_likely : FnScope ["draws", "k", "row", "scale", "shift", "out", "turn", "j", "element", "number", "n"] ["draws", "k", "row"] (defScope s_law_likely) := ⟨rfl, rfl, rfl, by decide +kernel, rfl, by decide +kernel, by decide +kernel⟩
abbrev s_law_orders : Stmt := topS 29
theorem sc_law_orders : FnScope ["draws", "k", "shares", "chosen", "order"] ["draws", "k", "shares"] (defScope s_law_orders) := ⟨rfl, rfl, rfl, by decide +kernel, rfl, by decide +kernel, by decide +kernel⟩
abbrev s_law_grid : Stmt := topS 30
theorem sc_law_grid : FnScope ["draws", "k", "many", "grid", "exact", "share", "i", "at", "row", "j"] ["draws", "k", "many"] (defScope s_law_grid) := ⟨rfl, rfl, rfl, by decide +kernel, rfl, by decide +kernel, by decide +kernel⟩
abbrev s_law_table : Stmt := topS 31
theorem sc_law_table : FnScope ["draws", "k", "many", "table", "i", "row", "j", "at", "one", "number"] ["draws", "k", "many"] (defScope s_law_table) := ⟨rfl, rfl, rfl, by decide +kernel, rfl, by decide +kernel, by decide +kernel⟩
abbrev s_law_due : Stmt := topS 32
theorem sc_law_due : FnScope ["grid", "table", "kind", "row", "exact", "out", "changes", "line", "j", "total", "l", "one", "orders"] ["grid", "table"] (defScope s_law_due) := ⟨rfl, rfl, rfl, by decide +kernel, rfl, by decide +kernel, by decide +kernel⟩
abbrev s_law_refused : Stmt := topS 33
theorem sc_law_refused : FnScope ["grid", "table", "e"] ["grid", "table"] (defScope s_law_refused) := ⟨rfl, rfl, rfl, by decide +kernel, rfl, by decide +kernel, by decide +kernel⟩
abbrev s_law : Stmt := topS 34
theorem sc_law : FnScope ["script", "draws", "many", "grid", "row", "size", "table", "kept", "due", "told", "element", "at", "longer", "shorter", "other", "kind", "j"] ["script"] (defScope s_law) := ⟨rfl, rfl, rfl, by decide +kernel, rfl, by decide +kernel, by decide +kernel⟩
/-- a def as it stands behind the top -/
structure Def (K : PySem.W.Frag) (mg : Str → Option Value) (x : Str) (st : Stmt) (ps : List Str) where
  a : Addr
  fd : FuncData
  F : Fun K x x st a fd
  b : Binds K fd ps []
  g : mg x = some (.ref a)
/-- a def that holds generator expressions: its code object is known -/
structure DefT (K : PySem.W.Frag) (mg : Str → Option Value) (x : Str) (st : Stmt) (ps : List Str) where
  a : Addr
  c : Addr
  fd : FuncData
  ex : ∃ (oc : Value) (od : Option Addr) (dV kV doc pm : Value) (an : Option Addr) (ct : Value) (osl : Array (Option Value)), fd = PySem.W.fnOf x x (defArgs st) (defBody st) (defScope st) dV kV doc pm an (.ref c) ct ∧ K.lookup a = some ⟨oc, od, .func fd, osl⟩ ∧ PySem.W.codeIn K (.ref c) x = true
  kp : PySem.W.keepIn K (.ref a) = true
  b : Binds K fd ps []
  g : mg x = some (.ref a)
theorem DefT.ok {P : Program} {w : World} {K : PySem.W.Frag} {mg : Str → Option Value} {base : Heap} {x : Str} {st : Stmt} {N ps : List Str} {k : Nat} {sp : Sp} (T : DefT K mg x st ps) (S : FnScope N ps (defScope st)) (len : ∀ vs H Q E, sp vs H Q E → vs.length = ps.length)
    (hbody : ∀ (A : Around) (outer : List Env) (s : Shared) (H : Hp) (vs : List V) (Q : VK) (E : XK), Room k (A.deeper (envOfC x (defScope st) s.heap.objs.size T.a (.ref T.c))) → sp vs H Q E →
      ∃ t, PSs (cxOf CX0 P w K mg base N x (defScope st) T.a (.ref T.c) A outer s H E).nox (defBody st) t ∧ t { nx := fun _ H' => Q .non H', rt := Q } (L2.start N vs) H) : FnOk P w K mg base CX0 (k + 1) T.a T.fd ps sp := by
  obtain ⟨a, c, fd, ⟨oc, od, dV, kV, doc, pm, an, ct, osl, rfl, lk, hcd⟩, kp, b, g⟩ := T
  refine fn_of lk hcd S len fun A outer s H vs Q E hr hsp => ?_
  obtain ⟨t, h, q⟩ := hbody A outer s H vs Q E hr hsp
  exact ⟨t, h.nox, q⟩
structure Txt (K : PySem.W.Frag) (mg : Str → Option Value) where
  trimmed : Def K mg "trimmed" s_trimmed ["numbers"]
  plus : Def K mg "plus" s_plus ["one", "two"]
  times : Def K mg "times" s_times ["one", "two"]
  wording : Def K mg "_wording" s_wording ["name", "at"]
  width : Def K mg "_width" s_width ["table"]
  cell : Def K mg "_cell" s_cell ["row", "two", "j"]
  product : Def K mg "product" s_product ["one", "two"]
  is_exact : Def K mg "is_exact" s_is_exact ["told"]
  exact_indexes : Def K mg "exact_indexes" s_exact_indexes ["grid"]
  copied : Def K mg "copied" s_copied ["told"]
  with_exact : Def K mg "with_exact" s_with_exact ["grid", "table"]
  exact_rows : Def K mg "exact_rows" s_exact_rows ["grid"]
  changed : DefT K mg "changed" s_changed ["grid", "changes"]
  law_draws : Def K mg "_law_draws" s_law_draws ["script"]
  law_mix : Def K mg "_law_mix" s_law_mix ["draws", "k", "many"]
  law_trimmed : Def K mg "_law_trimmed" s_law_trimmed ["numbers"]
  law_plus : Def K mg "_law_plus" s_law_plus ["one", "two"]
  law_times : Def K mg "_law_times" s_law_times ["one", "two"]
  law_number : Def K mg "_law_number" s_law_number ["draws", "k"]
  law_element : Def K mg "_law_element" s_law_element ["draws", "k", "shares"]
  law_likely : Def K mg "_law_likely" s_law_likely ["draws", "k", "row"]
  law_orders : Def K mg "_law_orders" s_law_orders ["draws", "k", "shares"]
  law_grid : Def K mg "_law_grid" s_law_grid ["draws", "k", "many"]
  law_table : Def K mg "_law_table" s_law_table ["draws", "k", "many"]
  law_due : Def K mg "_law_due" s_law_due ["grid", "table"]
  law_refused : Def K mg "_law_refused" s_law_refused ["grid", "table"]
  law : Def K mg "law" s_law ["script"]
  m_abs : mg "abs" = none
  m_all : mg "all" = none
  m_enumerate : mg "enumerate" = none
  m_int : mg "int" = none
  m_isinstance : mg "isinstance" = none
  m_len : mg "len" = none
  m_list : mg "list" = none
  m_max : mg "max" = none
  m_min : mg "min" = none
  m_range : mg "range" = none
  m_repr : mg "repr" = none
  m_set : mg "set" = none
  m_sorted : mg "sorted" = none
  m_sum : mg "sum" = none
  m_tuple : mg "tuple" = none
  m_zip : mg "zip" = none
/-! ### the errors of the text -/
abbrev s_init : Stmt := inClass (topS 6) 0
theorem sc_init : FnScope ["self", "at"] ["self", "at"] (defScope s_init) := ⟨rfl, rfl, rfl, by decide +kernel, rfl, by decide +kernel, by decide +kernel⟩
structure Errs (K : PySem.W.Frag) (mg : Str → Option Value) where
  e0 : LX.Err0 K mg s_init
  WrongSize : LX.ErrC K mg "WrongSize" e0.CM e0.f
/-! ### words -/
theorem same_upd {H : Hp} {p : Addr} {o : HO} (h : H p = none) : Same H (upd H p o) := fun b x e => by
  rw [upd_ne (ne_of_none e h)]
  exact e
theorem same_over {H H' : Hp} {p : Addr} {o : HO} (s : Same H H') (h : H p = none) : Same H (upd H' p o) := fun b x e => by
  rw [upd_ne (ne_of_none e h)]
  exact s _ _ e
theorem Same.seqT {K : PySem.W.Frag} {H H' : Hp} {a : Addr} {xs : List V} (e : Same H H') (h : SqT K H a xs) : SqT K H' a xs := by
  rcases h with (h | ⟨o, h⟩) | h
  · exact .inl (.inl (e _ _ h))
  · exact .inl (.inr ⟨o, e _ _ h⟩)
  · exact .inr h
/-- two lists in step -/
inductive A2 {α β : Type} (R : α → β → Prop) : List α → List β → Prop
  | nil : A2 R [] []
  | cons {a b as bs} : R a b → A2 R as bs → A2 R (a :: as) (b :: bs)
namespace A2
variable {α β γ : Type} {R S : α → β → Prop} {as : List α} {bs : List β}
theorem mono (f : ∀ a b, R a b → S a b) : ∀ {as : List α} {bs : List β}, A2 R as bs → A2 S as bs
  | _, _, .nil => .nil
  | _, _, .cons h t => .cons (f _ _ h) (mono f t)
theorem len : ∀ {as : List α} {bs : List β}, A2 R as bs → as.length = bs.length
  | _, _, .nil => rfl
  | _, _, .cons _ t => by rw [List.length_cons, List.length_cons, len t]
theorem get : ∀ {as : List α} {bs : List β}, A2 R as bs → ∀ {i : Nat} {a : α}, as[i]? = some a → ∃ b, bs[i]? = some b ∧ R a b
  | _, _, .nil, i, a, h => by simp at h
  | _, _, .cons h t, 0, a, e => by simp at e; subst e; exact ⟨_, rfl, h⟩
  | _, _, .cons h t, i + 1, a, e => get t (i := i) (by simpa using e)
theorem get' : ∀ {as : List α} {bs : List β}, A2 R as bs → ∀ {i : Nat} {b : β}, bs[i]? = some b → ∃ a, as[i]? = some a ∧ R a b
  | _, _, .nil, i, a, h => by simp at h
  | _, _, .cons h t, 0, a, e => by simp at e; subst e; exact ⟨_, rfl, h⟩
  | _, _, .cons h t, i + 1, a, e => get' t (i := i) (by simpa using e)
theorem snoc {a : α} {b : β} (h : R a b) : ∀ {as : List α} {bs : List β}, A2 R as bs → A2 R (as ++ [a]) (bs ++ [b])
  | _, _, .nil => .cons h .nil
  | _, _, .cons x t => .cons x (snoc h t)
theorem set {a : α} {b : β} (h : R a b) : ∀ {as : List α} {bs : List β}, A2 R as bs → ∀ i : Nat, A2 R (as.set i a) (bs.set i b)
  | _, _, .nil, _ => .nil
  | _, _, .cons _ t, 0 => .cons h t
  | _, _, .cons x t, i + 1 => .cons x (set h t i)
end A2
theorem take_snoc {α : Type} {xs : List α} {i : Nat} {x : α} (h : xs[i]? = some x) : xs.take (i + 1) = xs.take i ++ [x] := by
  rw [List.take_add_one, h]; rfl
theorem a2_eq {α : Type} {f : α → V} : ∀ {ys : List V} {xs : List α}, A2 (fun v x => v = f x) ys xs → ys = xs.map f
  | _, _, .nil => rfl
  | _, _, .cons h t => by rw [h, a2_eq t]; rfl
theorem a2_ref {α : Type} {R : Addr → α → Prop} : ∀ {ys : List V} {xs : List α}, A2 (fun v x => ∃ a, v = .ref a ∧ R a x) ys xs → ∃ as : List Addr, ys = as.map V.ref ∧ A2 R as xs
  | _, _, .nil => ⟨[], rfl, .nil⟩
  | _, _, .cons ⟨a, e, h⟩ t => by
    obtain ⟨as, rfl, r⟩ := a2_ref t
    exact ⟨a :: as, by rw [e]; rfl, .cons h r⟩
theorem fm_some {α β : Type} (f : α → β) (xs : List α) : xs.filterMap (fun x => some (f x)) = xs.map f := by
  induction xs with
  | nil => rfl
  | cons x r ih =>
    rw [List.filterMap_cons]
    show f x :: _ = _
    rw [ih]; rfl
theorem some_at {α : Type} {xs : List α} {i : Nat} (h : i < xs.length) : ∃ x, xs[i]? = some x := ⟨_, List.getElem?_eq_getElem h⟩
theorem mem_at {α : Type} {xs : List α} {i : Nat} {x : α} (h : xs[i]? = some x) : x ∈ xs := List.mem_of_getElem? h
/-- a list of ints stands at a -/
def IL (H : Hp) (a : Addr) (ns : List Int) : Prop := H a = some (.lst (ns.map V.int))
theorem IL.sq {K : PySem.W.Frag} {H : Hp} {a : Addr} {ns : List Int} (h : IL H a ns) : SqL K H a (ns.map V.int) := SqL.of h
theorem IL.same {H H' : Hp} {a : Addr} {ns : List Int} (h : IL H a ns) (s : Same H H') : IL H' a ns := s _ _ h
theorem il_upd {H : Hp} {p : Addr} {ns : List Int} : IL (upd H p (.lst (ns.map V.int))) p ns := upd_same
theorem app_ints {ds : List Int} {x : Int} : ds.map V.int ++ [V.int x] = (ds ++ [x]).map V.int := by rw [List.map_append]; rfl
theorem small {n : Nat} (h : n ≤ 60000) : n ≤ sizeLine := Nat.le_trans h (by decide)
theorem small' {n : Nat} (h : n < 60000) : n < sizeLine := Nat.lt_of_lt_of_le h (by decide)
theorem at_map {ns : List Int} {m : Nat} (h : m < ns.length) : ns[m]? = some (cf ns m) := by unfold cf; rw [List.getD_eq_getElem?_getD, List.getElem?_eq_getElem h]; rfl
theorem at_map' {ns : List Int} {i : Int} {m : Nat} (e : i = (m : Int)) (h : m < ns.length) : atI (ns.map V.int) i = some (V.int (cf ns m)) := by
  rw [e]
  refine atI_nat ?_
  rw [List.getElem?_map, at_map h]; rfl
/-- all but D stand as they stood -/
def SameX (D : Addr) (H H' : Hp) : Prop := ∀ c o, c ≠ D → H c = some o → H' c = some o
theorem sx {D : Addr} {H H' : Hp} (s : Same H H') : SameX D H H' := fun c o _ h => s c o h
theorem SameX.trans {D : Addr} {H H1 H2 : Hp} (a : SameX D H H1) (b : SameX D H1 H2) : SameX D H H2 := fun c o n h => b c o n (a c o n h)
theorem SameX.put {D : Addr} {H : Hp} {o : HO} : SameX D H (upd H D o) := fun c x n h => by
  rw [upd_ne n]; exact h
section
variable {J : It} {n : Nat} {G : Hp → Prop} {Y : Nat → Hp → V → Hp → Prop} {g : TG} {tt : TT} {te : TE} {vs : List Nat} {σ : L2.St} {H1 : Hp} {D : Addr} {Qd : Hp → Prop}
/-- what a comprehension wants of its turns -/
abbrev LcW (J : It) (g : TG) (tt : TT) (te : TE) (vs : List Nat) (σ : L2.St) (H1 : Hp) (D : Addr) (Qd : Hp → Prop) : Prop :=
  ∃ W : Nat → Nat → Hp → Prop, (∃ m, W 0 m (upd H1 D (.lst []))) ∧ ∀ i m H, W i m H →
      (J.stop i H ∧ Qd H) ∨ (J.go i H ∧ ∃ Nx : Hp → Prop, (∀ H', Nx H' → ∃ m', m' < m ∧ W (i + 1) m' H') ∧ ∀ x H', J.yld i H x H' → g x (wipe σ vs) H' fun σ2 H2 => wipe σ2 vs = wipe σ vs ∧ tt σ2 H2 fun b H3 =>
        if b = true then te σ2 H3 fun y H4 => ∃ acc, H4 D = some (.lst acc) ∧ acc.length < sizeLine ∧ Nx (upd H4 D (.lst (acc ++ [y]))) else Nx H3)
theorem lc_inv (w : Walk J n G Y) (R : Nat → Hp → List V → Prop) (nD : H1 D = none) (hG : ∀ H', Same H1 H' → G H') (hl : n < sizeLine) (h0 : R 0 (upd H1 D (.lst [])) [])
    (hs : ∀ i x H Hx ys, i < n → Same H1 H → H D = some (.lst ys) → R i H ys → Y i H x Hx → ∀ (Qt : VK) (Qf : Hp → Prop), (∀ y H4, Same H H4 → R (i + 1) (upd H4 D (.lst (ys ++ [y]))) (ys ++ [y]) → Qt y H4) →
      (∀ H3, Same H H3 → R (i + 1) H3 ys → Qf H3) → g x (wipe σ vs) Hx fun σ2 H2 => wipe σ2 vs = wipe σ vs ∧ tt σ2 H2 fun b H3 => if b = true then te σ2 H3 Qt else Qf H3)
    (hd : ∀ H ys, Same H1 H → H D = some (.lst ys) → R n H ys → Qd H) : LcW J g tt te vs σ H1 D Qd := by
  refine lc_it w (fun i H => Same H1 H ∧ ∃ ys, ys.length ≤ i ∧ H D = some (.lst ys) ∧ R i H ys) ⟨same_upd nD, [], Nat.le_refl _, upd_same, h0⟩ (fun i H _ p => hG H p.1) (fun i x H Hx hi p y => ?_) (fun H p => ?_)
  · obtain ⟨sm, ys, hn, hD, hR⟩ := p
    refine hs i x H Hx ys hi sm hD hR y (fun y H4 => ∃ acc, H4 D = some (.lst acc) ∧ acc.length < sizeLine ∧ Same H1 (upd H4 D (.lst (acc ++ [y]))) ∧ ∃ zs, zs.length ≤ i + 1 ∧ upd H4 D (.lst (acc ++ [y])) D = some (.lst zs) ∧ R (i + 1) (upd H4 D (.lst (acc ++ [y]))) zs) _ (fun y H4 s4 r => ?_) (fun H3 s3 r => ?_)
    · exact ⟨ys, s4 _ _ hD, by omega, same_over (sm.trans s4) nD, ys ++ [y], by rw [List.length_append]; exact Nat.succ_le_succ hn, upd_same, r⟩
    · exact ⟨sm.trans s3, ys, by omega, s3 _ _ hD, r⟩
  · obtain ⟨sm, ys, _, hD, hR⟩ := p
    exact hd H ys sm hD hR
/-- item by item -/
theorem lc_fm {α β : Type} (w : Walk J n G Y) (ls : List α) (f : α → Option β) (rel : Hp → V → β → Prop) (mono : ∀ H H' v b, SameX D H H' → rel H v b → rel H' v b) (hn : ls.length = n) (nD : H1 D = none)
    (hG : ∀ H', Same H1 H' → G H') (hl : n < sizeLine)
    (hs : ∀ i x H Hx ys l, ls[i]? = some l → Same H1 H → H D = some (.lst ys) → Y i H x Hx → ∀ (Qt : VK) (Qf : Hp → Prop), (∀ y H4 b, f l = some b → Same H H4 → rel H4 y b → Qt y H4) →
      (f l = none → ∀ H3, Same H H3 → Qf H3) → g x (wipe σ vs) Hx fun σ2 H2 => wipe σ2 vs = wipe σ vs ∧ tt σ2 H2 fun b H3 => if b = true then te σ2 H3 Qt else Qf H3)
    (hd : ∀ H ys, Same H1 H → H D = some (.lst ys) → A2 (rel H) ys (ls.filterMap f) → Qd H) : LcW J g tt te vs σ H1 D Qd := by
  refine lc_inv w (fun i H ys => A2 (rel H) ys ((ls.take i).filterMap f)) nD hG hl .nil (fun i x H Hx ys hi sm hD hR y Qt Qf qt qf => ?_) (fun H ys sm hD hR => ?_)
  · obtain ⟨l, hl⟩ : ∃ l, ls[i]? = some l := ⟨ls[i]'(by omega), by simp [show i < ls.length by omega]⟩
    refine hs i x H Hx ys l hl sm hD y Qt Qf (fun y H4 b hb s4 r => ?_) (fun hb H3 s3 => ?_)
    · refine qt y H4 s4 ?_
      rw [take_snoc hl, List.filterMap_append]
      show A2 _ _ (_ ++ List.filterMap f [l])
      rw [show List.filterMap f [l] = [b] by simp [hb]]
      exact A2.snoc (mono _ _ _ _ SameX.put r) (hR.mono fun _ _ z => mono _ _ _ _ ((sx s4).trans SameX.put) z)
    · refine qf H3 s3 ?_
      rw [take_snoc hl, List.filterMap_append]
      show A2 _ _ (_ ++ List.filterMap f [l])
      rw [show List.filterMap f [l] = [] by simp [hb], List.append_nil]
      exact hR.mono fun _ _ z => mono _ _ _ _ (sx s3) z
  · rw [List.take_of_length_le (by omega)] at hR
    exact hd H ys sm hD hR
/-- new things, one a turn, each with something known of it -/
theorem lc_new {β : Type} (w : Walk J n G Y) (rel : Hp → Addr → β → Prop) (mono : ∀ H H' v b, SameX D H H' → rel H v b → rel H' v b) (ok : Nat → β → Prop) (nD : H1 D = none) (hG : ∀ H', Same H1 H' → G H') (hl : n < sizeLine)
    (hs : ∀ i x H Hx, i < n → Same H1 H → H D ≠ none → Y i H x Hx → ∀ Qt : VK, (∀ y b H4, Same H H4 → rel H4 y b → ok i b → Qt (.ref y) H4) → g x (wipe σ vs) Hx fun σ2 H2 => wipe σ2 vs = wipe σ vs ∧ tt σ2 H2 fun b H3 => b = true ∧ te σ2 H3 Qt)
    (hd : ∀ H as bs, Same H1 H → H D = some (.lst (as.map V.ref)) → A2 (rel H) as bs → bs.length = n → (∀ i b, bs[i]? = some b → ok i b) → Qd H)
    (gm : ∀ {x σ' H' Q1 Q2}, (∀ a b, Q1 a b → Q2 a b) → g x σ' H' Q1 → g x σ' H' Q2) (tm : ∀ {σ' H' Q1 Q2}, (∀ a b, Q1 a b → Q2 a b) → tt σ' H' Q1 → tt σ' H' Q2) : LcW J g tt te vs σ H1 D Qd := by
  refine lc_inv w (fun i H ys => ∃ (as : List Addr) (bs : List β), ys = as.map V.ref ∧ A2 (rel H) as bs ∧ bs.length = i ∧ ∀ j b, bs[j]? = some b → ok j b) nD hG hl ⟨[], [], rfl, .nil, rfl, fun j b z => by simp at z⟩ (fun i x H Hx ys hi sm hD hR y Qt Qf qt qf => ?_) (fun H ys sm hD hR => ?_)
  · obtain ⟨as, bs, rfl, ha, hb, hk⟩ := hR
    refine gm (fun σ2 H2 z => ⟨z.1, tm (fun c H3 z2 => ?_) z.2⟩) (hs i x H Hx hi sm (by rw [hD]; exact fun z => nomatch z) y Qt fun y b H4 s4 r o => ?_)
    · rw [if_pos z2.1]
      exact z2.2
    · refine qt _ _ s4 ⟨as ++ [y], bs ++ [b], by rw [List.map_append]; rfl, A2.snoc (mono _ _ _ _ SameX.put r) (ha.mono fun _ _ z => mono _ _ _ _ ((sx s4).trans SameX.put) z), by rw [List.length_append, hb]; rfl, fun j c z => ?_⟩
      rcases Nat.lt_or_ge j bs.length with lt | ge
      · rw [List.getElem?_append_left lt] at z
        exact hk j c z
      · rw [List.getElem?_append_right ge] at z
        have e : j - bs.length = 0 := by
          rcases Nat.eq_zero_or_pos (j - bs.length) with e | e
          · exact e
          · rw [List.getElem?_eq_none (by show 1 ≤ _; omega)] at z
            cases z
        rw [e] at z
        cases z
        have : j = i := by omega
        rw [this]
        exact o
  · obtain ⟨as, bs, rfl, ha, hb, hk⟩ := hR
    exact hd H as bs sm hD ha hb hk
end
def rLenS (K : PySem.W.Frag) : List V → Hp → VK → Prop := fun xs H Q => ∃ p ys, xs = [.ref p] ∧ (SqL K H p ys ∨ SqT K H p ys) ∧ Q (.int (ys.length : Nat)) H
theorem call_lenC {X : Cx} : CallR X (.builtin "len") (rLenS X.K) := call_len_seq
def rListC (K : PySem.W.Frag) : List V → Hp → VK → Prop := fun xs H Q => ∃ p ys, xs = [.ref p] ∧ (SqL K H p ys ∨ SqT K H p ys) ∧ ∀ l, H l = none → Q (.ref l) (upd H l (.lst ys))
theorem call_listC {X : Cx} : CallR X (.type "list") (rListC X.K) := call_list_of
/-! ### grids -/
abbrev Rw := Bool × List (List Int)
def kS (b : Bool) : Str := if b then "exact" else "sized"
def RowL (H : Hp) (b : Addr) (els : List (List Int)) : Prop := ∃ as : List Addr, H b = some (.lst (as.map V.ref)) ∧ A2 (IL H) as els
def RwV (K : PySem.W.Frag) (H : Hp) (v : V) (r : Rw) : Prop := ∃ t b, v = .ref t ∧ SqT K H t [.str (kS r.1), .ref b] ∧ RowL H b r.2
def GR (K : PySem.W.Frag) (H : Hp) (g : Addr) (rs : List Rw) : Prop := ∃ xs, H g = some (.lst xs) ∧ A2 (RwV K H) xs rs
/-- all stands but the tables of code -/
def Lk (H H' : Hp) : Prop := ∀ b o, H b = some o → (∀ q, o ≠ .tbl q) → H' b = some o
theorem Lk.refl {H : Hp} : Lk H H := fun _ _ h _ => h
theorem Lk.trans {H H1 H2 : Hp} (a : Lk H H1) (b : Lk H1 H2) : Lk H H2 := fun c o h n => b c o (a c o h n) n
theorem lk {H H' : Hp} (s : Same H H') : Lk H H' := fun b o h _ => s b o h
theorem lk_tab {H H' : Hp} {P : Addr} (h : GxR.TabG H P) (s : GxR.Tabbed P H H') : Lk H H' := fun b o e n => by
  by_cases z : b = P
  · obtain ⟨ps, hP, _⟩ := h
    rw [z, hP] at e
    cases e
    exact absurd rfl (n ps)
  · rw [s.2 b z]
    exact e
theorem tabG_same {H H' : Hp} {P : Addr} (h : GxR.TabG H P) (s : Same H H') : GxR.TabG H' P := let ⟨ps, e, t⟩ := h; ⟨ps, s _ _ e, t⟩
section
variable {K : PySem.W.Frag} {H H' : Hp}
theorem Lk.seqT (s : Lk H H') {a : Addr} {xs : List V} (h : SqT K H a xs) : SqT K H' a xs := by
  rcases h with (h | ⟨o, h⟩) | h
  · exact .inl (.inl (s _ _ h fun _ z => nomatch z))
  · exact .inl (.inr ⟨o, s _ _ h fun _ z => nomatch z⟩)
  · exact .inr h
theorem Lk.seqL (s : Lk H H') {a : Addr} {xs : List V} (h : SqL K H a xs) : SqL K H' a xs := by
  rcases h with (h | ⟨o, h⟩) | h
  · exact .inl (.inl (s _ _ h fun _ z => nomatch z))
  · exact .inl (.inr ⟨o, s _ _ h fun _ z => nomatch z⟩)
  · exact .inr h
theorem Lk.lst (s : Lk H H') {a : Addr} {xs : List V} (h : H a = some (.lst xs)) : H' a = some (.lst xs) := s _ _ h fun _ z => nomatch z
theorem IL.lk (s : Lk H H') {a : Addr} {ns : List Int} (h : IL H a ns) : IL H' a ns := s.lst h
theorem RowL.lk (s : Lk H H') {b : Addr} {els : List (List Int)} (h : RowL H b els) : RowL H' b els := let ⟨as, e, r⟩ := h; ⟨as, s.lst e, r.mono fun _ _ z => z.lk s⟩
theorem RwV.lk (s : Lk H H') {v : V} {r : Rw} (h : RwV K H v r) : RwV K H' v r := let ⟨t, b, e, z, y⟩ := h; ⟨t, b, e, s.seqT z, y.lk s⟩
theorem GR.lk (s : Lk H H') {g : Addr} {rs : List Rw} (h : GR K H g rs) : GR K H' g rs := let ⟨xs, e, r⟩ := h; ⟨xs, s.lst e, r.mono fun _ _ z => z.lk s⟩
end
/-- an element of a grid that is drawn -/
def VE (ns : List Int) : Prop := ns.length ≤ 13 ∧ ∀ n ∈ ns, n.natAbs ≤ 10 ^ 30
def VR (many : Nat) (els : List (List Int)) : Prop := els.length = many ∧ ∀ e ∈ els, VE e
def VG (many : Nat) (rs : List Rw) : Prop := rs.length = many ∧ ∀ r ∈ rs, VR many r.2
/-- the power of an element -/
def pw (ex : Bool) (e : List Int) : Option Int := if e = [] then none else some (if ex = true then (e.length : Int) - 1 else cf e (e.length - 1))
def vI : Option Int → V
  | none => .non
  | some k => .int k
-- D47
section
variable {P : Program} {w : World} {K : PySem.W.Frag} {mg : Str → Option Value} {base : Heap}
def sp_law_draws (K : PySem.W.Frag) : Sp := fun vs H Q _ => ∃ (a : Addr) (ns : List Int), vs = [.ref a] ∧ SqL K H a (ns.map V.int) ∧ ns.length ≤ 63 ∧ ∀ H' p ds, Same H H' → H p = none → IL H' p ds → ds.length ≤ 4000 → Q (.ref p) H'
theorem ok_law_draws (T : Txt K mg) : FnOk P w K mg base CX0 1 T.law_draws.a T.law_draws.fd ["script"] (sp_law_draws K) := by
  refine T.law_draws.F.ok sc_law_draws (fun vs H Q E h => ?_) (fun cdv A outer s H vs Q E hr h => ?_)
  · obtain ⟨a, ns, rfl, _⟩ := h
    rfl
  · obtain ⟨a, ns, rfl, ha, hl, q⟩ := h
    refine ⟨_, (pss_cons (ps_set (i := 1) sc_law_draws.nd rfl (.inl rfl) (pe_lst pa_nil))
      (pss_cons (ps_for PassesOwn.never rfl (pi_range1 (by rfl) T.m_range (pa_cons (pe_callB (call_min2 rfl) (by rfl) T.m_min (by decide +kernel) (pa_cons pe_int (pa_cons (pe_callB call_len_seq (by rfl) T.m_len (by decide +kernel) (pa_cons (pv 0) pa_nil)) pa_nil))) pa_nil)) (pg_name (i := 2) sc_law_draws.nd rfl (.inl rfl))
        (pss_cons (ps_set (i := 3) sc_law_draws.nd rfl (.inl rfl) (pe_callB call_abs (by rfl) T.m_abs (by decide +kernel) (pa_cons (pe_ix ix_list (pv 0) (pv 2) (fun _ _ => rfl)) pa_nil)))
        (pss_one (ps_if (pt_cmpR op_ge (pv 3) (pe_op op_pow pe_int pe_int) (nomark _))
          (pss_one (ps_for PassesOwn.never rfl (pi_range1 (by rfl) T.m_range (pa_cons pe_int pa_nil)) (pg_name (i := 4) sc_law_draws.nd rfl (.inl rfl))
            (pss_one (ps_if (pt_cmpR op_gt (pv 3) pe_int (nomark _))
              (pss_cons (ps_expr (pe_bm PySem.F.plainAttrs_list PySem.F.slot_list_append PySem.F.type_list_append mt_append (pv 1) (pa_cons (pe_op op_mod (pe_callTy call_int1 (by rfl) T.m_int (by decide +kernel) (pa_cons (pv 3) pa_nil)) pe_int) pa_nil)))
              (pss_one (ps_set (i := 3) sc_law_draws.nd rfl (.inl rfl) (pe_op op_fdiv (pv 3) pe_int))))
              pss_nil))))
          (pss_cons (ps_set (i := 5) sc_law_draws.nd rfl (.inl rfl) (pe_op op_mod (pe_callTy call_int1 (by rfl) T.m_int (by decide +kernel) (pa_cons (pe_op op_add (pe_op op_mul (pv 3) pe_int) (pe_op op_mul (pe_op op_add (pv 2) pe_int) pe_int)) pa_nil)) pe_int))
          (pss_cons (ps_set (i := 5) sc_law_draws.nd rfl (.inl rfl) (pe_op op_mod (pe_callTy call_int1 (by rfl) T.m_int (by decide +kernel) (pa_cons (pe_op op_add (pe_op op_add (pe_op op_mul (pv 5) pe_int) (pe_op op_mul pe_int (pv 2))) pe_int) pa_nil)) pe_int))
          (pss_cons (ps_expr (pe_bm PySem.F.plainAttrs_list PySem.F.slot_list_append PySem.F.type_list_append mt_append (pv 1) (pa_cons (pe_op op_mod (pe_callTy call_int1 (by rfl) T.m_int (by decide +kernel) (pa_cons (pv 5) pa_nil)) pe_int) pa_nil)))
          (pss_one (ps_expr (pe_bm PySem.F.plainAttrs_list PySem.F.slot_list_append PySem.F.type_list_append mt_append (pv 1) (pa_cons (pe_op op_mod (pe_callTy call_int1 (by rfl) T.m_int (by decide +kernel) (pa_cons (pe_op op_fdiv (pv 5) pe_int) pa_nil)) pe_int) pa_nil)))))))))))
      (pss_one (ps_ret (pv 1))))), ?_⟩
    refine ⟨Nat.zero_le _, fun p hp => ?_⟩
    have s0 := same_upd (o := .lst []) hp
    obtain ⟨L, hL, eL⟩ : ∃ L : Nat, L ≤ ns.length ∧ L ≤ 63 ∧ (if ((ns.map V.int).length : Int) < 63 then ((ns.map V.int).length : Int) else 63) = (L : Int) := by
      refine ⟨min ns.length 63, Nat.min_le_left _ _, Nat.min_le_right _ _, ?_⟩
      rw [List.length_map]
      split <;> omega
    refine ⟨.ref a, rfl, a, _, rfl, .inl (s0.seq ha), 63, _, rfl, (L : Int), congrArg (fun z => [V.int z]) eL.2, by omega, by omega, ?_⟩
    refine for_range (n := (L : Int).toNat) (lo := 0) (fun i σ H' => Same H H' ∧ ∃ ds v2 v3 v4 v5, σ = [some (.ref a), some (.ref p), v2, v3, v4, v5] ∧ IL H' p ds ∧ ds.length ≤ 60 * i) ⟨s0, [], none, none, none, none, rfl, upd_same, Nat.zero_le _⟩ (fun i σ H' hi hP => ?_) (fun σ H' hP => ?_)
    · obtain ⟨sm, ds, v2, v3, v4, v5, rfl, hd, hn⟩ := hP
      have hi' : i < ns.length := by omega
      refine ⟨.ref a, rfl, _, rfl, a, _, _, _, rfl, rfl, sm.seq ha, at_map' (m := i) (by omega) hi', _, rfl, ?_⟩
      obtain ⟨r, hr1, er⟩ : ∃ r : Int, 0 ≤ r ∧ (if cf ns i < 0 then -cf ns i else cf ns i) = r := ⟨_, by split <;> omega, rfl⟩
      rw [er]
      refine ⟨_, rfl, _, _, rfl, rfl, ⟨by decide, by decide, by decide⟩, _, _, rfl, rfl, _, rfl, ?_⟩
      refine ite2 (fun _ => ?_) (fun hlt => ?_)
      · refine ⟨60, rfl, by decide, by decide, ?_⟩
        refine for_range (n := 60) (lo := 0) (fun j σ H' => Same H H' ∧ ∃ ds v2 v4 v5 r, σ = [some (.ref a), some (.ref p), v2, some (.int r), v4, v5] ∧ 0 ≤ r ∧ IL H' p ds ∧ ds.length ≤ 60 * i + j) ⟨sm, ds, _, _, _, r, rfl, hr1, hd, hn⟩ (fun j σ H' hj hP => ?_) (fun σ H' hP => ?_)
        · obtain ⟨sm, ds, v2, v4, v5, r, rfl, hr1, hd, hn⟩ := hP
          refine ⟨_, rfl, _, _, rfl, rfl, _, rfl, ?_⟩
          refine ite2 (fun _ => ?_) (fun _ => ⟨sm, ds, _, _, _, r, rfl, hr1, hd, by omega⟩)
          refine ⟨.ref p, rfl, .inl ⟨rfl, _, hd.sq⟩, _, rfl, .inl ⟨_, rfl, _, _, rfl, rfl, (by show (0 : Int) < _; decide), p, _, _, rfl, rfl, hd, by rw [List.length_map]; exact small' (by omega), ?_⟩⟩
          rw [app_ints]
          refine ⟨_, rfl, _, _, rfl, rfl, ⟨by decide, by decide⟩, ?_⟩
          exact ⟨same_over sm hp, _, _, _, _, _, rfl, by omega, il_upd, by rw [List.length_append]; show _ + 1 ≤ _; omega⟩
        · obtain ⟨sm, ds, v2, v4, v5, r, rfl, hr1, hd, hn⟩ := hP
          exact ⟨sm, ds, _, _, _, _, rfl, hd, by omega⟩
      · have hr2 : r < 10 ^ 18 := by
          have e : ((10 : Int) ^ (18 : Int).toNat) = 10 ^ 18 := rfl
          rw [e] at hlt
          have := of_decide_eq_false (Bool.eq_false_iff.mpr hlt)
          omega
        refine ⟨_, rfl, _, _, rfl, rfl, .inl ⟨by omega, by omega⟩, _, rfl, _, _, rfl, rfl, _, _, rfl, rfl, .inr ⟨by decide, by decide⟩, _, _, rfl, rfl, .inl ⟨_, rfl, _, _, rfl, rfl, (by show (0 : Int) < _; decide), ?_⟩⟩
        refine ⟨_, rfl, _, _, rfl, rfl, .inr ⟨by decide, by decide⟩, _, rfl, _, _, rfl, rfl, .inl ⟨by decide, by decide⟩, _, _, rfl, rfl, _, _, rfl, rfl, .inl ⟨_, rfl, _, _, rfl, rfl, (by show (0 : Int) < _; decide), ?_⟩⟩
        refine ⟨.ref p, rfl, .inl ⟨rfl, _, hd.sq⟩, _, rfl, .inl ⟨_, rfl, _, _, rfl, rfl, (by show (0 : Int) < _; decide), p, _, _, rfl, rfl, hd, by rw [List.length_map]; exact small' (by omega), ?_⟩⟩
        rw [app_ints]
        refine ⟨.ref p, rfl, .inl ⟨rfl, _, il_upd.sq⟩, _, rfl, _, _, rfl, rfl, ⟨by decide, by decide⟩, .inl ⟨_, rfl, _, _, rfl, rfl, (by show (0 : Int) < _; decide), p, _, _, rfl, rfl, il_upd, by rw [List.length_map, List.length_append]; exact small' (by show _ + 1 < _; omega), ?_⟩⟩
        rw [app_ints]
        exact ⟨same_over (same_over sm hp) hp, _, _, _, _, _, rfl, il_upd, by rw [List.length_append, List.length_append]; show _ + 1 + 1 ≤ _; omega⟩
    · obtain ⟨sm, ds, v2, v3, v4, v5, rfl, hd, hn⟩ := hP
      exact ⟨_, rfl, q H' p ds sm hp hd (by omega)⟩
def sp_law_mix : Sp := fun vs H Q _ => ∃ (a : Addr) (ds : List Int) (k many : Int), vs = [.ref a, .int k, .int many] ∧ IL H a ds ∧ 0 ≤ k ∧ 0 < many ∧ ∀ r, 0 ≤ r → r < many → Q (.int r) H
theorem ok_law_mix (T : Txt K mg) : FnOk P w K mg base CX0 1 T.law_mix.a T.law_mix.fd ["draws", "k", "many"] sp_law_mix := by
  refine T.law_mix.F.ok sc_law_mix (fun vs H Q E h => ?_) (fun cdv A outer s H vs Q E hr h => ?_)
  · obtain ⟨a, ds, k, m, rfl, _⟩ := h
    rfl
  · obtain ⟨a, ds, k, m, rfl, ha, hk, hm, q⟩ := h
    have qq : ∀ z : Int, Q (.int (z % m)) H := fun z => q _ (Int.emod_nonneg _ (by omega)) (Int.emod_lt_of_pos _ hm)
    refine ⟨_, (pss_cons (ps_set (i := 3) sc_law_mix.nd rfl (.inl rfl) pe_int)
      (pss_cons (ps_if (pt_cmpR op_gt (pe_callB call_len_seq (by rfl) T.m_len (by decide +kernel) (pa_cons (pv 0) pa_nil)) pe_int (nomark _))
        (pss_one (ps_set (i := 3) sc_law_mix.nd rfl (.inl rfl) (pe_ix ix_list (pv 0) (pe_op op_mod (pe_callTy call_int1 (by rfl) T.m_int (by decide +kernel) (pa_cons (pv 1) pa_nil)) (pe_callB call_len_seq (by rfl) T.m_len (by decide +kernel) (pa_cons (pv 0) pa_nil))) (fun _ _ => rfl))))
        pss_nil)
      (pss_cons (ps_if (pt_cmpR op_lt (pv 1) (pe_callB call_len_seq (by rfl) T.m_len (by decide +kernel) (pa_cons (pv 0) pa_nil)) (nomark _))
        (pss_one (ps_ret (pe_op op_mod (pe_callTy call_int1 (by rfl) T.m_int (by decide +kernel) (pa_cons (pv 3) pa_nil)) (pv 2))))
        pss_nil)
      (pss_one (ps_ret (pe_op op_mod (pe_callTy call_int1 (by rfl) T.m_int (by decide +kernel) (pa_cons (pe_op op_fdiv (pe_callTy call_int1 (by rfl) T.m_int (by decide +kernel) (pa_cons (pe_op op_add (pe_op op_mul (pv 3) pe_int) (pe_op op_mul (pv 1) pe_int)) pa_nil)) pe_int) pa_nil)) (pv 2))))))), ?_⟩
    refine ⟨.ref a, rfl, a, _, rfl, .inl ha.sq, _, _, rfl, rfl, _, rfl, ?_⟩
    rw [List.length_map]
    refine ite2 (fun h => ?_) (fun h => ?_)
    · have hp : 0 < ds.length := by have := of_decide_eq_true h; omega
      obtain ⟨n, hn, en⟩ : ∃ n : Nat, n < ds.length ∧ k % (ds.length : Int) = (n : Int) := ⟨(k % (ds.length : Int)).toNat, by have := Int.emod_nonneg k (show (ds.length : Int) ≠ 0 by omega); have := Int.emod_lt_of_pos k (show (0 : Int) < ds.length by omega); omega, by have := Int.emod_nonneg k (show (ds.length : Int) ≠ 0 by omega); omega⟩
      refine ⟨.ref a, rfl, _, rfl, .inl ⟨_, rfl, .ref a, rfl, a, _, rfl, .inl ha.sq, _, _, rfl, rfl, (by show (0 : Int) < _; rw [List.length_map]; omega), a, _, _, _, rfl, rfl, ha.sq, at_map' (m := n) (by rw [List.length_map]; exact en) hn, ?_⟩⟩
      refine ⟨_, rfl, .ref a, rfl, a, _, rfl, .inl ha.sq, _, _, rfl, rfl, _, rfl, ?_⟩
      refine ite2 (fun _ => ?_) (fun _ => ?_)
      · exact ⟨_, rfl, .inl ⟨_, rfl, _, rfl, _, _, rfl, rfl, hm, qq _⟩⟩
      · exact ⟨_, rfl, _, _, rfl, rfl, .inr ⟨by decide, by decide⟩, _, rfl, _, _, rfl, rfl, .inr ⟨by decide, by decide⟩, _, _, rfl, rfl, .inl ⟨_, rfl, _, _, rfl, rfl, ⟨by decide, by decide⟩, .inl ⟨_, rfl, _, rfl, _, _, rfl, rfl, hm, qq _⟩⟩⟩
    · refine ⟨_, rfl, .ref a, rfl, a, _, rfl, .inl ha.sq, _, _, rfl, rfl, _, rfl, ?_⟩
      refine ite2 (fun _ => ?_) (fun _ => ?_)
      · exact ⟨_, rfl, .inl ⟨_, rfl, _, rfl, _, _, rfl, rfl, hm, qq _⟩⟩
      · exact ⟨_, rfl, _, _, rfl, rfl, .inr ⟨by decide, by decide⟩, _, rfl, _, _, rfl, rfl, .inr ⟨by decide, by decide⟩, _, _, rfl, rfl, .inl ⟨_, rfl, _, _, rfl, rfl, ⟨by decide, by decide⟩, .inl ⟨_, rfl, _, rfl, _, _, rfl, rfl, hm, qq _⟩⟩⟩
end
-- E47
section
variable {P : Program} {w : World} {K : PySem.W.Frag} {mg : Str → Option Value} {base : Heap}
theorem cut_to {ns : List Int} {m : Nat} (h : m ≤ ns.length) : cutV (ns.map V.int) none (some (m : Int)) = (ns.take m).map V.int := by
  unfold cutV
  rw [HT.sIx_none, HT.sIx_nat, List.drop_zero, List.length_map, Nat.min_eq_left h, Nat.sub_zero, List.map_take]
theorem cut_from {ns : List Int} : cutV (ns.map V.int) (some ((1 : Nat) : Int)) none = (ns.drop 1).map V.int := by
  unfold cutV
  rw [HT.sIx_none, HT.sIx_nat, List.length_map, List.map_drop, List.take_of_length_le]
  · cases ns with
    | nil => rfl
    | cons x r => rw [Nat.min_eq_left (by show 1 ≤ r.length + 1; omega)]
  · rw [List.length_drop, List.length_map]; exact Nat.le_refl _
def sp_law_trimmed (K : PySem.W.Frag) : Sp := fun vs H Q _ => ∃ (a : Addr) (ns : List Int), vs = [.ref a] ∧ SqL K H a (ns.map V.int) ∧ ns.length ≤ 400 ∧ ∀ H' p m, Same H H' → H p = none → ns.take m = trim ns → IL H' p (ns.take m) → Q (.ref p) H'
theorem ok_law_trimmed (T : Txt K mg) : FnOk P w K mg base CX0 1 T.law_trimmed.a T.law_trimmed.fd ["numbers"] (sp_law_trimmed K) := by
  refine T.law_trimmed.F.ok sc_law_trimmed (fun vs H Q E h => ?_) (fun cdv A outer s H vs Q E hr h => ?_)
  · obtain ⟨a, ns, rfl, _⟩ := h
    rfl
  · obtain ⟨a, ns, rfl, ha, hl, q⟩ := h
    refine ⟨_, (pss_cons (ps_set (i := 1) sc_law_trimmed.nd rfl (.inl rfl) (pe_callB call_len_seq (by rfl) T.m_len (by decide +kernel) (pa_cons (pv 0) pa_nil)))
      (pss_cons (ps_for PassesOwn.never rfl (pi_range1 (by rfl) T.m_range (pa_cons (pe_callB call_len_seq (by rfl) T.m_len (by decide +kernel) (pa_cons (pv 0) pa_nil)) pa_nil)) (pg_name (i := 2) sc_law_trimmed.nd rfl (.inl rfl))
        (pss_one (ps_if (PW.pt (pw_and (pt_cmpR op_gt (pv 1) pe_int (nomark _)) (pw_and1 (pt_cmpR op_eq (pe_ix ix_list (pv 0) (pe_op op_sub (pv 1) pe_int) (fun _ _ => rfl)) pe_int (nomark _)))))
          (pss_one (ps_set (i := 1) sc_law_trimmed.nd rfl (.inl rfl) (pe_op op_sub (pv 1) pe_int)))
          pss_nil)))
      (pss_one (ps_ret (pe_slice sl_list (pv 0) po_none (po_some (pv 1))))))), ?_⟩
    refine ⟨.ref a, rfl, a, _, rfl, .inl ha, ?_⟩
    refine ⟨.ref a, rfl, a, _, rfl, .inl ha, (ns.length : Nat), by rw [List.length_map], by omega, by omega, ?_⟩
    rw [Int.toNat_natCast, List.length_map]
    refine for_range (n := ns.length) (lo := 0) (fun i σ H' => H' = H ∧ ∃ (m : Nat) (v2 : Option V), σ = [some (.ref a), some (.int (m : Int)), v2] ∧ m ≤ ns.length ∧ (∀ x, m ≤ x → cf ns x = 0) ∧ (m + i = ns.length ∨ m = 0 ∨ cf ns (m - 1) ≠ 0)) ⟨rfl, ns.length, none, rfl, Nat.le_refl _, fun x h => cf_ge h, .inl rfl⟩ (fun i σ H' hi hP => ?_) (fun σ H' hP => ?_)
    · obtain ⟨rfl, m, v2, rfl, hm, hz, ho⟩ := hP
      refine ⟨_, rfl, _, _, rfl, rfl, _, rfl, ?_⟩
      refine ite2 (fun h => ?_) (fun h => iteF ⟨rfl, m, _, rfl, hm, hz, .inr (.inl (by have : ¬ (0 < (m : Int)) := fun z => h (decide_eq_true z); omega))⟩)
      have m0 : 0 < m := by have := of_decide_eq_true h; omega
      refine ⟨.ref a, rfl, _, rfl, _, _, rfl, rfl, a, _, _, _, rfl, rfl, ha, at_map' (m := m - 1) (by omega) (by omega), rfl, _, rfl, ?_⟩
      refine ite2 (fun h1 => ?_) (fun h1 => ⟨rfl, m, _, rfl, hm, hz, .inr (.inr fun z => h1 (by rw [z]; rfl))⟩)
      have z1 : cf ns (m - 1) = 0 := V.int.inj (of_decide_eq_true h1)
      refine ⟨_, rfl, _, _, rfl, rfl, rfl, m - 1, some (.int (0 + (i : Int))), ?_, by omega, fun x hx => ?_, ?_⟩
      · rw [show ((m - 1 : Nat) : Int) = (m : Int) - 1 by omega]; rfl
      · rcases Nat.lt_or_ge x m with q2 | q2
        · rw [show x = m - 1 by omega]; exact z1
        · exact hz x q2
      · rcases ho with z | z | z
        · exact .inl (by omega)
        · omega
        · exact absurd z1 z
    · obtain ⟨rfl, m, v2, rfl, hm, hz, ho⟩ := hP
      refine ⟨.ref a, rfl, _, rfl, _, rfl, a, _, rfl, ha, fun p hp => ?_⟩
      exact q _ p m (same_upd hp) hp (take_trim hm hz (by rcases ho with z | z | z <;> first | exact .inl (by omega) | exact .inr z)) (by rw [cut_to hm]; exact upd_same)
theorem neg_le {i : Int} {b : Nat} (h : i.natAbs ≤ b) : (-i).natAbs ≤ b := by rw [Int.natAbs_neg]; exact h
def sp_law_number : Sp := fun vs H Q _ => ∃ (a : Addr) (ds : List Int) (k : Int), vs = [.ref a, .int k] ∧ IL H a ds ∧ 0 ≤ k ∧ ∀ H' r, Same H H' → r.natAbs ≤ 10 ^ 30 → Q (.int r) H'
theorem ok_law_number (T : Txt K mg) : FnOk P w K mg base CX0 2 T.law_number.a T.law_number.fd ["draws", "k"] sp_law_number := by
  refine T.law_number.F.ok sc_law_number (fun vs H Q E h => ?_) (fun cdv A outer s H vs Q E hr h => ?_)
  · obtain ⟨a, ds, k, rfl, _⟩ := h
    rfl
  · obtain ⟨a, ds, k, rfl, ha, hk, q⟩ := h
    refine ⟨_, (pss_cons (ps_set (i := 2) sc_law_number.nd rfl (.inl rfl) (pe_op op_sub (pe_op op_pow pe_int pe_int) (pe_call (ok_law_mix T) (hr.mono (by decide)) (by rfl) T.law_mix.g T.law_mix.F.kp T.law_mix.b .nil pass0 (pa_cons (pv 0) (pa_cons (pe_op op_add (pv 1) pe_int) (pa_cons pe_int pa_nil))))))
      (pss_cons (ps_set (i := 3) sc_law_number.nd rfl (.inl rfl) (pe_lst (pa_cons pe_int (pa_cons (pe_un un_neg pe_int) (pa_cons pe_int (pa_cons (pe_op op_add pe_int (pe_call (ok_law_mix T) (hr.mono (by decide)) (by rfl) T.law_mix.g T.law_mix.F.kp T.law_mix.b .nil pass0 (pa_cons (pv 0) (pa_cons (pe_op op_add (pv 1) pe_int) (pa_cons pe_int pa_nil))))) (pa_cons (pe_op op_add pe_int (pe_call (ok_law_mix T) (hr.mono (by decide)) (by rfl) T.law_mix.g T.law_mix.F.kp T.law_mix.b .nil pass0 (pa_cons (pv 0) (pa_cons (pe_op op_add (pv 1) pe_int) (pa_cons pe_int pa_nil))))) (pa_cons (pe_un un_neg pe_int) (pa_cons (pv 2) (pa_cons (pe_un un_neg (pv 2)) pa_nil))))))))))
      (pss_one (ps_ret (pe_ix ix_list (pv 3) (pe_call (ok_law_mix T) (hr.mono (by decide)) (by rfl) T.law_mix.g T.law_mix.F.kp T.law_mix.b .nil pass0 (pa_cons (pv 0) (pa_cons (pv 1) (pa_cons pe_int pa_nil)))) (fun _ _ => rfl)))))), ?_⟩
    refine ⟨_, _, rfl, rfl, ⟨by decide, by decide, by decide⟩, .ref a, rfl, _, rfl, _, _, rfl, rfl, a, ds, _, _, rfl, ha, by omega, by decide, fun r1 p1 u1 => ?_⟩
    refine ⟨_, _, rfl, rfl, ?_⟩
    obtain ⟨g, eg, hg⟩ : ∃ g : Int, (10 : Int) ^ (30 : Int).toNat - r1 = g ∧ g.natAbs ≤ 10 ^ 30 := ⟨_, rfl, by
      have e : ((10 : Int) ^ (30 : Int).toNat) = 10 ^ 30 := rfl
      rw [e]
      omega⟩
    show gName 2 (V.int ((10 : Int) ^ (30 : Int).toNat - r1)) _ _ _
    rw [eg]
    refine ⟨_, rfl, .ref a, rfl, _, rfl, _, _, rfl, rfl, a, ds, _, _, rfl, ha, by omega, by decide, fun r2 p2 u2 => ?_⟩
    refine ⟨_, _, rfl, rfl, ?_⟩
    refine ⟨.ref a, rfl, _, rfl, _, _, rfl, rfl, a, ds, _, _, rfl, ha, by omega, by decide, fun r3 p3 u3 => ?_⟩
    refine ⟨_, _, rfl, rfl, ?_⟩
    refine ⟨_, rfl, _, rfl, _, rfl, _, rfl, ?_⟩
    refine ⟨by show 8 ≤ sizeLine; decide, fun l nl => ?_⟩
    have s1 := same_upd nl (o := .lst [.int 1, .int (-1), .int 2, .int (1 + r2), .int (1 + r3), .int (-1000000), .int g, .int (-g)])
    refine ⟨.ref l, rfl, .ref a, rfl, _, rfl, a, ds, _, _, rfl, ha.same s1, hk, by decide, fun r4 p4 u4 => ?_⟩
    have hall : ∀ x ∈ [1, -1, 2, 1 + r2, 1 + r3, -1000000, g, -g], x.natAbs ≤ 10 ^ 30 := fun x hx => by
      simp only [List.mem_cons, List.not_mem_nil, or_false] at hx
      rcases hx with rfl | rfl | rfl | rfl | rfl | rfl | rfl | rfl <;> first
        | exact hg
        | exact neg_le hg
        | omega
    have hlt : r4.toNat < [1, -1, 2, 1 + r2, 1 + r3, -1000000, g, -g].length := by show _ < 8; omega
    refine ⟨l, _, _, _, rfl, rfl, .of upd_same, at_map' (ns := [1, -1, 2, 1 + r2, 1 + r3, -1000000, g, -g]) (m := r4.toNat) (by omega) hlt, ?_⟩
    exact q _ _ s1 (hall _ (mem_at (at_map hlt)))
end
-- F47
section
variable {P : Program} {w : World} {K : PySem.W.Frag} {mg : Str → Option Value} {base : Heap}
theorem rep0 (n : Nat) : (List.replicate n [V.int 0]).flatten = (List.replicate n (0 : Int)).map V.int := by rw [List.flatten_replicate_singleton, List.map_replicate]
theorem ix_ok {n j : Nat} {i : Int} (e : i = (j : Int)) (h : j < n) : ixN n i = some j := by
  unfold ixN
  rw [if_pos (by omega), if_pos (by omega), e]; rfl
theorem mem_set {α : Type} {xs : List α} {i : Nat} {y x : α} (h : x ∈ xs.set i y) : x ∈ xs ∨ x = y := List.mem_or_eq_of_mem_set h
theorem set_map {xs : List Int} {i : Nat} {r : Int} : (xs.map V.int).set i (V.int r) = (xs.set i r).map V.int := by rw [List.map_set]
def OutE (H : Hp) (Q : VK) : Prop := ∀ H' p ns, Same H H' → H p = none → IL H' p ns → VE ns → Q (.ref p) H'
def sp_law_element : Sp := fun vs H Q _ => ∃ (a : Addr) (ds : List Int) (k sh : Int), vs = [.ref a, .int k, .int sh] ∧ IL H a ds ∧ 0 ≤ k ∧ OutE H Q
theorem ok_law_element (T : Txt K mg) : FnOk P w K mg base CX0 3 T.law_element.a T.law_element.fd ["draws", "k", "shares"] sp_law_element := by
  refine T.law_element.F.ok sc_law_element (fun vs H Q E h => ?_) (fun cdv A outer s H vs Q E hr h => ?_)
  · obtain ⟨a, ds, k, sh, rfl, _⟩ := h
    rfl
  · obtain ⟨a, ds, k, sh, rfl, ha, hk, q⟩ := h
    refine ⟨_, (pss_cons (ps_if (pt_cmpR op_lt (pe_call (ok_law_mix T) (hr.mono (by decide)) (by rfl) T.law_mix.g T.law_mix.F.kp T.law_mix.b .nil pass0 (pa_cons (pv 0) (pa_cons (pv 1) (pa_cons pe_int pa_nil)))) (pv 2) (nomark _))
        (pss_one (ps_ret (pe_lst pa_nil)))
        pss_nil)
      (pss_cons (ps_set (i := 3) sc_law_element.nd rfl (.inl rfl) (pe_op op_rep (pe_lst (pa_cons pe_int pa_nil)) (pe_call (ok_law_mix T) (hr.mono (by decide)) (by rfl) T.law_mix.g T.law_mix.F.kp T.law_mix.b .nil pass0 (pa_cons (pv 0) (pa_cons (pe_op op_add (pv 1) pe_int) (pa_cons (pe_ix ix_list (pe_lst (pa_cons pe_int (pa_cons pe_int (pa_cons pe_int (pa_cons pe_int pa_nil))))) (pe_call (ok_law_mix T) (hr.mono (by decide)) (by rfl) T.law_mix.g T.law_mix.F.kp T.law_mix.b .nil pass0 (pa_cons (pv 0) (pa_cons (pe_op op_add (pv 1) pe_int) (pa_cons pe_int pa_nil)))) (fun _ _ => rfl)) pa_nil))))))
      (pss_cons (ps_for PassesOwn.never rfl (pi_range1 (by rfl) T.m_range (pa_cons (pe_callB call_len_seq (by rfl) T.m_len (by decide +kernel) (pa_cons (pv 3) pa_nil)) pa_nil)) (pg_name (i := 4) sc_law_element.nd rfl (.inl rfl))
        (pss_one (ps_if (pt_cmpR op_eq (pe_call (ok_law_mix T) (hr.mono (by decide)) (by rfl) T.law_mix.g T.law_mix.F.kp T.law_mix.b .nil pass0 (pa_cons (pv 0) (pa_cons (pe_op op_add (pe_op op_add (pv 1) pe_int) (pe_op op_mul pe_int (pv 4))) (pa_cons pe_int pa_nil)))) pe_int (nomark _))
          (pss_one (ps_asg (pe_call (ok_law_number T) (hr.mono (by decide)) (by rfl) T.law_number.g T.law_number.F.kp T.law_number.b .nil pass0 (pa_cons (pv 0) (pa_cons (pe_op op_add (pe_op op_add (pv 1) pe_int) (pe_op op_mul pe_int (pv 4))) pa_nil))) (pg_sub (pv 3) (pv 4) set_list)))
          pss_nil)))
      (pss_one (ps_ret (pe_op op_cat (pv 3) (pe_lst (pa_cons (pe_call (ok_law_number T) (hr.mono (by decide)) (by rfl) T.law_number.g T.law_number.F.kp T.law_number.b .nil pass0 (pa_cons (pv 0) (pa_cons (pe_op op_add (pv 1) pe_int) pa_nil))) pa_nil)))))))), ?_⟩
    refine ⟨.ref a, rfl, _, rfl, a, ds, _, _, rfl, ha, hk, by decide, fun r0 p0 u0 => ?_⟩
    refine ⟨_, rfl, _, _, rfl, rfl, _, rfl, ?_⟩
    refine ite2 (fun _ => ?_) (fun _ => ?_)
    · exact ⟨by show 0 ≤ sizeLine; decide, fun p hp => q _ p [] (same_upd hp) hp upd_same ⟨by show 0 ≤ 13; decide, fun _ z => by cases z⟩⟩
    refine ⟨by show 1 ≤ sizeLine; decide, fun l0 n0 => ?_⟩
    have s0 := same_upd n0 (o := .lst [.int 0])
    refine ⟨.ref a, rfl, _, rfl, _, _, rfl, rfl, by show 4 ≤ sizeLine; decide, fun l1 n1 => ?_⟩
    have s1 := same_upd n1 (o := .lst [.int 2, .int 4, .int 4, .int 13])
    refine ⟨.ref a, rfl, _, rfl, _, _, rfl, rfl, a, ds, _, _, rfl, ha.same (s0.trans s1), by omega, by decide, fun r2 p2 u2 => ?_⟩
    have hlt : r2.toNat < [(2 : Int), 4, 4, 13].length := by show _ < 4; omega
    refine ⟨l1, _, _, _, rfl, rfl, .of upd_same, at_map' (ns := [2, 4, 4, 13]) (m := r2.toNat) (by omega) hlt, ?_⟩
    have hm : ∀ x ∈ [(2 : Int), 4, 4, 13], 0 < x ∧ x ≤ 13 := by decide
    obtain ⟨m0, m1⟩ := hm _ (mem_at (at_map hlt))
    refine ⟨a, ds, _, _, rfl, ha.same (s0.trans s1), by omega, m0, fun r3 p3 u3 => ?_⟩
    obtain ⟨n, en, hn⟩ : ∃ n : Nat, r3 = (n : Int) ∧ n ≤ 12 := ⟨r3.toNat, by omega, by omega⟩
    subst en
    refine ⟨l0, _, _, rfl, rfl, s1 _ _ upd_same, by omega, by omega, by show 1 * _ ≤ _; rw [Int.toNat_natCast]; exact small (by omega), fun D nD => ?_⟩
    rw [Int.toNat_natCast, rep0]
    have sD := s0.trans (s1.trans (same_upd nD (o := .lst ((List.replicate n (0 : Int)).map V.int))))
    have nD0 : H D = none := (s0.trans s1).free nD
    refine ⟨.ref D, rfl, D, _, rfl, .inl (.of upd_same), (n : Nat), by rw [List.length_map, List.length_replicate], by omega, by omega, ?_⟩
    rw [Int.toNat_natCast]
    refine for_range (n := n) (lo := 0) (fun i σ H' => Same H H' ∧ ∃ (xs : List Int) (v4 : Option V), σ = [some (.ref a), some (.int k), some (.int sh), some (.ref D), v4] ∧ IL H' D xs ∧ xs.length = n ∧ ∀ x ∈ xs, x.natAbs ≤ 10 ^ 30) ⟨sD, _, none, rfl, upd_same, List.length_replicate, fun x hx => by rw [(List.mem_replicate.mp hx).2]; decide⟩ (fun i σ H' hi hP => ?_) (fun σ H' hP => ?_)
    · obtain ⟨sm, xs, v4, rfl, hD, hl, hb⟩ := hP
      refine ⟨.ref a, rfl, _, rfl, _, _, rfl, rfl, _, rfl, _, _, rfl, rfl, .inl ⟨by decide, by decide⟩, _, _, rfl, rfl, a, ds, _, _, rfl, ha.same sm, by omega, by decide, fun r4 p4 u4 => ⟨rfl, _, rfl, ?_⟩⟩
      refine ite2 (fun _ => ?_) (fun _ => ⟨sm, xs, _, rfl, hD, hl, hb⟩)
      refine ⟨.ref a, rfl, _, rfl, _, _, rfl, rfl, _, rfl, _, _, rfl, rfl, .inl ⟨by decide, by decide⟩, _, _, rfl, rfl, a, ds, _, rfl, ha.same sm, by omega, fun G r5 s5 u5 => ?_⟩
      refine ⟨.ref D, rfl, _, rfl, D, _, _, i, rfl, rfl, s5 _ _ hD, ix_ok (by omega) (by rw [List.length_map]; omega), ?_⟩
      rw [set_map]
      refine ⟨same_over (sm.trans s5) nD0, _, _, rfl, upd_same, by rw [List.length_set]; exact hl, fun x hx => ?_⟩
      rcases mem_set hx with z | z
      · exact hb x z
      · rw [z]; exact u5
    · obtain ⟨sm, xs, v4, rfl, hD, hl, hb⟩ := hP
      refine ⟨.ref D, rfl, .ref a, rfl, _, rfl, _, _, rfl, rfl, a, ds, _, rfl, ha.same sm, by omega, fun G r6 s6 u6 => ?_⟩
      refine ⟨by show 1 ≤ sizeLine; decide, fun l2 n2 => ?_⟩
      have s2 := same_upd n2 (o := .lst [.int r6])
      refine ⟨D, l2, _, _, rfl, rfl, s2 _ _ (s6 _ _ hD), upd_same, by rw [List.length_map]; exact small (by show _ + 1 ≤ _; omega), fun p np => ?_⟩
      have sp := same_upd np (o := .lst (xs.map V.int ++ [.int r6]))
      refine q _ p (xs ++ [r6]) (sm.trans (s6.trans (s2.trans sp))) ((sm.trans (s6.trans s2)).free np) (by unfold IL; rw [← app_ints]; exact upd_same) ⟨by rw [List.length_append]; show _ + 1 ≤ _; omega, fun x hx => ?_⟩
      rcases List.mem_append.mp hx with z | z
      · exact hb x z
      · rw [List.mem_singleton.mp z]; exact u6
def sp_law_orders : Sp := fun vs H Q _ => ∃ (a : Addr) (ds : List Int) (k sh : Int), vs = [.ref a, .int k, .int sh] ∧ IL H a ds ∧ 0 ≤ k ∧ OutE H Q
theorem ok_law_orders (T : Txt K mg) : FnOk P w K mg base CX0 2 T.law_orders.a T.law_orders.fd ["draws", "k", "shares"] sp_law_orders := by
  refine T.law_orders.F.ok sc_law_orders (fun vs H Q E h => ?_) (fun cdv A outer s H vs Q E hr h => ?_)
  · obtain ⟨a, ds, k, sh, rfl, _⟩ := h
    rfl
  · obtain ⟨a, ds, k, sh, rfl, ha, hk, q⟩ := h
    refine ⟨_, (pss_cons (ps_if (pt_cmpR op_lt (pe_call (ok_law_mix T) (hr.mono (by decide)) (by rfl) T.law_mix.g T.law_mix.F.kp T.law_mix.b .nil pass0 (pa_cons (pv 0) (pa_cons (pv 1) (pa_cons pe_int pa_nil)))) (pv 2) (nomark _))
        (pss_one (ps_ret (pe_lst pa_nil)))
        pss_nil)
      (pss_cons (ps_set (i := 3) sc_law_orders.nd rfl (.inr rfl) (pe_op op_add pe_int (pe_call (ok_law_mix T) (hr.mono (by decide)) (by rfl) T.law_mix.g T.law_mix.F.kp T.law_mix.b .nil pass0 (pa_cons (pv 0) (pa_cons (pe_op op_add (pv 1) pe_int) (pa_cons pe_int pa_nil))))))
      (pss_cons (ps_if (pt_cmpR op_eq (pe_call (ok_law_mix T) (hr.mono (by decide)) (by rfl) T.law_mix.g T.law_mix.F.kp T.law_mix.b .nil pass0 (pa_cons (pv 0) (pa_cons (pe_op op_add (pv 1) pe_int) (pa_cons pe_int pa_nil)))) pe_int (nomark _))
        (pss_one (ps_ret (pe_callB (cr_sortedSet rfl) (by rfl) T.m_sorted (by decide +kernel) (pa_cons (pe_callTy (LM.call_setR rfl) (by rfl) T.m_set (by decide +kernel) (pa_cons (pe_lst (pa_cons (pe_call (ok_law_mix T) (hr.mono (by decide)) (by rfl) T.law_mix.g T.law_mix.F.kp T.law_mix.b .nil pass0 (pa_cons (pv 0) (pa_cons (pe_op op_add (pv 1) pe_int) (pa_cons pe_int pa_nil)))) (pa_cons (pe_call (ok_law_mix T) (hr.mono (by decide)) (by rfl) T.law_mix.g T.law_mix.F.kp T.law_mix.b .nil pass0 (pa_cons (pv 0) (pa_cons (pe_op op_add (pv 1) pe_int) (pa_cons pe_int pa_nil)))) pa_nil))) pa_nil)) pa_nil))))
        pss_nil)
      (pss_one (ps_ret (pe_lc (own := [("order", 4)]) rfl sc_law_orders.nd (pi_range1 (by rfl) T.m_range (pa_cons pe_int pa_nil)) (blkOk_by (N := ["draws", "k", "shares", "chosen", "order"]) (sc := defScope s_law_orders) (by decide +kernel)) (fun _ _ _ _ _ => (pg_name (i := 4) sc_law_orders.nd rfl (.inl rfl))) (fun _ _ _ _ _ => (pts_one (pt_cmpR op_eq (pe_op op_and (pe_op op_shr (pv 3) (pv 4)) pe_int) pe_int (nomark _)))) (fun _ _ _ _ _ => (pv 4)))))))), ?_⟩
    refine ⟨.ref a, rfl, _, rfl, a, ds, _, _, rfl, ha, hk, by decide, fun r0 p0 u0 => ?_⟩
    refine ⟨_, rfl, _, _, rfl, rfl, _, rfl, ?_⟩
    refine ite2 (fun _ => ?_) (fun _ => ?_)
    · exact ⟨by show 0 ≤ sizeLine; decide, fun p hp => q _ p [] (same_upd hp) hp upd_same ⟨by show 0 ≤ 13; decide, fun _ z => by cases z⟩⟩
    refine ⟨.ref a, rfl, _, rfl, _, _, rfl, rfl, a, ds, _, _, rfl, ha, by omega, by decide, fun r1 p1 u1 => ?_⟩
    refine ⟨_, _, rfl, rfl, ?_⟩
    refine ⟨.ref a, rfl, _, rfl, _, _, rfl, rfl, a, ds, _, _, rfl, ha, by omega, by decide, fun r2 p2 u2 => ⟨rfl, _, rfl, ?_⟩⟩
    refine ite2 (fun _ => ?_) (fun _ => ?_)
    · refine ⟨.ref a, rfl, _, rfl, _, _, rfl, rfl, a, ds, _, _, rfl, ha, by omega, by decide, fun r3 p3 u3 => ?_⟩
      refine ⟨.ref a, rfl, _, rfl, _, _, rfl, rfl, a, ds, _, _, rfl, ha, by omega, by decide, fun r4 p4 u4 => ?_⟩
      refine ⟨by show 2 ≤ sizeLine; decide, fun l1 n1 => ?_⟩
      have s1 := same_upd n1 (o := .lst [.int r3, .int r4])
      refine ⟨l1, [r3, r4], rfl, .of upd_same, by show 2 ≤ 40; decide, fun c S n nc hS hn => ?_⟩
      have hn2 : n ≤ 2 := hn
      have s2 := same_upd nc (o := SetO w c S n)
      refine ⟨c, S, n, rfl, upd_same, by omega, fun ns p pw mem len np => ?_⟩
      refine q _ p ns (s1.trans (s2.trans (same_upd np))) ((s1.trans s2).free np) upd_same ⟨by omega, fun x hx => ?_⟩
      have := hS x ((mem x).mp hx)
      simp only [List.mem_cons, List.not_mem_nil, or_false] at this
      rcases this with rfl | rfl <;> omega
    · refine ⟨4, rfl, by decide, by decide, fun D nD => ?_⟩
      refine lc_inv (walk_range (lo := 0) (n := 4)) (fun i G ys => ∃ ns : List Int, ys = ns.map V.int ∧ ns.length ≤ i ∧ ∀ x ∈ ns, 0 ≤ x ∧ x < 4) nD (fun _ _ => trivial) (by decide) ⟨[], rfl, Nat.le_refl _, fun _ z => by cases z⟩ (fun i x G Hx ys hi sm hD hR y Qt Qf qt qf => ?_) (fun G ys sm hD hR => ?_)
      · obtain ⟨rfl, rfl⟩ := y
        obtain ⟨ns, rfl, hl, hb⟩ := hR
        refine ⟨rfl, _, rfl, _, rfl, _, _, rfl, rfl, by omega, _, _, rfl, rfl, rfl, _, rfl, ?_⟩
        refine ite2 (fun _ => ?_) (fun _ => ?_)
        · refine ⟨_, rfl, qt _ _ (Same.refl _) ⟨ns ++ [0 + (i : Int)], app_ints, by rw [List.length_append]; exact Nat.succ_le_succ hl, fun x hx => ?_⟩⟩
          rcases List.mem_append.mp hx with z | z
          · exact hb x z
          · rw [List.mem_singleton.mp z]; omega
        · exact qf _ (Same.refl _) ⟨ns, rfl, by omega, hb⟩
      · obtain ⟨ns, rfl, hl, hb⟩ := hR
        exact q _ D ns sm nD hD ⟨by omega, fun x hx => by have := hb x hx; omega⟩
end
-- G47
/-- a statement by what is asked of one before it -/
theorem ps_via {X : Cx} {st : Stmt} {t t' : TS} (h : PS X st t) (f : ∀ D σ H, t' D σ H → t D σ H) : PS X st t' := ⟨fun pins s σ H D I z => h.run pins s σ H D I (f D σ H z)⟩
/-- a row under way: its elements new, none of them at D -/
def RN (D : Addr) (H0 H : Hp) (as : List Addr) (es : List (List Int)) : Prop := A2 (fun a ns => (a ≠ D ∧ H0 a = none) ∧ IL H a ns) as es
/-- a row, its elements new -/
def RowF (H0 H : Hp) (b : Addr) (els : List (List Int)) : Prop := ∃ as : List Addr, H b = some (.lst (as.map V.ref)) ∧ A2 (fun e ns => H0 e = none ∧ IL H e ns) as els
theorem RN.up {D : Addr} {H0 H H' : Hp} {as : List Addr} {es : List (List Int)} (h : RN D H0 H as es) (s : SameX D H H') : RN D H0 H' as es := h.mono fun _ _ z => ⟨z.1, s _ _ z.1.1 z.2⟩
theorem RN.row {D : Addr} {H0 H : Hp} {as : List Addr} {es : List (List Int)} (h : RN D H0 H as es) (hD : H D = some (.lst (as.map V.ref))) : RowF H0 H D es := ⟨as, hD, h.mono fun _ _ z => ⟨z.1.2, z.2⟩⟩
theorem RN.snoc {D y : Addr} {H0 H H4 : Hp} {as : List Addr} {es : List (List Int)} {e : List Int} {o : HO} (h : RN D H0 H as es) (s : Same H H4) (n : y ≠ D) (n0 : H0 y = none) (hy : IL H4 y e) : RN D H0 (upd H4 D o) (as ++ [y]) (es ++ [e]) :=
  A2.snoc ⟨⟨n, n0⟩, by unfold IL; rw [upd_ne n]; exact hy⟩ (h.up ((sx s).trans SameX.put))
theorem ve_snoc {es : List (List Int)} {e : List Int} (h : ∀ x ∈ es, VE x) (n : VE e) : ∀ x ∈ es ++ [e], VE x := fun x hx => by
  rcases List.mem_append.mp hx with z | z
  · exact h x z
  · rw [List.mem_singleton.mp z]; exact n
section
variable {P : Program} {w : World} {K : PySem.W.Frag} {mg : Str → Option Value} {base : Heap}
theorem RowL.same {H H' : Hp} {b : Addr} {els : List (List Int)} (h : RowL H b els) (s : Same H H') : RowL H' b els := h.lk (K47.lk s)
def OutR (many : Nat) (H : Hp) (Q : VK) : Prop := ∀ H' p els, Same H H' → H p = none → RowF H H' p els → VR many els → Q (.ref p) H'
/-- behind the test: the numbers go with the row -/
def Fit (sc sh : Int) (els : List (List Int)) : Prop := 0 ≤ sh ∧ sh ≤ 1 ∧ sc.natAbs ≤ 2 ∧ ∀ e ∈ els, (e.length : Int) + sh ≤ 13 ∧ ∀ n ∈ e, (sc * n).natAbs ≤ 10 ^ 30
/-! data -/
def dI (ns : List Int) : PyData := .list (ns.map PyData.int)
theorem ints_lay : ∀ ns : List Int, PyData.canLayAll0 (ns.map PyData.int) = true ∧ PyData.depthAll (ns.map PyData.int) = 0
  | [] => ⟨rfl, rfl⟩
  | n :: r => by
    obtain ⟨a, b⟩ := ints_lay r
    refine ⟨?_, ?_⟩
    · show (PyData.canLay0 (.int n) && PyData.canLayAll0 (r.map PyData.int)) = true
      rw [a]; rfl
    · show max (PyData.depth (.int n)) (PyData.depthAll (r.map PyData.int)) = 0
      rw [b]; rfl
theorem lay_dI (ns : List Int) : (dI ns).canLay0 = true := (ints_lay ns).1
theorem dep_dI (ns : List Int) : (dI ns).depth = 1 := by
  show PyData.depthAll (ns.map PyData.int) + 1 = 1
  rw [(ints_lay ns).2]
theorem shaped_dI (ns : List Int) : SeqAt.shaped (dI ns) = true := by
  unfold SeqAt.shaped
  rw [lay_dI, dep_dI]; rfl
theorem eqv_nil (ns : List Int) : PyData.eqv (dI ns) (.list []) = decide (ns = []) := by
  cases ns <;> simp [dI, PyData.eqv, PyData.eqvAll]
theorem dp_ints {K : PySem.W.Frag} {H : Hp} : ∀ ns : List Int, DpAll K H (ns.map V.int) (ns.map PyData.int)
  | [] => .nil
  | n :: r => .cons (.int n) (dp_ints r)
theorem dpI {K : PySem.W.Frag} {H : Hp} {a : Addr} {ns : List Int} (h : SqL K H a (ns.map V.int)) : Dp K H (.ref a) (dI ns) := .lst h (dp_ints ns)
def T1 (K : PySem.W.Frag) : TS := fun D σ H => ∃ (a b : Addr) (k sc sh : Int) (els : List (List Int)), σ = [some (.ref a), some (.int k), some (.ref b), some (.int sc), some (.int sh), none, none, none, none, none, none] ∧ RowL H b els ∧ (∀ e ∈ els, VE e) ∧ els.length ≤ 16 ∧ 0 < els.length ∧ 0 ≤ sh ∧ sh ≤ 1 ∧ sc.natAbs ≤ 2 ∧
  ∀ H' sc' sh', Same H H' → Fit sc' sh' els → D.nx [some (.ref a), some (.int k), some (.ref b), some (.int sc'), some (.int sh'), none, none, none, none, none, none] H'
theorem row_ref {as : List Addr} {j : Nat} {x : V} (h : (as.map V.ref)[j]? = some x) : ∃ r, as[j]? = some r ∧ x = .ref r := by
  rw [List.getElem?_map] at h
  cases e : as[j]? with
  | none => rw [e] at h; cases h
  | some r => rw [e] at h; exact ⟨r, rfl, (Option.some.inj h).symm⟩
theorem row_lists {H : Hp} {as : List Addr} {els : List (List Int)} (h : A2 (IL H) as els) : LM.Lists H (as.map V.ref) (els.map fun e => e.map V.int) := by
  refine ⟨by rw [List.length_map, List.length_map, h.len], fun j zs z => ?_⟩
  rw [List.getElem?_map] at z
  cases e : els[j]? with
  | none => rw [e] at z; cases z
  | some ns =>
    rw [e] at z
    cases z
    obtain ⟨c, hc, hz⟩ := h.get' e
    exact ⟨c, by rw [List.getElem?_map, hc]; rfl, hz⟩
theorem flat_len {els : List (List Int)} {c : Nat} (h : ∀ e ∈ els, e.length ≤ c) : (els.map fun e => e.map V.int).flatten.length ≤ els.length * c := by
  induction els with
  | nil => exact Nat.zero_le _
  | cons e r ih =>
    rw [List.map_cons, List.flatten_cons, List.length_append, List.length_map, List.length_cons, Nat.succ_mul]
    have := ih fun x hx => h x (List.mem_cons_of_mem _ hx)
    have := h e List.mem_cons_self
    omega
theorem flat_map (els : List (List Int)) : (els.map fun e => e.map V.int).flatten = els.flatten.map V.int := by rw [List.map_flatten]
theorem small_flat {els : List (List Int)} (h : ∀ e ∈ els, VE e) (n : els.length ≤ 16) : els.flatten.length ≤ 208 := by
  have := flat_len (c := 13) fun e he => (h e he).1
  rw [flat_map, List.length_map] at this
  omega
theorem repB {b s : Nat} (h : b ≤ 1) : ∃ m, m ≤ s ∧ (List.replicate b ((List.replicate s (0 : Int)).map V.int)).flatten = (List.replicate m (0 : Int)).map V.int := by
  rcases Nat.eq_zero_or_pos b with rfl | z
  · exact ⟨0, Nat.zero_le _, rfl⟩
  · obtain rfl : b = 1 := by omega
    exact ⟨s, Nat.le_refl _, by show (_ ++ []) = _; rw [List.append_nil]⟩
theorem cut_from1 {ns : List Int} : cutV (ns.map V.int) (some 1) none = (ns.drop 1).map V.int := cut_from
theorem ve_drop {e : List Int} {x : Int} {m : Nat} (h : VE e) (hx : x.natAbs ≤ 10 ^ 30) : VE (([x] ++ e.drop 1).take m) := by
  refine ⟨?_, fun n hn => ?_⟩
  · have := h.1
    rw [List.length_take, List.length_append, List.length_drop]
    have : [x].length = 1 := rfl
    omega
  · rcases List.mem_append.mp (List.mem_of_mem_take hn) with z | z
    · rw [List.mem_singleton.mp z]; exact hx
    · exact h.2 n (List.mem_of_mem_drop z)
theorem ve_scale {e : List Int} {sc sh : Int} {m : Nat} {els : List (List Int)} (f : Fit sc sh els) (he : e ∈ els) (hm : m ≤ sh.toNat) : VE (List.replicate m 0 ++ e.map fun n => sc * n) := by
  obtain ⟨f0, f1, f2, f3⟩ := f
  obtain ⟨a, b⟩ := f3 e he
  refine ⟨?_, fun n hn => ?_⟩
  · rw [List.length_append, List.length_replicate, List.length_map]
    omega
  · rcases List.mem_append.mp hn with z | z
    · rw [(List.mem_replicate.mp z).2]; decide
    · obtain ⟨x, hx, rfl⟩ := List.mem_map.mp z
      exact b x hx
theorem mem_set2 {es : List (List Int)} {j : Nat} {y : List Int} (h : ∀ e ∈ es, VE e) (hy : VE y) : ∀ e ∈ es.set j y, VE e := fun e he => by
  rcases mem_set he with z | z
  · exact h e z
  · rw [z]; exact hy
def sp_law_likely : Sp := fun vs H Q _ => ∃ (a b : Addr) (ds : List Int) (k : Int) (els : List (List Int)) (many : Nat), vs = [.ref a, .int k, .ref b] ∧ IL H a ds ∧ 0 ≤ k ∧ RowL H b els ∧ VR many els ∧ 0 < many ∧ many ≤ 16 ∧ OutR many H Q
theorem ok_law_likely (T : Txt K mg) : FnOk P w K mg base CX0 3 T.law_likely.a T.law_likely.fd ["draws", "k", "row"] sp_law_likely := by
  refine T.law_likely.F.ok sc_law_likely (fun vs H Q E h => ?_) (fun cdv A outer s H vs Q E hr h => ?_)
  · obtain ⟨a, b, ds, k, els, many, rfl, _⟩ := h
    rfl
  · obtain ⟨a, b, ds, k, els, many, rfl, ha, hk, hb, vr, hm0, hm, q⟩ := h
    refine ⟨_, (pss_cons (ps_set (i := 3) sc_law_likely.nd rfl (.inr rfl) (pe_ix ix_list (pe_lst (pa_cons pe_int (pa_cons (pe_un un_neg pe_int) (pa_cons pe_int pa_nil)))) (pe_call (ok_law_mix T) (hr.mono (by decide)) (by rfl) T.law_mix.g T.law_mix.F.kp T.law_mix.b .nil pass0 (pa_cons (pv 0) (pa_cons (pv 1) (pa_cons pe_int pa_nil)))) (fun _ _ => rfl)))
      (pss_cons (ps_set (i := 4) sc_law_likely.nd rfl (.inr rfl) (pe_op op_fdiv (pe_call (ok_law_mix T) (hr.mono (by decide)) (by rfl) T.law_mix.g T.law_mix.F.kp T.law_mix.b .nil pass0 (pa_cons (pv 0) (pa_cons (pe_op op_add (pv 1) pe_int) (pa_cons pe_int pa_nil)))) pe_int))
      (pss_cons (ps_via (t' := T1 K) (ps_if (PW.pt (pw_or (pt_cmpR op_gt (pe_op op_add (pe_callB (cr_max rfl) (by rfl) T.m_max (by decide +kernel) (pa_cons (pe_op op_cat (pe_lst (pa_cons pe_int pa_nil)) (pe_lc (own := [("element", 8)]) rfl sc_law_likely.nd (pi_list (pv 2)) (blkOk_by (N := ["draws", "k", "row", "scale", "shift", "out", "turn", "j", "element", "number", "n"]) (sc := defScope s_law_likely) (by decide +kernel)) (fun _ _ _ _ _ => (pg_name (i := 8) sc_law_likely.nd rfl (.inl rfl))) (fun _ _ _ _ _ => pts_nil) (fun _ _ _ _ _ => (pe_callB (id := "len") (r := rLenS K) call_lenC (by rfl) T.m_len (by decide +kernel) (pa_cons (pv 8) pa_nil))))) pa_nil)) (pv 4)) pe_int (nomark _)) (pw_or1 (pt_cmpR op_gt (pe_callB (cr_max rfl) (by rfl) T.m_max (by decide +kernel) (pa_cons (pe_op op_cat (pe_lst (pa_cons pe_int pa_nil)) (pe_lc (own := [("n", 10)]) rfl sc_law_likely.nd (pi_list (pe_callB (LM.cr_sumL rfl) (by rfl) T.m_sum (by decide +kernel) (pa_cons (pv 2) (pa_cons (pe_lst pa_nil) pa_nil)))) (blkOk_by (N := ["draws", "k", "row", "scale", "shift", "out", "turn", "j", "element", "number", "n"]) (sc := defScope s_law_likely) (by decide +kernel)) (fun _ _ _ _ _ => (pg_name (i := 10) sc_law_likely.nd rfl (.inl rfl))) (fun _ _ _ _ _ => pts_nil) (fun _ _ _ _ _ => (pe_callB call_abs (by rfl) T.m_abs (by decide +kernel) (pa_cons (pv 10) pa_nil))))) pa_nil)) pe_int (nomark _)))))
        (pss_cons (ps_set (i := 3) sc_law_likely.nd rfl (.inr rfl) pe_int)
        (pss_one (ps_set (i := 4) sc_law_likely.nd rfl (.inr rfl) pe_int)))
        pss_nil) ?t1)
      (pss_cons (ps_setLc (i := 5) (own := [("element", 8)]) rfl sc_law_likely.nd rfl rfl (sw_true rfl rfl rfl (by decide +kernel)) (pi_list (pv 2)) (blkOk_by (N := ["draws", "k", "row", "scale", "shift", "out", "turn", "j", "element", "number", "n"]) (sc := defScope s_law_likely) (by decide +kernel)) (fun _ _ _ _ _ => (pg_name (i := 8) sc_law_likely.nd rfl (.inl rfl))) (fun _ _ _ _ _ => pts_nil) (fun _ _ _ _ _ => (pe_op op_cat (pe_op op_rep (pe_op op_rep (pe_lst (pa_cons pe_int pa_nil)) (pv 4)) (pe_callTy call_int1 (by rfl) T.m_int (by decide +kernel) (pa_cons (pe_cmpR (r := rNeD K) (op_neD hr.units) (pv 8) (pe_lst pa_nil) (nomark _)) pa_nil))) (pe_lc (wi := iList K _) (own := [("number", 9)]) rfl sc_law_likely.nd (pi_list (pv 8)) (blkOk_by (N := ["draws", "k", "row", "scale", "shift", "out", "turn", "j", "element", "number", "n"]) (sc := { kind := .function, names := [(".0", .local), ("element", .local), ("int", .globalImplicit), ("scale", .cell), ("shift", .cell)], isGenerator := false, isCoroutine := false, more := [] }) (by decide +kernel)) (fun _ _ _ _ _ => (pg_name (i := 9) sc_law_likely.nd rfl (.inl rfl))) (fun _ _ _ _ _ => pts_nil) (fun _ _ _ _ _ => (pe_op op_mulW (pv 3) (pv 9)))))))
      (pss_cons (ps_for PassesOwn.never rfl (pi_range1 (by rfl) T.m_range (pa_cons (pe_op op_add pe_int (pe_call (ok_law_mix T) (hr.mono (by decide)) (by rfl) T.law_mix.g T.law_mix.F.kp T.law_mix.b .nil pass0 (pa_cons (pv 0) (pa_cons (pe_op op_add (pv 1) pe_int) (pa_cons pe_int pa_nil))))) pa_nil)) (pg_name (i := 6) sc_law_likely.nd rfl (.inl rfl))
        (pss_cons (ps_set (i := 7) sc_law_likely.nd rfl (.inl rfl) (pe_call (ok_law_mix T) (hr.mono (by decide)) (by rfl) T.law_mix.g T.law_mix.F.kp T.law_mix.b .nil pass0 (pa_cons (pv 0) (pa_cons (pe_op op_add (pe_op op_add (pv 1) pe_int) (pe_op op_mulW pe_int (pv 6))) (pa_cons (pe_callB call_len_seq (by rfl) T.m_len (by decide +kernel) (pa_cons (pv 2) pa_nil)) pa_nil)))))
        (pss_one (ps_asg (pe_call (ok_law_trimmed T) (hr.mono (by decide)) (by rfl) T.law_trimmed.g T.law_trimmed.F.kp T.law_trimmed.b .nil pass0 (pa_cons (pe_op op_cat (pe_lst (pa_cons (pe_op op_sub (pe_call (ok_law_mix T) (hr.mono (by decide)) (by rfl) T.law_mix.g T.law_mix.F.kp T.law_mix.b .nil pass0 (pa_cons (pv 0) (pa_cons (pe_op op_add (pe_op op_add (pv 1) pe_int) (pe_op op_mulW pe_int (pv 6))) (pa_cons pe_int pa_nil)))) pe_int) pa_nil)) (pe_slice sl_list (pe_ix ix_list (pv 5) (pv 7) (fun _ _ => rfl)) (po_some pe_int) po_none)) pa_nil)) (pg_sub (pv 5) (pv 7) set_list)))))
      (pss_one (ps_ret (pv 5)))))))), ?_⟩
    case t1 =>
      intro D σ H h
      obtain ⟨a, b, k, sc, sh, els, rfl, hb, hv, hn, hp, h0, h1, h2, nx⟩ := h
      have one : Fit 1 0 els := ⟨by decide, by decide, by decide, fun e he => ⟨by have := (hv e he).1; omega, fun n hn => by rw [Int.one_mul]; exact (hv e he).2 n hn⟩⟩
      obtain ⟨as, hbl, hA⟩ := hb
      have la := hA.len
      refine ⟨by show 1 ≤ sizeLine; decide, fun l nl => ?_⟩
      have s1 := same_upd nl (o := .lst [.int 0])
      refine ⟨.ref b, rfl, b, rfl, ⟨_, .of (s1 _ _ hbl)⟩, fun D1 nD1 => ?_⟩
      refine lc_fm (walk_list (xs := as.map V.ref)) els (fun e => some (e.length : Int)) (fun _ v n => v = .int n) (fun _ _ _ _ _ z => z) (by rw [List.length_map, la]) nD1 (fun H' s => s.seq (.of (s1 _ _ hbl))) (small' (by rw [List.length_map]; omega)) (fun i x H' Hx ys e he sm hD y Qt Qf qt qf => ?_) (fun G ys sm hD hR => ?_)
      · obtain ⟨rfl, hx⟩ := y
        obtain ⟨c, hc, rfl⟩ := row_ref hx
        obtain ⟨e', he', hI⟩ := hA.get hc
        obtain rfl := Option.some.inj (he.symm.trans he')
        exact ⟨rfl, _, rfl, c, _, rfl, .inl ((hI.same s1).same sm).sq, qt _ _ _ rfl (Same.refl _) (by rw [List.length_map])⟩
      rw [a2_eq hR, fm_some, List.map_map] at hD
      refine ⟨l, D1, _, _, rfl, rfl, sm _ _ upd_same, hD, by rw [List.length_map]; exact small (by show 1 + _ ≤ _; omega), fun p np => ?_⟩
      have s2 : Same H (upd G p (.lst ([V.int 0] ++ els.map ((fun n => V.int n) ∘ fun e => (e.length : Int))))) := s1.trans (sm.trans (same_upd np))
      refine ⟨p, 0 :: els.map (fun e => (e.length : Int)), rfl, .of (by rw [upd_same]; show some (HO.lst (V.int 0 :: _)) = some (HO.lst (V.int 0 :: _)); rw [List.map_map]; rfl), by rw [List.length_cons]; omega, fun m hm hle => ?_⟩
      refine ⟨_, rfl, _, _, rfl, rfl, _, _, rfl, rfl, _, rfl, ?_⟩
      refine ite2 (fun h => iteT (nx _ 1 0 s2 one)) (fun hno => ?_)
      have hlen : ∀ e ∈ els, (e.length : Int) + sh ≤ 13 := fun e he => by
        have := hle _ (List.mem_cons_of_mem _ (List.mem_map.mpr ⟨e, he, rfl⟩))
        have : ¬ (13 < m + sh) := fun z => hno (decide_eq_true z)
        omega
      refine ⟨by show 1 ≤ sizeLine; decide, fun l2 nl2 => ?_⟩
      have s3 := s2.trans (same_upd nl2 (o := .lst [.int 0]))
      refine ⟨.ref b, rfl, by show 0 ≤ sizeLine; decide, fun l3 nl3 => ?_⟩
      have s4 := s3.trans (same_upd nl3 (o := .lst []))
      refine ⟨b, l3, _, [], els.map fun e => e.map V.int, rfl, .of (s4 _ _ hbl), upd_same, row_lists (hA.mono fun _ _ z => z.same s4), ?_, fun e => ?_, fun p2 np2 => ?_⟩
      · rw [flat_map, List.length_map]
        have := small_flat hv hn
        exact small (by show 0 + _ ≤ _; omega)
      · have : as.length = 0 := by rw [← List.length_map (f := V.ref), e]; rfl
        omega
      rw [List.nil_append, flat_map]
      have s5 := s4.trans (same_upd np2 (o := .lst (els.flatten.map V.int)))
      refine ⟨p2, rfl, ⟨_, .of upd_same⟩, fun D2 nD2 => ?_⟩
      refine lc_fm (walk_list (xs := els.flatten.map V.int)) els.flatten (fun n => some (if n < 0 then -n else n)) (fun _ v n => v = .int n) (fun _ _ _ _ _ z => z) (by rw [List.length_map]) nD2 (fun H' s => s.seq (.of upd_same)) (small' (by rw [List.length_map]; have := small_flat hv hn; omega)) (fun i x H' Hx ys e he sm hD y Qt Qf qt qf => ?_) (fun G2 ys sm2 hD2 hR2 => ?_)
      · obtain ⟨rfl, hx⟩ := y
        rw [List.getElem?_map, he] at hx
        obtain rfl := Option.some.inj hx
        exact ⟨rfl, _, rfl, _, rfl, qt _ _ _ rfl (Same.refl _) rfl⟩
      rw [a2_eq hR2, fm_some, List.map_map] at hD2
      have l2G : G2 l2 = some (.lst [.int 0]) := sm2 _ _ (by
        refine same_upd np2 _ _ (same_upd nl3 _ _ upd_same))
      refine ⟨l2, D2, _, _, rfl, rfl, l2G, hD2, by rw [List.length_map]; have := small_flat hv hn; exact small (by show 1 + _ ≤ _; omega), fun p3 np3 => ?_⟩
      have s6 : Same H (upd G2 p3 (.lst ([V.int 0] ++ els.flatten.map ((fun n => V.int n) ∘ fun n => if n < 0 then -n else n)))) := s5.trans (sm2.trans (same_upd np3))
      refine ⟨p3, 0 :: els.flatten.map (fun n => if n < 0 then -n else n), rfl, .of (by rw [upd_same]; show some (HO.lst (V.int 0 :: _)) = some (HO.lst (V.int 0 :: _)); rw [List.map_map]; rfl), by rw [List.length_cons]; omega, fun m2 hm2 hle2 => ?_⟩
      refine ⟨_, _, rfl, rfl, _, rfl, ?_⟩
      refine ite2 (fun h => nx _ 1 0 s6 one) (fun hno2 => nx _ sc sh s6 ⟨h0, h1, h2, fun e he => ⟨hlen e he, fun n hn => ?_⟩⟩)
      have := hle2 _ (List.mem_cons_of_mem _ (List.mem_map.mpr ⟨n, List.mem_flatten.mpr ⟨e, he, hn⟩, rfl⟩))
      have h4 : ¬ (400000 < m2) := fun z => hno2 (decide_eq_true z)
      have h5 : n.natAbs ≤ 400000 := by split at this <;> omega
      rw [Int.natAbs_mul]
      exact Nat.le_trans (Nat.mul_le_mul h2 h5) (by decide)
    refine ⟨_, rfl, by show 3 ≤ sizeLine; decide, fun l0 n0 => ?_⟩
    have s0 := same_upd n0 (o := .lst [.int 1, .int (-1), .int 2])
    refine ⟨.ref a, rfl, _, rfl, a, ds, _, _, rfl, ha.same s0, hk, by decide, fun r0 p0 u0 => ?_⟩
    have hlt : r0.toNat < [(1 : Int), -1, 2].length := by show _ < 3; omega
    refine ⟨l0, _, _, _, rfl, rfl, .of upd_same, at_map' (ns := [1, -1, 2]) (m := r0.toNat) (by omega) hlt, ?_⟩
    have hsc : (cf [1, -1, 2] r0.toNat).natAbs ≤ 2 := (by decide : ∀ x ∈ [(1 : Int), -1, 2], x.natAbs ≤ 2) _ (mem_at (at_map hlt))
    generalize cf [1, -1, 2] r0.toNat = sc at hsc
    refine ⟨.ref a, rfl, _, rfl, _, _, rfl, rfl, a, ds, _, _, rfl, ha.same s0, by omega, by decide, fun r1 p1 u1 => ?_⟩
    refine ⟨_, _, rfl, rfl, ⟨by decide, by decide⟩, ?_⟩
    refine ⟨a, b, k, sc, r1 / 2, els, rfl, hb.same s0, vr.2, by have := vr.1; omega, by have := vr.1; omega, by omega, by omega, hsc, fun G sc sh sG fit => ?_⟩
    have s1 := s0.trans sG
    obtain ⟨rs, hbG, hrs⟩ := hb.same s1
    refine ⟨.ref b, rfl, b, rfl, ⟨_, .of hbG⟩, fun D nD => ?_⟩
    have lrs := hrs.len
    have lel := vr.1
    refine lc_inv (walk_list (xs := rs.map V.ref)) (fun i G' ys => ∃ (as : List Addr) (es : List (List Int)), ys = as.map V.ref ∧ RN D H G' as es ∧ es.length = i ∧ ∀ e ∈ es, VE e) nD (fun H' s => s.seq (.of hbG)) (small' (by rw [List.length_map]; omega)) ⟨[], [], rfl, .nil, rfl, fun _ z => by cases z⟩ (fun i x G1 Hx ys hi sm hD hR y Qt Qf qt qf => ?_) (fun G1 ys sm hD hR => ?_)
    · obtain ⟨rfl, hx⟩ := y
      obtain ⟨c, hc, rfl⟩ := row_ref hx
      obtain ⟨e, he, hI⟩ := hrs.get hc
      obtain ⟨as, es, rfl, hrn, hlen, hve⟩ := hR
      have hee := mem_at he
      obtain ⟨f0, f1, f2, f3⟩ := fit
      refine ⟨rfl, by show 1 ≤ sizeLine; decide, fun l1 n1 => ?_⟩
      have t1 := same_upd n1 (o := .lst [.int 0])
      refine ⟨_, rfl, l1, sh, _, rfl, rfl, upd_same, by omega, by omega, by show 1 * _ ≤ _; exact small (by omega), fun l2 n2 => ?_⟩
      rw [rep0]
      have t2 := t1.trans (same_upd n2 (o := .lst ((List.replicate sh.toNat (0 : Int)).map V.int)))
      refine ⟨.ref c, rfl, by show 0 ≤ sizeLine; decide, fun l3 n3 => ?_⟩
      have t3 := t2.trans (same_upd n3 (o := .lst []))
      refine ⟨dI e, .list [], dpI ((hI.same sm).same t3).sq, .lst (.of upd_same) .nil, shaped_dI e, rfl, ?_⟩
      refine .inr ⟨_, rfl, ?_⟩
      obtain ⟨bi, eb, b0, b1⟩ : ∃ bi : Int, (if (!PyData.eqv (dI e) (.list [])) = true then (1 : Int) else 0) = bi ∧ 0 ≤ bi ∧ bi ≤ 1 := ⟨_, rfl, by split <;> omega, by split <;> omega⟩
      rw [eb]
      refine ⟨l2, bi, _, rfl, rfl, same_upd n3 _ _ upd_same, by omega, by omega, by rw [List.length_map, List.length_replicate]; exact small (Nat.le_trans (Nat.mul_le_mul (show _ ≤ 1 by omega) (show _ ≤ 1 by omega)) (by decide)), fun l4 n4 => ?_⟩
      obtain ⟨m, hm1, em⟩ := repB (b := bi.toNat) (s := sh.toNat) (by omega)
      rw [em]
      have t4 := t3.trans (same_upd n4 (o := .lst ((List.replicate m (0 : Int)).map V.int)))
      refine ⟨.ref c, rfl, c, rfl, ⟨_, ((hI.same sm).same t4).sq⟩, fun D2 nD2 => ?_⟩
      have ve := vr.2 e hee
      refine lc_fm (walk_list (xs := e.map V.int)) e (fun n => some (sc * n)) (fun _ v n => v = .int n) (fun _ _ _ _ _ z => z) (by rw [List.length_map]) nD2 (fun H' s => s.seq (((hI.same sm).same t4).sq)) (small' (by rw [List.length_map]; have := ve.1; omega)) (fun i2 x2 H2 Hx2 ys2 n hn sm2 hD2 y2 Qt2 Qf2 qt2 qf2 => ?_) (fun G2 ys2 sm2 hD2 hR2 => ?_)
      · obtain ⟨rfl, hx2⟩ := y2
        rw [List.getElem?_map, hn] at hx2
        obtain rfl := Option.some.inj hx2
        have := ve.2 n (mem_at hn)
        exact ⟨rfl, _, rfl, _, rfl, _, _, rfl, rfl, wide_mul (a := 2) (b := 100) (by omega) (Nat.lt_of_le_of_lt this (by decide)) (by decide) (by decide) (by decide), qt2 _ _ _ rfl (Same.refl _) rfl⟩
      rw [a2_eq hR2, fm_some, List.map_map] at hD2
      refine ⟨l4, D2, _, _, rfl, rfl, sm2 _ _ upd_same, hD2, by rw [List.length_map, List.length_map, List.length_replicate]; have := ve.1; exact small (by omega), fun p np => ?_⟩
      have t5 := t4.trans (sm2.trans (same_upd np (o := .lst ((List.replicate m (0 : Int)).map V.int ++ e.map ((fun n => V.int n) ∘ fun n => sc * n)))))
      have pD : p ≠ D := fun z => by
        have := (t4.trans sm2) D _ hD
        rw [← z, np] at this
        cases this
      refine qt _ _ t5 ⟨as ++ [p], es ++ [List.replicate m 0 ++ e.map fun n => sc * n], by rw [List.map_append]; rfl, hrn.snoc t5 pD ((s1.trans (sm.trans (t4.trans sm2))).free np) (by unfold IL; rw [upd_same, List.map_append, List.map_map]), by rw [List.length_append, hlen]; rfl, ve_snoc hve (ve_scale ⟨f0, f1, f2, f3⟩ hee hm1)⟩
    obtain ⟨as, es, rfl, hrn, hlen, hve⟩ := hR
    rw [List.length_map, lrs, lel] at hlen
    have s2 := s1.trans sm
    have nD0 : H D = none := s1.free nD
    refine ⟨.ref a, rfl, _, rfl, _, _, rfl, rfl, a, ds, _, _, rfl, ha.same s2, by omega, by decide, fun r2 p2 u2 => ?_⟩
    refine ⟨_, _, rfl, rfl, 1 + r2, rfl, by omega, by omega, ?_⟩
    refine for_range (n := (1 + r2).toNat) (lo := 0) (fun i σ G' => Same H G' ∧ ∃ (as : List Addr) (es : List (List Int)) (v6 v7 v8 v9 v10 : Option V), σ = [some (.ref a), some (.int k), some (.ref b), some (.int sc), some (.int sh), some (.ref D), v6, v7, v8, v9, v10] ∧ G' D = some (.lst (as.map V.ref)) ∧ RN D H G' as es ∧ es.length = many ∧ ∀ e ∈ es, VE e) ⟨s2, as, es, _, _, _, _, _, rfl, hD, hrn, hlen, hve⟩ (fun i σ G' hi hP => ?_) (fun σ G' hP => ?_)
    · obtain ⟨sm, as, es, v6, v7, v8, v9, v10, rfl, hD, hrn, hlen, hve⟩ := hP
      obtain ⟨rs, hbG, hrs⟩ := hb.same sm
      have lb : (rs.map V.ref).length = many := by rw [List.length_map, hrs.len, lel]
      have wm : CMulW 2 (0 + (i : Int)) := wide_mul (a := 2) (b := 100) (by decide) (Nat.lt_of_le_of_lt (show _ ≤ 4 by omega) (by decide)) (by decide) (by decide) (by decide)
      refine ⟨.ref a, rfl, _, rfl, _, _, rfl, rfl, _, rfl, _, _, rfl, rfl, wm, _, _, rfl, rfl, .ref b, rfl, b, _, rfl, .inl (.of hbG), ?_⟩
      rw [lb]
      refine ⟨a, ds, _, _, rfl, ha.same sm, by omega, by omega, fun r3 p3 u3 => ?_⟩
      obtain ⟨j, ej, hj⟩ : ∃ j : Nat, r3 = (j : Int) ∧ j < many := ⟨r3.toNat, by omega, by omega⟩
      subst ej
      obtain ⟨e, he⟩ := some_at (xs := es) (i := j) (by omega)
      obtain ⟨c, hc, ⟨cD, _⟩, hI⟩ := hrn.get' he
      refine ⟨.ref a, rfl, _, rfl, _, _, rfl, rfl, _, rfl, _, _, rfl, rfl, wm, _, _, rfl, rfl, a, ds, _, _, rfl, ha.same sm, by omega, by decide, fun r4 p4 u4 => ?_⟩
      refine ⟨_, _, rfl, rfl, by show 1 ≤ sizeLine; decide, fun l5 n5 => ?_⟩
      have t5 := same_upd n5 (o := .lst [.int (r4 - 2)])
      refine ⟨.ref D, rfl, _, rfl, D, _, _, _, rfl, rfl, .of (t5 _ _ hD), atI_nat (by rw [List.getElem?_map, hc]; rfl), ?_⟩
      refine ⟨_, rfl, c, _, rfl, (hI.same t5).sq, fun l6 n6 => ?_⟩
      rw [cut_from1]
      have t6 := t5.trans (same_upd n6 (o := .lst ((e.drop 1).map V.int)))
      have ve := hve e (mem_at he)
      refine ⟨l5, l6, _, _, rfl, rfl, same_upd n6 _ _ upd_same, upd_same, by rw [List.length_map, List.length_drop]; have := ve.1; exact small (by show 1 + _ ≤ _; omega), fun l7 n7 => ?_⟩
      have t7 := t6.trans (same_upd n7 (o := .lst ([V.int (r4 - 2)] ++ (e.drop 1).map V.int)))
      refine ⟨l7, [r4 - 2] ++ e.drop 1, rfl, .of (by rw [upd_same, List.map_append]; rfl), by rw [List.length_append, List.length_drop]; have := ve.1; show 1 + _ ≤ _; omega, fun G3 p m s3 np _ hp => ?_⟩
      have t8 := t7.trans s3
      have pD : p ≠ D := fun z => by
        have := t7 D _ hD
        rw [← z, np] at this
        cases this
      refine ⟨.ref D, rfl, _, rfl, D, _, _, j, rfl, rfl, t8 _ _ hD, ix_ok rfl (by rw [List.length_map, hrn.len]; omega), ?_⟩
      refine ⟨same_over (sm.trans t8) nD0, as.set j p, es.set j (([r4 - 2] ++ e.drop 1).take m), _, _, _, _, _, rfl, ?_, ?_, by rw [List.length_set]; exact hlen, mem_set2 hve (ve_drop ve (Nat.le_trans (show _ ≤ 5 by omega) (by decide)))⟩
      · rw [upd_same, List.map_set]
      · exact A2.set ⟨⟨pD, (sm.trans t7).free np⟩, by unfold IL; rw [upd_ne pD]; exact hp⟩ (hrn.up ((sx t8).trans SameX.put)) j
    · obtain ⟨sm, as, es, v6, v7, v8, v9, v10, rfl, hD, hrn, hlen, hve⟩ := hP
      exact ⟨.ref D, rfl, q G' D es sm nD0 (hrn.row hD) ⟨hlen, hve⟩⟩
end
-- H47
section
variable {P : Program} {w : World} {K : PySem.W.Frag} {mg : Str → Option Value} {base : Heap}
/-! ### grids under way: the list of rows at g, of exact ones at x -/
def Of (g x : Addr) (c : Addr) : Prop := c ≠ g ∧ c ≠ x
def SP (g x : Addr) (H H' : Hp) : Prop := ∀ c o, Of g x c → H c = some o → H' c = some o
theorem spS {g x : Addr} {H H' : Hp} (s : Same H H') : SP g x H H' := fun c o _ h => s c o h
theorem SP.trans {g x : Addr} {H H1 H2 : Hp} (a : SP g x H H1) (b : SP g x H1 H2) : SP g x H H2 := fun c o n h => b c o n (a c o n h)
theorem spG {g x : Addr} {H : Hp} {o : HO} : SP g x H (upd H g o) := fun c u n h => by rw [upd_ne n.1]; exact h
theorem spX {g x : Addr} {H : Hp} {o : HO} : SP g x H (upd H x o) := fun c u n h => by rw [upd_ne n.2]; exact h
def XR (g x : Addr) (H : Hp) (v : V) (els : List (List Int)) : Prop := ∃ (b : Addr) (as : List Addr), v = .ref b ∧ Of g x b ∧ H b = some (.lst (as.map V.ref)) ∧ A2 (fun e ns => Of g x e ∧ IL H e ns) as els
def XG (K : PySem.W.Frag) (g x : Addr) (H : Hp) (v : V) (r : Rw) : Prop := ∃ (t : Addr) (u : V), v = .ref t ∧ Of g x t ∧ H t = some (.tup [.str (kS r.1), u]) ∧ XR g x H u r.2
theorem XR.up {g x : Addr} {H H' : Hp} {v : V} {els : List (List Int)} (h : XR g x H v els) (s : SP g x H H') : XR g x H' v els := let ⟨b, as, e, n, hb, r⟩ := h; ⟨b, as, e, n, s _ _ n hb, r.mono fun _ _ z => ⟨z.1, s _ _ z.1 z.2⟩⟩
theorem XG.up {g x : Addr} {H H' : Hp} {v : V} {r : Rw} (h : XG K g x H v r) (s : SP g x H H') : XG K g x H' v r := let ⟨t, u, e, n, ht, r⟩ := h; ⟨t, u, e, n, s _ _ n ht, r.up s⟩
theorem XG.row {g x : Addr} {H : Hp} {v : V} {r : Rw} (h : XG K g x H v r) : RwV K H v r := let ⟨t, u, e, n, ht, b, as, eu, nb, hb, r⟩ := h; ⟨t, b, e, .inl (.inl (eu ▸ ht)), as, hb, r.mono fun _ _ z => z.2⟩
theorem of_new {g x c : Addr} {H : Hp} (hg : H g ≠ none) (hx : H x ≠ none) (h : H c = none) : Of g x c := ⟨fun z => hg (z ▸ h), fun z => hx (z ▸ h)⟩
theorem XR.of {g x p : Addr} {H H' : Hp} {els : List (List Int)} (hg : H g ≠ none) (hx : H x ≠ none) (hp : H p = none) (h : RowF H H' p els) : XR g x H' (.ref p) els := let ⟨as, e, r⟩ := h; ⟨p, as, rfl, of_new hg hx hp, e, r.mono fun _ _ z => ⟨of_new hg hx z.1, z.2⟩⟩
theorem RowL.ofX {g x : Addr} {H : Hp} {v : V} {els : List (List Int)} (h : XR g x H v els) : ∃ b, v = .ref b ∧ RowL H b els := let ⟨b, as, e, n, hb, r⟩ := h; ⟨b, e, as, hb, r.mono fun _ _ z => z.2⟩
/-- the state of the loop -/
abbrev SG (a : Addr) (k : Int) (many : Nat) (g x : Addr) (sh : Int) (v6 v7 v8 v9 : Option V) : L2.St := [some (.ref a), some (.int k), some (.int (many : Nat)), some (.ref g), some (.ref x), some (.int sh), v6, v7, v8, v9]
def T3 (a : Addr) (ds : List Int) (many : Nat) : TS := fun D σ H => ∃ (k sh t : Int) (g x : Addr) (v6 v8 v9 : Option V), σ = SG a k many g x sh v6 (some (.int t)) v8 v9 ∧ IL H a ds ∧ 0 ≤ t ∧ many ≤ 16 ∧
  ∀ H' p els v9, Same H H' → H p = none → RowF H H' p els → VR many els → D.nx (SG a k many g x sh v6 (some (.int t)) (some (.ref p)) v9) H'
def T2 (a : Addr) (ds : List Int) (many : Nat) : TS := fun D σ H => ∃ (k sh t : Int) (g x : Addr) (v6 v8 v9 : Option V) (zs : List V) (ess : List (List (List Int))), σ = SG a k many g x sh v6 (some (.int t)) v8 v9 ∧ IL H a ds ∧ 0 ≤ t ∧ 0 < many ∧ many ≤ 16 ∧
  H x = some (.lst zs) ∧ A2 (XR g x H) zs ess ∧ ess.length ≤ 16 ∧ (∀ e ∈ ess, VR many e) ∧
  ∀ H' p els v9, Same H H' → H p = none → RowF H H' p els → VR many els → D.nx (SG a k many g x sh v6 (some (.int t)) (some (.ref p)) v9) H'
def sp_law_grid (K : PySem.W.Frag) : Sp := fun vs H Q _ => ∃ (a : Addr) (ds : List Int) (k : Int) (many : Nat), vs = [.ref a, .int k, .int (many : Nat)] ∧ IL H a ds ∧ 0 ≤ k ∧ many ≤ 16 ∧ ∀ H' g rs, Same H H' → GR K H' g rs → VG many rs → Q (.ref g) H'
theorem ok_law_grid (T : Txt K mg) : FnOk P w K mg base CX0 4 T.law_grid.a T.law_grid.fd ["draws", "k", "many"] (sp_law_grid K) := by
  refine T.law_grid.F.ok sc_law_grid (fun vs H Q E h => ?_) (fun cdv A outer s H vs Q E hr h => ?_)
  · obtain ⟨a, ds, k, many, rfl, _⟩ := h
    rfl
  · obtain ⟨a, ds, k, many, rfl, ha, hk, hm, q⟩ := h
    refine ⟨_, (pss_cons (ps_set (i := 3) sc_law_grid.nd rfl (.inl rfl) (pe_lst pa_nil))
      (pss_cons (ps_set (i := 4) sc_law_grid.nd rfl (.inl rfl) (pe_lst pa_nil))
      (pss_cons (ps_set (i := 5) sc_law_grid.nd rfl (.inl rfl) (pe_call (ok_law_mix T) (hr.mono (by decide)) (by rfl) T.law_mix.g T.law_mix.F.kp T.law_mix.b .nil pass0 (pa_cons (pv 0) (pa_cons (pv 1) (pa_cons pe_int pa_nil)))))
      (pss_cons (ps_for PassesOwn.never rfl (pi_range1 (by rfl) T.m_range (pa_cons (pv 2) pa_nil)) (pg_name (i := 6) sc_law_grid.nd rfl (.inl rfl))
        (pss_cons (ps_set (i := 7) sc_law_grid.nd rfl (.inr rfl) (pe_op op_add (pe_op op_add (pv 1) pe_int) (pe_op op_mul pe_int (pv 6))))
        (pss_one (ps_if (pt_cmpR op_lt (pe_call (ok_law_mix T) (hr.mono (by decide)) (by rfl) T.law_mix.g T.law_mix.F.kp T.law_mix.b .nil pass0 (pa_cons (pv 0) (pa_cons (pv 7) (pa_cons pe_int pa_nil)))) (pv 5) (nomark _))
          (pss_cons (ps_via (t' := T2 a ds many) (ps_if (PW.pt (pw_and (pt_cmpR op_gt (pe_callB call_len_seq (by rfl) T.m_len (by decide +kernel) (pa_cons (pv 4) pa_nil)) pe_int (nomark _)) (pw_and1 (pt_cmpR op_eq (pe_call (ok_law_mix T) (hr.mono (by decide)) (by rfl) T.law_mix.g T.law_mix.F.kp T.law_mix.b .nil pass0 (pa_cons (pv 0) (pa_cons (pe_op op_add (pv 7) pe_int) (pa_cons pe_int pa_nil)))) pe_int (nomark _)))))
            (pss_one (ps_set (i := 8) sc_law_grid.nd rfl (.inl rfl) (pe_call (ok_law_likely T) (hr.mono (by decide)) (by rfl) T.law_likely.g T.law_likely.F.kp T.law_likely.b .nil pass0 (pa_cons (pv 0) (pa_cons (pe_op op_add (pv 7) pe_int) (pa_cons (pe_ix ix_list (pv 4) (pe_call (ok_law_mix T) (hr.mono (by decide)) (by rfl) T.law_mix.g T.law_mix.F.kp T.law_mix.b .nil pass0 (pa_cons (pv 0) (pa_cons (pe_op op_add (pv 7) pe_int) (pa_cons (pe_callB call_len_seq (by rfl) T.m_len (by decide +kernel) (pa_cons (pv 4) pa_nil)) pa_nil)))) (fun _ _ => rfl)) pa_nil))))))
            (pss_one (ps_via (t' := T3 a ds many) (ps_setLc (i := 8) (own := [("j", 9)]) rfl sc_law_grid.nd rfl rfl (sw_true rfl rfl rfl (by decide +kernel)) (pi_range1 (by rfl) T.m_range (pa_cons (pv 2) pa_nil)) (blkOk_by (N := ["draws", "k", "many", "grid", "exact", "share", "i", "at", "row", "j"]) (sc := defScope s_law_grid) (by decide +kernel)) (fun _ _ _ _ _ => (pg_name (i := 9) sc_law_grid.nd rfl (.inl rfl))) (fun _ _ _ _ _ => pts_nil) (fun _ _ _ _ _ => (pe_call (ok_law_element T) (hr.mono (by decide)) (by rfl) T.law_element.g T.law_element.F.kp T.law_element.b .nil pass0 (pa_cons (pv 0) (pa_cons (pe_op op_add (pe_op op_add (pv 7) pe_int) (pe_op op_mul pe_int (pv 9))) (pa_cons pe_int pa_nil)))))) ?t3))) ?t2)
          (pss_cons (ps_expr (pe_bm PySem.F.plainAttrs_list PySem.F.slot_list_append PySem.F.type_list_append mt_append (pv 4) (pa_cons (pv 8) pa_nil)))
          (pss_one (ps_expr (pe_bm PySem.F.plainAttrs_list PySem.F.slot_list_append PySem.F.type_list_append mt_append (pv 3) (pa_cons (pe_tup (pa_cons pe_str (pa_cons (pv 8) pa_nil))) pa_nil))))))
          (pss_one (ps_expr (pe_bm PySem.F.plainAttrs_list PySem.F.slot_list_append PySem.F.type_list_append mt_append (pv 3) (pa_cons (pe_tup (pa_cons pe_str (pa_cons (pe_lc (own := [("j", 9)]) rfl sc_law_grid.nd (pi_range1 (by rfl) T.m_range (pa_cons (pv 2) pa_nil)) (blkOk_by (N := ["draws", "k", "many", "grid", "exact", "share", "i", "at", "row", "j"]) (sc := defScope s_law_grid) (by decide +kernel)) (fun _ _ _ _ _ => (pg_name (i := 9) sc_law_grid.nd rfl (.inl rfl))) (fun _ _ _ _ _ => pts_nil) (fun _ _ _ _ _ => (pe_call (ok_law_orders T) (hr.mono (by decide)) (by rfl) T.law_orders.g T.law_orders.F.kp T.law_orders.b .nil pass0 (pa_cons (pv 0) (pa_cons (pe_op op_add (pe_op op_add (pv 7) pe_int) (pe_op op_mul pe_int (pv 9))) (pa_cons pe_int pa_nil)))))) pa_nil))) pa_nil))))))))
      (pss_one (ps_ret (pv 3))))))), ?_⟩
    case t3 =>
      intro D σ H h
      obtain ⟨k, sh, t, g, x, v6, v8, v9, rfl, ha, ht, hm, nx⟩ := h
      refine ⟨_, rfl, (many : Nat), rfl, by omega, by omega, fun C nC => ?_⟩
      rw [Int.toNat_natCast]
      refine lc_inv (walk_range (lo := 0) (n := many)) (fun i G ys => ∃ (as : List Addr) (es : List (List Int)), ys = as.map V.ref ∧ RN C H G as es ∧ es.length = i ∧ ∀ e ∈ es, VE e) nC (fun _ _ => trivial) (small' (by omega)) ⟨[], [], rfl, .nil, rfl, fun _ z => by cases z⟩ (fun i x G Hx ys hi sm hC hR y Qt Qf qt qf => ?_) (fun G ys sm hC hR => ?_)
      · obtain ⟨rfl, rfl⟩ := y
        obtain ⟨as, es, rfl, hrn, hlen, hve⟩ := hR
        refine ⟨rfl, .ref a, rfl, _, rfl, _, _, rfl, rfl, _, rfl, _, _, rfl, rfl, .inl ⟨by decide, by decide⟩, _, _, rfl, rfl, a, ds, _, _, rfl, ha.same sm, by omega, fun G2 p ns s2 np hp ve => ?_⟩
        have pC : p ≠ C := fun z => by rw [z, hC] at np; cases np
        exact qt _ _ s2 ⟨as ++ [p], es ++ [ns], by rw [List.map_append]; rfl, hrn.snoc s2 pC (sm.free np) hp, by rw [List.length_append, hlen]; rfl, ve_snoc hve ve⟩
      · obtain ⟨as, es, rfl, hrn, hlen, hve⟩ := hR
        exact nx G C es _ sm nC (hrn.row hC) ⟨hlen, hve⟩
    case t2 =>
      intro D σ H h
      obtain ⟨k, sh, t, g, x, v6, v8, v9, zs, ess, rfl, ha, ht, hm0, hm, hx, hz, hl, hv, nx⟩ := h
      have els : T3 a ds many D (SG a k many g x sh v6 (some (.int t)) v8 v9) H := ⟨k, sh, t, g, x, v6, v8, v9, rfl, ha, ht, hm, nx⟩
      refine ⟨.ref x, rfl, x, _, rfl, .inl (.of hx), _, _, rfl, rfl, _, rfl, ?_⟩
      refine ite2 (fun h => ?_) (fun h => iteF els)
      have pos : 0 < ess.length := by have := of_decide_eq_true h; rw [hz.len] at this; omega
      refine ⟨.ref a, rfl, _, rfl, _, _, rfl, rfl, a, ds, _, _, rfl, ha, by omega, by decide, fun r1 p1 u1 => ⟨rfl, _, rfl, ?_⟩⟩
      refine ite2 (fun _ => ?_) (fun _ => els)
      refine ⟨.ref a, rfl, _, rfl, _, _, rfl, rfl, .ref x, rfl, .ref a, rfl, _, rfl, _, _, rfl, rfl, .ref x, rfl, x, _, rfl, .inl (.of hx), a, ds, _, _, rfl, ha, by omega, by rw [hz.len]; omega, fun r2 p2 u2 => ?_⟩
      rw [hz.len] at u2
      obtain ⟨es, he⟩ := some_at (xs := ess) (i := r2.toNat) (by omega)
      obtain ⟨v, hv2, hX⟩ := hz.get' he
      obtain ⟨b, rfl, hb⟩ := RowL.ofX hX
      have e2 : r2 = ((r2.toNat : Nat) : Int) := by omega
      refine ⟨x, _, _, _, rfl, rfl, .of hx, by rw [e2]; exact atI_nat hv2, ?_⟩
      exact ⟨a, b, ds, _, es, many, rfl, ha, by omega, hb, hv _ (mem_at he), hm0, hm, fun H' p els s1 np hF vr => nx H' p els _ s1 np hF vr⟩
    refine ⟨by show 0 ≤ sizeLine; decide, fun g ng => ?_⟩
    have s0 := same_upd ng (o := .lst [])
    refine ⟨by show 0 ≤ sizeLine; decide, fun x nx => ?_⟩
    have s1 := s0.trans (same_upd nx (o := .lst []))
    have xg : x ≠ g := fun z => by rw [z, upd_same] at nx; cases nx
    have nx0 : H x = none := s0.free nx
    refine ⟨.ref a, rfl, _, rfl, a, ds, _, _, rfl, ha.same s1, hk, by decide, fun sh p0 u0 => ?_⟩
    refine ⟨_, rfl, (many : Nat), rfl, by omega, by omega, ?_⟩
    rw [Int.toNat_natCast]
    refine for_range (n := many) (lo := 0) (fun i σ G => Same H G ∧ ∃ (v6 v7 v8 v9 : Option V) (xs : List V) (rs : List Rw) (zs : List V) (ess : List (List (List Int))), σ = SG a k many g x sh v6 v7 v8 v9 ∧ G g = some (.lst xs) ∧ A2 (XG K g x G) xs rs ∧ G x = some (.lst zs) ∧ A2 (XR g x G) zs ess ∧ rs.length = i ∧ ess.length ≤ i ∧ (∀ r ∈ rs, VR many r.2) ∧ (∀ e ∈ ess, VR many e)) ⟨s1, none, none, none, none, [], [], [], [], rfl, by rw [upd_ne xg.symm, upd_same], .nil, upd_same, .nil, rfl, Nat.le_refl _, (fun _ z => by cases z), (fun _ z => by cases z)⟩ (fun i σ G hi hP => ?_) (fun σ G hP => ?_)
    · obtain ⟨sm, v6, v7, v8, v9, xs, rs, zs, ess, rfl, hg, hA, hx, hz, lr, le, vr, ve⟩ := hP
      have lx := hA.len
      have lz := hz.len
      have gn : G g ≠ none := by rw [hg]; exact fun z => nomatch z
      have xn : G x ≠ none := by rw [hx]; exact fun z => nomatch z
      refine ⟨_, rfl, _, _, rfl, rfl, _, rfl, _, _, rfl, rfl, .inl ⟨by decide, by decide⟩, _, _, rfl, rfl, ?_⟩
      refine ⟨.ref a, rfl, _, rfl, a, ds, _, _, rfl, ha.same sm, by omega, by decide, fun r1 p1 u1 => ⟨_, rfl, _, _, rfl, rfl, _, rfl, ?_⟩⟩
      refine ite2 (fun _ => ?_) (fun _ => ?_)
      · refine ⟨_, _, _, _, _, _, _, _, zs, ess, rfl, ha.same sm, by omega, by omega, hm, hx, hz, by omega, ve, fun G2 p els v9 s2 np hF vrow => ?_⟩
        have hXR := XR.of gn xn np hF
        refine ⟨.ref x, rfl, .inl ⟨rfl, _, .of (s2 _ _ hx)⟩, _, rfl, x, _, _, rfl, rfl, s2 _ _ hx, small' (by omega), ?_⟩
        have s3 : Same H (upd G2 x (.lst (zs ++ [.ref p]))) := same_over (sm.trans s2) nx0
        have u3 : SP g x G (upd G2 x (.lst (zs ++ [.ref p]))) := (spS s2).trans spX
        have g3 : upd G2 x (.lst (zs ++ [.ref p])) g = some (.lst xs) := by rw [upd_ne xg.symm]; exact s2 _ _ hg
        have x3 : upd G2 x (.lst (zs ++ [.ref p])) x = some (.lst (zs ++ [.ref p])) := upd_same
        have hX3 := hXR.up (spX (g := g) (x := x) (o := .lst (zs ++ [.ref p])))
        generalize upd G2 x (.lst (zs ++ [.ref p])) = G3 at s3 u3 g3 x3 hX3
        refine ⟨.ref g, rfl, .inl ⟨rfl, _, .of g3⟩, _, rfl, by show 2 ≤ sizeLine; decide, fun t nt => ?_⟩
        have s4 := same_upd nt (o := .tup [.str "exact", .ref p])
        refine ⟨g, _, _, rfl, rfl, s4 _ _ g3, small' (by omega), ?_⟩
        have u5 : SP g x G3 (upd (upd G3 t (.tup [.str "exact", .ref p])) g (.lst (xs ++ [.ref t]))) := (spS s4).trans spG
        have tn : Of g x t := of_new (H := G3) (by rw [g3]; exact fun z => nomatch z) (by rw [x3]; exact fun z => nomatch z) nt
        refine ⟨same_over (s3.trans s4) ng, _, _, _, _, xs ++ [.ref t], rs ++ [(true, els)], zs ++ [.ref p], ess ++ [els], rfl, upd_same, A2.snoc ⟨t, .ref p, rfl, tn, by rw [upd_ne tn.1, upd_same]; rfl, hX3.up u5⟩ (hA.mono fun _ _ z => z.up (u3.trans u5)), by rw [upd_ne xg]; exact s4 _ _ x3, A2.snoc (hX3.up u5) (hz.mono fun _ _ z => z.up (u3.trans u5)), by rw [List.length_append, lr]; rfl, by rw [List.length_append]; exact Nat.succ_le_succ le, fun r hr => ?_, fun e he => ?_⟩
        · rcases List.mem_append.mp hr with z | z
          · exact vr r z
          · rw [List.mem_singleton.mp z]; exact vrow
        · rcases List.mem_append.mp he with z | z
          · exact ve e z
          · rw [List.mem_singleton.mp z]; exact vrow
      · refine ⟨.ref g, rfl, .inl ⟨rfl, _, .of hg⟩, _, rfl, (many : Nat), rfl, by omega, by omega, fun C nC => ?_⟩
        rw [Int.toNat_natCast]
        refine lc_inv (walk_range (lo := 0) (n := many)) (fun i G1 ys => ∃ (as : List Addr) (es : List (List Int)), ys = as.map V.ref ∧ RN C G G1 as es ∧ es.length = i ∧ ∀ e ∈ es, VE e) nC (fun _ _ => trivial) (small' (by omega)) ⟨[], [], rfl, .nil, rfl, fun _ z => by cases z⟩ (fun i x G1 Hx ys hi sm1 hC hR y Qt Qf qt qf => ?_) (fun G1 ys sm1 hC hR => ?_)
        · obtain ⟨rfl, rfl⟩ := y
          obtain ⟨as, es, rfl, hrn, hlen, hve⟩ := hR
          refine ⟨rfl, .ref a, rfl, _, rfl, _, _, rfl, rfl, _, rfl, _, _, rfl, rfl, .inl ⟨by decide, by decide⟩, _, _, rfl, rfl, a, ds, _, _, rfl, (ha.same sm).same sm1, by omega, fun G2 p ns s2 np hp ve => ?_⟩
          have pC : p ≠ C := fun z => by rw [z, hC] at np; cases np
          exact qt _ _ s2 ⟨as ++ [p], es ++ [ns], by rw [List.map_append]; rfl, hrn.snoc s2 pC (sm1.free np) hp, by rw [List.length_append, hlen]; rfl, ve_snoc hve ve⟩
        · obtain ⟨as, es, rfl, hrn, hlen, hve⟩ := hR
          have hXR := XR.of gn xn nC (hrn.row hC)
          refine ⟨by show 2 ≤ sizeLine; decide, fun t nt => ?_⟩
          have s4 := same_upd nt (o := .tup [.str "sized", .ref C])
          have g3 := sm1 _ _ hg
          have x3 := sm1 _ _ hx
          refine ⟨g, _, _, rfl, rfl, s4 _ _ g3, small' (by omega), ?_⟩
          have u5 : SP g x G1 (upd (upd G1 t (.tup [.str "sized", .ref C])) g (.lst (xs ++ [.ref t]))) := (spS s4).trans spG
          have tn : Of g x t := of_new (H := G1) (by rw [g3]; exact fun z => nomatch z) (by rw [x3]; exact fun z => nomatch z) nt
          refine ⟨same_over ((sm.trans sm1).trans s4) ng, _, _, _, _, xs ++ [.ref t], rs ++ [(false, es)], zs, ess, rfl, upd_same, A2.snoc ⟨t, .ref C, rfl, tn, by rw [upd_ne tn.1, upd_same]; rfl, hXR.up u5⟩ (hA.mono fun _ _ z => z.up ((spS sm1).trans u5)), by rw [upd_ne xg]; exact s4 _ _ x3, (hz.mono fun _ _ z => z.up ((spS sm1).trans u5)), by rw [List.length_append, lr]; rfl, by omega, fun r hr => ?_, ve⟩
          rcases List.mem_append.mp hr with z | z
          · exact vr r z
          · rw [List.mem_singleton.mp z]; exact ⟨hlen, hve⟩
    · obtain ⟨sm, v6, v7, v8, v9, xs, rs, zs, ess, rfl, hg, hA, hx, hz, lr, le, vr, ve⟩ := hP
      exact ⟨.ref g, rfl, q G g rs sm ⟨xs, hg, hA.mono fun _ _ z => z.row⟩ ⟨lr, vr⟩⟩
end
-- P47
section
variable {P : Program} {w : World} {K : PySem.W.Frag} {mg : Str → Option Value} {base : Heap}
/-! ### the errors -/
theorem len_app (a b : Str) : (a ++ b).length = a.length + b.length := by
  show (a.cps ++ b.cps).size = a.cps.size + b.cps.size
  exact Array.size_append
theorem small2 {x : Nat} (h : x ≤ 2000) : x ≤ sizeLine := Nat.le_trans h (by decide)
def sp_wording : Sp := fun vs H Q _ => ∃ (nm : Str) (i : Int), vs = [.str nm, .int i] ∧ nm.length ≤ 1000 ∧ i.natAbs < 10 ^ 12 ∧ ∀ t : Str, Q (.str t) H
theorem ok_wording (T : Txt K mg) : FnOk P w K mg base CX0 1 T.wording.a T.wording.fd ["name", "at"] sp_wording := by
  refine T.wording.F.ok sc_wording (fun vs H Q E h => ?_) (fun cdv A outer s H vs Q E hr h => ?_)
  · obtain ⟨nm, i, rfl, _⟩ := h
    rfl
  · obtain ⟨nm, i, rfl, hn, h1, q⟩ := h
    refine ⟨_, (pss_cons (ps_if (pt_cmpR op_gt (pe_bits (pv 1)) pe_int (nomark _))
        (pss_one (ps_ret (pe_joined (.cons (pe_fmt (pv 0)) (.cons pe_str (.cons (pe_fmt (pe_bits (pv 1))) (.cons pe_str .nil)))))))
        pss_nil)
      (pss_one (ps_ret (pe_joined (.cons (pe_fmt (pv 0)) (.cons pe_str (.cons (pe_fmt (pv 1)) .nil))))))), ?_⟩
    have e : i.natAbs < 2 ^ 40 := Nat.lt_of_lt_of_le h1 (by decide)
    have hb := LX.bits_le e
    refine ⟨_, rfl, i, rfl, _, _, rfl, rfl, _, rfl, ?_⟩
    rw [decide_eq_false (by omega)]
    have lt : (Str.ofString (toString i)).length ≤ 13 := LX.text_len (by decide) h1
    refine iteF ⟨_, rfl, .inl ⟨nm, rfl, small2 (by omega), nm, rfl, ?_, _, rfl, ?_, _, rfl, .inr ⟨i, rfl, ?_, _, rfl, ?_, q _⟩⟩⟩
    · rw [len_app]; exact small2 (by show 0 + _ ≤ _; omega)
    · rw [len_app, len_app]; exact small2 (by show 0 + _ + 4 ≤ _; omega)
    · exact Nat.lt_of_lt_of_le (PySem.Flt.log2_lt_of (by decide) e) (by decide)
    · rw [len_app, len_app, len_app]; exact small2 (by show 0 + _ + 4 + _ ≤ _; omega)
theorem ok_init (T : Txt K mg) (X : Errs K mg) : FnOk P w K mg base CX0 2 X.e0.f X.e0.fd ["self", "at"] (LX.sp_init K) := by
  refine X.e0.F.ok sc_init (fun vs H Q E h => ?_) (fun cdv A outer s H vs Q E hr h => ?_)
  · obtain ⟨e, C, nm, i, rfl, _⟩ := h
    rfl
  · obtain ⟨e, C, nm, i, rfl, he, hn, ho, na, h1, q⟩ := h
    refine ⟨_, pss_cons (ps_expr (pe_veinit (by rfl) X.e0.mV X.e0.vV (pa_cons (pv 0) (pa_cons (pe_call (ok_wording T) (hr.mono (by decide)) (by rfl) T.wording.g T.wording.F.kp T.wording.b .nil pass0 (pa_cons (LX.pe_cn (pv 0)) (pa_cons (pv 1) pa_nil))) pa_nil))))
      (pss_one (ps_ost (pv 0) (pv 1))), ?_⟩
    refine ⟨.ref e, rfl, .ref e, rfl, e, C, nm, rfl, he, hn, _, rfl, nm, i, rfl, hn.sz, h1, fun t => ⟨e, C, _, rfl, by show 1 ≤ 1000; decide, ho, he, ?_⟩⟩
    exact ⟨_, rfl, .ref e, rfl, e, C, rfl, ho, na, .inl ⟨he, fun d hd ne => q d hd ne⟩⟩
def Out (H : Hp) (Q : VK) (r : List Int) : Prop := ∀ H' p, Same H H' → H p = none → IL H' p r → Q (.ref p) H'
theorem il_ne {H : Hp} {p q : Addr} {o : HO} {ns : List Int} (h : IL H q ns) (n : H p = none) : IL (upd H p o) q ns := by
  show upd H p o q = _
  rw [upd_ne (ne_of_none h n)]
  exact h
theorem il_upd_ne {H : Hp} {p q : Addr} {o : HO} {ns : List Int} (h : IL H q ns) (n : q ≠ p) : IL (upd H p o) q ns := by
  show upd H p o q = _
  rw [upd_ne n]
  exact h
theorem map_at {ns : List Int} {m : Nat} (h : m < ns.length) : (ns.map V.int)[m]? = some (V.int (cf ns m)) := by
  rw [List.getElem?_map, at_cf h]; rfl
theorem map_get {ns : List Int} {m : Nat} {x : V} (h : (ns.map V.int)[m]? = some x) : m < ns.length ∧ x = V.int (cf ns m) := by
  have hl := (List.getElem?_eq_some_iff.mp h).1
  rw [List.length_map] at hl
  exact ⟨hl, Option.some.inj (h.symm.trans (map_at hl))⟩
theorem len_set {xs : List Int} {j : Nat} {y : Int} : (xs.map V.int).set j (V.int y) = (xs.set j y).map V.int := by rw [List.map_set]
theorem cf_set {xs : List Int} {j : Nat} {y : Int} {m : Nat} (h : j < xs.length) : cf (xs.set j y) m = if m = j then y else cf xs m := by
  unfold cf
  rw [List.getD_eq_getElem?_getD, List.getD_eq_getElem?_getD]
  by_cases e : m = j
  · rw [if_pos e, e, List.getElem?_set_self h]; rfl
  · rw [if_neg e, List.getElem?_set_ne (Ne.symm e)]
theorem at_mapI {ns : List Int} {m : Nat} (h : m < ns.length) : atI (ns.map V.int) (m : Int) = some (V.int (cf ns m)) := atI_nat (map_at h)
def sp_trimmed : Sp := fun vs H Q _ => ∃ (a : Addr) (ns : List Int), vs = [.ref a] ∧ IL H a ns ∧ ns.length ≤ 1000 ∧ Out H Q (trim ns)
theorem ok_trimmed (T : Txt K mg) : FnOk P w K mg base CX0 1 T.trimmed.a T.trimmed.fd ["numbers"] sp_trimmed := by
  refine T.trimmed.F.ok sc_trimmed (fun vs H Q E h => ?_) (fun cdv A outer s H vs Q E hr h => ?_)
  · obtain ⟨a, ns, rfl, _⟩ := h
    rfl
  · obtain ⟨a, ns, rfl, ha, hl, q⟩ := h
    refine ⟨_, (pss_cons (ps_set (i := 1) sc_trimmed.nd rfl (.inl rfl) (pe_callB call_len_seq (by rfl) T.m_len (by decide +kernel) (pa_cons (pv 0) pa_nil)))
      (pss_cons (ps_while PassesOwn.never (PW.pt (pw_and (pt_cmpR op_gt (pv 1) pe_int (nomark _)) (pw_and1 (pt_cmpR op_eq (pe_ix ix_list (pv 0) (pe_op op_sub (pv 1) pe_int) (fun _ _ => rfl)) pe_int (nomark _)))))
        (pss_one (ps_aug (i := 1) sc_trimmed.nd rfl (.inl rfl) pe_int ip_sub)))
      (pss_one (ps_ret (pe_slice sl_list (pv 0) po_none (po_some (pv 1))))))), ?_⟩
    refine ⟨.ref a, rfl, a, _, rfl, .inl ha.sq, ?_⟩
    refine while_by (fun σ H' => H' = H ∧ ∃ L : Nat, σ = [some (.ref a), some (.int L)] ∧ L ≤ ns.length ∧ ∀ m, L ≤ m → cf ns m = 0) (fun σ _ => match σ with | [_, some (.int L)] => L.toNat | _ => 0) ?_ ?_ ?_
    · exact ⟨rfl, ns.length, by rw [List.length_map]; rfl, Nat.le_refl _, fun m h => cf_ge h⟩
    · rintro σ H' ⟨rfl, L, rfl, hL, hz⟩
      refine ⟨_, rfl, _, _, rfl, rfl, _, rfl, ?_⟩
      by_cases h0 : (0 : Int) < (L : Int)
      · rw [decide_eq_true h0]
        refine iteT ⟨.ref a, rfl, _, rfl, _, _, rfl, rfl, a, _, _, _, rfl, rfl, ha.sq, at_map' (m := L - 1) (by omega) (by omega), rfl, _, rfl, ?_⟩
        by_cases h1 : cf ns (L - 1) = 0
        · rw [h1]
          refine iteT ⟨_, rfl, _, _, rfl, rfl, ⟨rfl, L - 1, ?_, by omega, fun m hm => ?_⟩, ?_⟩
          · show [some (V.ref a), some (V.int ((L : Int) - 1))] = _
            rw [show ((L : Int) - 1) = ((L - 1 : Nat) : Int) by omega]
          · rcases Nat.lt_or_ge m L with q | q
            · rw [show m = L - 1 by omega]; exact h1
            · exact hz m q
          · show ((L : Int) - 1).toNat < (L : Int).toNat
            omega
        · rw [show decide (V.int (cf ns (L - 1)) = V.int 0) = false from decide_eq_false (fun z => h1 (V.int.inj z))]
          refine iteF ⟨.ref a, rfl, _, rfl, _, rfl, a, _, rfl, ha.sq, fun p hp => ?_⟩
          rw [cut_to hL, take_trim hL hz (.inr h1)]
          exact q _ _ (same_upd hp) hp il_upd
      · rw [decide_eq_false h0]
        refine iteF (iteF ⟨.ref a, rfl, _, rfl, _, rfl, a, _, rfl, ha.sq, fun p hp => ?_⟩)
        rw [cut_to hL, take_trim hL hz (.inl (by omega))]
        exact q _ _ (same_upd hp) hp il_upd
    · rintro σ H' Q1 Q2 hQ ⟨v, e1, i, j, e2, e3, k, e4, h⟩
      refine ⟨v, e1, i, j, e2, e3, k, e4, ?_⟩
      cases k with
      | true =>
        obtain ⟨b, e5, i', e6, x, y, e7, e8, p, xs, ii, vv, e9, e10, e11, e12, e13, k', e14, h⟩ := h
        exact ⟨b, e5, i', e6, x, y, e7, e8, p, xs, ii, vv, e9, e10, e11, e12, e13, k', e14, hQ _ _ h⟩
      | false => exact hQ _ _ h

/-- a for k, n over enumerate(a list of ints) -/
theorem for_enumL {K : PySem.W.Frag} {a : Addr} {ns : List Int} {k n : Nat} {tb : TS} {D : Ends} {σ : L2.St} {H : Hp} (Pv : Nat → L2.St → Hp → Prop) (h0 : Pv 0 σ H) (hl : ∀ i σ H, i ≤ ns.length → Pv i σ H → SqL K H a (ns.map V.int))
    (hs : ∀ i σ H T, i < ns.length → Pv i σ H → H T = none → tb { D with nx := Pv (i + 1), ct := Pv (i + 1), bk := D.nx } ((σ.set k (some (.int (i : Nat)))).set n (some (.int (cf ns i)))) (upd H T (.tup [.int (i : Nat), .int (cf ns i)]))) (hd : ∀ σ H, Pv ns.length σ H → D.nx σ H) :
    ∃ W : Nat → Nat → L2.St → Hp → Prop, (∃ m, W 0 m σ H) ∧ ∀ i m σ H, W i m σ H →
      ((Ite K a).stop i H ∧ D.nx σ H) ∨ ((Ite K a).go i H ∧ ∃ N : L2.St → Hp → Prop, (∀ σ' H', N σ' H' → ∃ m', m' < m ∧ W (i + 1) m' σ' H') ∧ ∀ x H', (Ite K a).yld i H x H' → (gTup K 2 (gCons (gName k) (gCons (gName n) gNil))) x σ H' fun σ2 H2 => tb { D with nx := N, ct := N, bk := D.nx } σ2 H2) := by
  refine ⟨fun i m σ H => m = ns.length - i ∧ i ≤ ns.length ∧ Pv i σ H, ⟨ns.length, by simp, Nat.zero_le _, h0⟩, ?_⟩
  rintro i m σ H ⟨rfl, hi, p⟩
  have q := hl i σ H hi p
  by_cases hlt : i < ns.length
  · refine .inr ⟨⟨_, _, q, map_at hlt⟩, Pv (i + 1), fun σ' H' p' => ⟨ns.length - (i + 1), by omega, rfl, hlt, p'⟩, fun x H' y => ?_⟩
    obtain ⟨T, x1, rfl, nT, rfl, f⟩ := y
    have e2 := (map_get (f _ q)).2
    subst e2
    exact ⟨T, _, rfl, .inl (.inl upd_same), rfl, _, _, rfl, _, _, rfl, rfl, hs i σ H T hlt p nT⟩
  · have e : i = ns.length := by omega
    subst e
    exact .inl ⟨⟨_, q, by rw [List.length_map]; exact Nat.le_refl _⟩, hd σ H p⟩
theorem rep_one (n : Nat) (x : Int) : (List.replicate n [V.int x]).flatten = (List.replicate n x).map V.int := by
  induction n with
  | zero => rfl
  | succ n ih => rw [List.replicate_succ, List.replicate_succ, List.flatten_cons, ih, List.map_cons]; rfl
theorem cf_rep (n m : Nat) : cf (List.replicate n 0) m = 0 := by
  unfold cf
  rw [List.getD_eq_getElem?_getD, List.getElem?_replicate]
  split <;> rfl
/-- H p = none from a later heap -/
theorem fr {H H' : Hp} (s : Same H H') {p : Addr} (h : H' p = none) : H p = none := s.free h

def sp2 (f : List Int → List Int → List Int) : Sp := fun vs H Q _ => ∃ (a b : Addr) (ns ms : List Int), vs = [.ref a, .ref b] ∧ IL H a ns ∧ IL H b ms ∧ ns.length ≤ 400 ∧ ms.length ≤ 400 ∧ Out H Q (f ns ms)
theorem ok_plus (T : Txt K mg) : FnOk P w K mg base CX0 2 T.plus.a T.plus.fd ["one", "two"] (sp2 padd) := by
  refine T.plus.F.ok sc_plus (fun vs H Q E h => ?_) (fun cdv A outer s H vs Q E hr h => ?_)
  · obtain ⟨a, b, ns, ms, rfl, _⟩ := h
    rfl
  · obtain ⟨a, b, ns, ms, rfl, ha, hb, hla, hlb, q⟩ := h
    refine ⟨_, (pss_cons (ps_set (i := 2) sc_plus.nd rfl (.inl rfl) (pe_callB (call_max2 rfl) (by rfl) T.m_max (by decide +kernel) (pa_cons (pe_callB call_len_seq (by rfl) T.m_len (by decide +kernel) (pa_cons (pv 0) pa_nil)) (pa_cons (pe_callB call_len_seq (by rfl) T.m_len (by decide +kernel) (pa_cons (pv 1) pa_nil)) pa_nil))))
      (pss_cons (ps_set (i := 3) sc_plus.nd rfl (.inl rfl) (pe_op op_rep (pe_lst (pa_cons pe_int pa_nil)) (pv 2)))
      (pss_cons (ps_for PassesOwn.never rfl (pi_enum (by rfl) T.m_enumerate (pa_cons (pv 0) pa_nil)) (pg_tup rfl (pgs_cons (pg_name (i := 4) sc_plus.nd rfl (.inl rfl)) (pgs_cons (pg_name (i := 5) sc_plus.nd rfl (.inl rfl)) pgs_nil)))
        (pss_one (ps_asg (pv 5) (pg_sub (pv 3) (pv 4) set_list))))
      (pss_cons (ps_for PassesOwn.never rfl (pi_enum (by rfl) T.m_enumerate (pa_cons (pv 1) pa_nil)) (pg_tup rfl (pgs_cons (pg_name (i := 4) sc_plus.nd rfl (.inl rfl)) (pgs_cons (pg_name (i := 5) sc_plus.nd rfl (.inl rfl)) pgs_nil)))
        (pss_one (ps_asg (pe_op op_add (pe_ix ix_list (pv 3) (pv 4) (fun _ _ => rfl)) (pv 5)) (pg_sub (pv 3) (pv 4) set_list))))
      (pss_one (ps_ret (pe_call (ok_trimmed T) (hr.mono (by decide)) (by rfl) T.trimmed.g T.trimmed.F.kp T.trimmed.b .nil pass0 (pa_cons (pv 3) pa_nil)))))))), ?_⟩
    refine ⟨.ref a, rfl, a, _, rfl, .inl ha.sq, .ref b, rfl, b, _, rfl, .inl hb.sq, _, _, rfl, ?_⟩
    obtain ⟨L, hL, eL⟩ : ∃ L : Nat, L = max ns.length ms.length ∧ (if ((ms.map V.int).length : Int) > ((ns.map V.int).length : Int) then ((ms.map V.int).length : Int) else ((ns.map V.int).length : Int)) = (L : Int) := by
      refine ⟨_, rfl, ?_⟩
      rw [List.length_map, List.length_map]
      split <;> omega
    rw [eL]
    refine ⟨Nat.le_of_lt (small' (by show 1 < 60000; decide)), fun o ho => ⟨_, rfl, o, _, _, rfl, rfl, upd_same, by omega, by omega, ?_, fun p hp => ?_⟩⟩
    · show 1 * (L : Int).toNat ≤ sizeLine
      exact small (by omega)
    have s1 : Same H (upd (upd H o (.lst [V.int 0])) p (.lst (List.replicate (L : Int).toNat [V.int 0]).flatten)) := (same_upd ho).trans (same_upd hp)
    have hpn : H p = none := (same_upd ho).free hp
    refine ⟨.ref a, rfl, a, _, rfl, (ha.same s1).sq, ?_⟩
    refine for_enumL (ns := ns) (fun i σ H' => Same H H' ∧ ∃ t v4 v5, σ = [some (.ref a), some (.ref b), some (.int L), some (.ref p), v4, v5] ∧ IL H' p t ∧ t.length = L ∧ ∀ m, cf t m = if m < i then cf ns m else 0) ⟨s1, List.replicate L 0, none, none, rfl, ?_, by simp, fun m => by rw [cf_rep]; simp⟩ (fun i σ H' _ p => (ha.same p.1).sq) ?_ ?_
    · show upd _ _ _ _ = _
      rw [upd_same, rep_one]; rfl
    · rintro i σ H' T1 hi ⟨sm, t, v4, v5, rfl, hp', ht, hc⟩ hT
      have hnp : p ≠ T1 := ne_of_none hp' hT
      refine ⟨_, rfl, _, rfl, _, rfl, p, _, _, i, rfl, rfl, il_upd_ne hp' hnp, ix_ok rfl (by rw [List.length_map, ht]; omega), ?_⟩
      rw [len_set]
      refine ⟨same_over (same_over sm ((sm.free hT))) hpn, _, _, _, rfl, il_upd, by rw [List.length_set, ht], fun m => ?_⟩
      rw [cf_set (by omega), hc]
      by_cases e : m = i
      · rw [if_pos e, if_pos (by omega), e]
      · rw [if_neg e]
        by_cases q : m < i
        · rw [if_pos q, if_pos (by omega)]
        · rw [if_neg q, if_neg (by omega)]
    rintro σ H' ⟨sm, t, v4, v5, rfl, hp', ht, hc⟩
    refine ⟨.ref b, rfl, b, _, rfl, (hb.same sm).sq, ?_⟩
    refine for_enumL (ns := ms) (fun i σ H' => Same H H' ∧ ∃ t v4 v5, σ = [some (.ref a), some (.ref b), some (.int L), some (.ref p), v4, v5] ∧ IL H' p t ∧ t.length = L ∧ ∀ m, cf t m = cf ns m + if m < i then cf ms m else 0) ⟨sm, t, v4, v5, rfl, hp', ht, fun m => ?_⟩ (fun i σ H' _ p => (hb.same p.1).sq) ?_ ?_
    · rw [hc]
      split
      · simp
      · rename_i q
        rw [cf_ge (show ns.length ≤ m by omega)]; simp
    · rintro i σ H' T1 hi ⟨sm, t, v4, v5, rfl, hp', ht, hc⟩ hT
      have hnp : p ≠ T1 := ne_of_none hp' hT
      refine ⟨.ref p, rfl, _, rfl, p, _, _, _, rfl, rfl, (il_upd_ne hp' hnp).sq, at_mapI (by omega), _, rfl, _, _, rfl, rfl, _, rfl, _, rfl, p, _, _, i, rfl, rfl, il_upd_ne hp' hnp, ix_ok rfl (by rw [List.length_map, ht]; omega), ?_⟩
      rw [len_set]
      refine ⟨same_over (same_over sm ((sm.free hT))) hpn, _, _, _, rfl, il_upd, by rw [List.length_set, ht], fun m => ?_⟩
      rw [cf_set (by omega), hc, hc]
      by_cases e : m = i
      · subst e
        rw [if_pos rfl, if_neg (Nat.lt_irrefl _), if_pos (Nat.lt_succ_self _)]; omega
      · rw [if_neg e]
        by_cases q : m < i
        · rw [if_pos q, if_pos (by omega)]
        · rw [if_neg q, if_neg (by omega)]
    rintro σ H' ⟨sm, t, v4, v5, rfl, hp', ht, hc⟩
    refine ⟨.ref p, rfl, p, t, rfl, hp', by omega, fun H2 r s2 hr2 hi2 => q H2 r (sm.trans s2) (sm.free hr2) ?_⟩
    rw [padd_of (t := t) fun m => ?_] at hi2
    · exact hi2
    · rw [hc]
      split
      · rfl
      · rename_i z
        rw [cf_ge (show ms.length ≤ m by omega)]

/-- bounds of the numbers -/
def Bd (ns : List Int) : Prop := ∀ m, (cf ns m).natAbs < 2 ^ 200
theorem wide200 {x y : Int} (hx : x.natAbs < 2 ^ 200) (hy : y.natAbs < 2 ^ 200) : CMulW x y := wide_mul hx hy (by decide) (by decide) (by decide)
def sp2B (f : List Int → List Int → List Int) : Sp := fun vs H Q _ => ∃ (a b : Addr) (ns ms : List Int), vs = [.ref a, .ref b] ∧ IL H a ns ∧ IL H b ms ∧ ns.length ≤ 400 ∧ ms.length ≤ 400 ∧ Bd ns ∧ Bd ms ∧ Out H Q (f ns ms)
theorem ok_times (T : Txt K mg) : FnOk P w K mg base CX0 2 T.times.a T.times.fd ["one", "two"] (sp2B pmul) := by
  refine T.times.F.ok sc_times (fun vs H Q E h => ?_) (fun cdv A outer s H vs Q E hr h => ?_)
  · obtain ⟨a, b, ns, ms, rfl, _⟩ := h
    rfl
  · obtain ⟨a, b, ns, ms, rfl, ha, hb, hla, hlb, ba, bb, q⟩ := h
    refine ⟨_, (pss_cons (ps_set (i := 2) sc_times.nd rfl (.inl rfl) (pe_op op_rep (pe_lst (pa_cons pe_int pa_nil)) (pe_op op_add (pe_callB call_len_seq (by rfl) T.m_len (by decide +kernel) (pa_cons (pv 0) pa_nil)) (pe_callB call_len_seq (by rfl) T.m_len (by decide +kernel) (pa_cons (pv 1) pa_nil)))))
      (pss_cons (ps_for PassesOwn.never rfl (pi_enum (by rfl) T.m_enumerate (pa_cons (pv 0) pa_nil)) (pg_tup rfl (pgs_cons (pg_name (i := 3) sc_times.nd rfl (.inl rfl)) (pgs_cons (pg_name (i := 4) sc_times.nd rfl (.inl rfl)) pgs_nil)))
        (pss_one (ps_if (pt_cmpR op_ne (pv 4) pe_int (nomark _))
          (pss_one (ps_for PassesOwn.never rfl (pi_enum (by rfl) T.m_enumerate (pa_cons (pv 1) pa_nil)) (pg_tup rfl (pgs_cons (pg_name (i := 5) sc_times.nd rfl (.inl rfl)) (pgs_cons (pg_name (i := 6) sc_times.nd rfl (.inl rfl)) pgs_nil)))
            (pss_one (ps_asg (pe_op op_add (pe_ix ix_list (pv 2) (pe_op op_add (pv 3) (pv 5)) (fun _ _ => rfl)) (pe_op op_mulW (pv 4) (pv 6))) (pg_sub (pv 2) (pe_op op_add (pv 3) (pv 5)) set_list)))))
          pss_nil)))
      (pss_one (ps_ret (pe_call (ok_trimmed T) (hr.mono (by decide)) (by rfl) T.trimmed.g T.trimmed.F.kp T.trimmed.b .nil pass0 (pa_cons (pv 2) pa_nil)))))), ?_⟩
    refine ⟨Nat.le_of_lt (small' (by show 1 < 60000; decide)), fun o ho => ?_⟩
    refine ⟨.ref a, rfl, a, _, rfl, .inl (il_ne ha ho).sq, .ref b, rfl, b, _, rfl, .inl (il_ne hb ho).sq, _, _, rfl, rfl, ?_⟩
    obtain ⟨L, hL, eL⟩ : ∃ L : Nat, L = ns.length + ms.length ∧ ((ns.map V.int).length : Int) + ((ms.map V.int).length : Int) = (L : Int) := ⟨_, rfl, by rw [List.length_map, List.length_map]; omega⟩
    refine ⟨o, (L : Int), _, rfl, congrArg V.int eL, upd_same, by omega, by omega, ?_, fun p hp => ?_⟩
    · show 1 * (L : Int).toNat ≤ sizeLine
      exact small (by omega)
    have s1 : Same H (upd (upd H o (.lst [V.int 0])) p (.lst (List.replicate (L : Int).toNat [V.int 0]).flatten)) := (same_upd ho).trans (same_upd hp)
    have hpn : H p = none := (same_upd ho).free hp
    refine ⟨.ref a, rfl, a, _, rfl, (ha.same s1).sq, ?_⟩
    refine for_enumL (ns := ns) (fun i σ H' => Same H H' ∧ ∃ t v3 v4 v5 v6, σ = [some (.ref a), some (.ref b), some (.ref p), v3, v4, v5, v6] ∧ IL H' p t ∧ t.length = L ∧ ∀ m, cf t m = conv ns ms i m) ⟨s1, List.replicate L 0, none, none, none, none, rfl, ?_, by simp, fun m => by rw [cf_rep]; rfl⟩ (fun i σ H' _ p => (ha.same p.1).sq) ?_ ?_
    · show upd _ _ _ _ = _
      rw [upd_same, rep_one]; rfl
    · rintro i σ H' T1 hi ⟨sm, t, v3, v4, v5, v6, rfl, hp', ht, hc⟩ hT
      have hnp : p ≠ T1 := ne_of_none hp' hT
      have smT := same_over (o := .tup [V.int (i : Nat), V.int (cf ns i)]) sm (sm.free hT)
      refine ⟨_, rfl, rfl, _, rfl, ?_⟩
      by_cases h0 : cf ns i = 0
      · rw [h0]
        refine iteF ⟨by rw [← h0]; exact smT, t, _, _, _, _, rfl, il_upd_ne hp' hnp, ht, fun m => ?_⟩
        rw [hc]
        show _ = conv ns ms i m + cf ns i * _
        rw [h0]; simp
      · rw [show (!decide (V.int (cf ns i) = V.int 0)) = true by rw [decide_eq_false (fun z => h0 (V.int.inj z))]; rfl]
        refine iteT ⟨.ref b, rfl, b, _, rfl, (hb.same smT).sq, ?_⟩
        refine for_enumL (ns := ms) (fun j σ H' => Same H H' ∧ ∃ t v5 v6, σ = [some (.ref a), some (.ref b), some (.ref p), some (.int (i : Nat)), some (.int (cf ns i)), v5, v6] ∧ IL H' p t ∧ t.length = L ∧ ∀ m, cf t m = conv ns ms i m + cf ns i * (if i ≤ m ∧ m - i < j then cf ms (m - i) else 0)) ⟨smT, t, v5, v6, rfl, il_upd_ne hp' hnp, ht, fun m => ?_⟩ (fun i σ H' _ p => (hb.same p.1).sq) ?_ ?_
        · rw [hc, if_neg (by omega)]; simp
        · rintro j σ H' T2 hj ⟨sm, t, v5, v6, rfl, hp', ht, hc⟩ hT
          have hnp : p ≠ T2 := ne_of_none hp' hT
          refine ⟨.ref p, rfl, _, rfl, _, rfl, _, _, rfl, rfl, p, _, _, _, rfl, rfl, (il_upd_ne hp' hnp).sq, at_map' (m := i + j) (by omega) (by omega), _, rfl, _, rfl, _, _, rfl, rfl, wide200 (ba i) (bb j), _, _, rfl, rfl, .ref p, rfl, _, rfl, _, rfl, _, _, rfl, rfl, p, _, _, i + j, rfl, rfl, il_upd_ne hp' hnp, ix_ok (by omega) (by rw [List.length_map, ht]; omega), ?_⟩
          rw [len_set]
          refine ⟨same_over (same_over sm ((sm.free hT))) hpn, _, _, _, rfl, il_upd, by rw [List.length_set, ht], fun m => ?_⟩
          rw [cf_set (by omega), hc, hc]
          by_cases e : m = i + j
          · subst e
            rw [if_pos rfl, if_neg (by omega), if_pos (by omega), Nat.add_sub_cancel_left, Int.mul_zero, Int.add_zero]
          · rw [if_neg e]
            by_cases q : i ≤ m ∧ m - i < j
            · rw [if_pos q, if_pos (by omega)]
            · rw [if_neg q, if_neg (by omega)]
        · rintro σ H' ⟨sm, t, v5, v6, rfl, hp', ht, hc⟩
          refine ⟨sm, t, _, _, _, _, rfl, hp', ht, fun m => ?_⟩
          rw [hc]
          show _ = conv ns ms i m + cf ns i * (if i ≤ m then cf ms (m - i) else 0)
          by_cases q : i ≤ m
          · rw [if_pos q]
            by_cases z : m - i < ms.length
            · rw [if_pos ⟨q, z⟩]
            · rw [if_neg (fun y => z y.2), cf_ge (show ms.length ≤ m - i by omega)]
          · rw [if_neg q, if_neg (fun y => q y.1)]
    rintro σ H' ⟨sm, t, v3, v4, v5, v6, rfl, hp', ht, hc⟩
    refine ⟨.ref p, rfl, p, t, rfl, hp', by omega, fun H2 r s2 hr2 hi2 => q H2 r (sm.trans s2) (sm.free hr2) ?_⟩
    rw [pmul_of (t := t) hc] at hi2
    exact hi2
end
-- Q47
section
variable {P : Program} {w : World} {K : PySem.W.Frag} {mg : Str → Option Value} {base : Heap}
theorem small1 : 1 ≤ sizeLine := by decide
theorem ok_law_plus (T : Txt K mg) : FnOk P w K mg base CX0 2 T.law_plus.a T.law_plus.fd ["one", "two"] (sp2 padd) := by
  refine T.law_plus.F.ok sc_law_plus (fun vs H Q E h => ?_) (fun cdv A outer s H vs Q E hr h => ?_)
  · obtain ⟨a, b, ns, ms, rfl, _⟩ := h
    rfl
  · obtain ⟨a, b, ns, ms, rfl, ha, hb, hla, hlb, q⟩ := h
    refine ⟨_, (pss_cons (ps_set (i := 2) sc_law_plus.nd rfl (.inl rfl) (pe_op op_rep (pe_lst (pa_cons pe_int pa_nil)) (pe_callB (call_max2 rfl) (by rfl) T.m_max (by decide +kernel) (pa_cons (pe_callB call_len_seq (by rfl) T.m_len (by decide +kernel) (pa_cons (pv 0) pa_nil)) (pa_cons (pe_callB call_len_seq (by rfl) T.m_len (by decide +kernel) (pa_cons (pv 1) pa_nil)) pa_nil)))))
      (pss_cons (ps_for PassesOwn.never rfl (pi_range1 (by rfl) T.m_range (pa_cons (pe_callB call_len_seq (by rfl) T.m_len (by decide +kernel) (pa_cons (pv 0) pa_nil)) pa_nil)) (pg_name (i := 3) sc_law_plus.nd rfl (.inl rfl))
        (pss_one (ps_asg (pe_ix ix_list (pv 0) (pv 3) (fun _ _ => rfl)) (pg_sub (pv 2) (pv 3) set_list))))
      (pss_cons (ps_for PassesOwn.never rfl (pi_range1 (by rfl) T.m_range (pa_cons (pe_callB call_len_seq (by rfl) T.m_len (by decide +kernel) (pa_cons (pv 1) pa_nil)) pa_nil)) (pg_name (i := 3) sc_law_plus.nd rfl (.inl rfl))
        (pss_one (ps_asg (pe_op op_add (pe_ix ix_list (pv 2) (pv 3) (fun _ _ => rfl)) (pe_ix ix_list (pv 1) (pv 3) (fun _ _ => rfl))) (pg_sub (pv 2) (pv 3) set_list))))
      (pss_one (ps_ret (pe_call (ok_law_trimmed T) (hr.mono (by decide)) (by rfl) T.law_trimmed.g T.law_trimmed.F.kp T.law_trimmed.b .nil pass0 (pa_cons (pv 2) pa_nil))))))), ?_⟩
    refine ⟨small1, fun o ho => ?_⟩
    refine ⟨.ref a, rfl, a, _, rfl, .inl (il_ne ha ho).sq, .ref b, rfl, b, _, rfl, .inl (il_ne hb ho).sq, _, _, rfl, ?_⟩
    obtain ⟨L, hL, eL⟩ : ∃ L : Nat, L = max ns.length ms.length ∧ (if ((ms.map V.int).length : Int) > ((ns.map V.int).length : Int) then ((ms.map V.int).length : Int) else ((ns.map V.int).length : Int)) = (L : Int) := by
      refine ⟨_, rfl, ?_⟩
      rw [List.length_map, List.length_map]
      split <;> omega
    refine ⟨o, (L : Int), _, rfl, congrArg V.int eL, upd_same, by omega, by omega, by show 1 * (L : Int).toNat ≤ sizeLine; exact small (by omega), fun p hp => ?_⟩
    have s1 : Same H (upd (upd H o (.lst [V.int 0])) p (.lst (List.replicate (L : Int).toNat [V.int 0]).flatten)) := (same_upd ho).trans (same_upd hp)
    have hpn : H p = none := (same_upd ho).free hp
    refine ⟨.ref a, rfl, a, _, rfl, .inl (ha.same s1).sq, (ns.length : Nat), by rw [List.length_map], by omega, by omega, ?_⟩
    rw [Int.toNat_natCast]
    refine for_range (n := ns.length) (lo := 0) (fun i σ H' => Same H H' ∧ ∃ t v3, σ = [some (.ref a), some (.ref b), some (.ref p), v3] ∧ IL H' p t ∧ t.length = L ∧ ∀ m, cf t m = if m < i then cf ns m else 0) ⟨s1, List.replicate L 0, none, rfl, ?_, by simp, fun m => by rw [cf_rep]; simp⟩ (fun i σ H' hi hP => ?_) (fun σ H' hP => ?_)
    · show upd _ _ _ _ = _
      rw [upd_same, rep_one]; rfl
    · obtain ⟨sm, t, v3, rfl, hp', ht, hc⟩ := hP
      refine ⟨.ref a, rfl, _, rfl, a, _, _, _, rfl, rfl, (ha.same sm).sq, at_map' (m := i) (by omega) hi, .ref p, rfl, _, rfl, p, _, _, i, rfl, rfl, hp', ix_ok (by omega) (by rw [List.length_map, ht]; omega), ?_⟩
      rw [len_set]
      refine ⟨same_over sm hpn, _, _, rfl, il_upd, by rw [List.length_set, ht], fun m => ?_⟩
      rw [cf_set (by omega), hc]
      by_cases e : m = i
      · rw [if_pos e, if_pos (by omega), e]
      · rw [if_neg e]
        by_cases q : m < i
        · rw [if_pos q, if_pos (by omega)]
        · rw [if_neg q, if_neg (by omega)]
    obtain ⟨sm, t, v3, rfl, hp', ht, hc⟩ := hP
    refine ⟨.ref b, rfl, b, _, rfl, .inl (hb.same sm).sq, (ms.length : Nat), by rw [List.length_map], by omega, by omega, ?_⟩
    rw [Int.toNat_natCast]
    refine for_range (n := ms.length) (lo := 0) (fun i σ H' => Same H H' ∧ ∃ t v3, σ = [some (.ref a), some (.ref b), some (.ref p), v3] ∧ IL H' p t ∧ t.length = L ∧ ∀ m, cf t m = cf ns m + if m < i then cf ms m else 0) ⟨sm, t, v3, rfl, hp', ht, fun m => ?_⟩ (fun i σ H' hi hP => ?_) (fun σ H' hP => ?_)
    · rw [hc]
      split
      · simp
      · rw [cf_ge (show ns.length ≤ m by omega)]; simp
    · obtain ⟨sm, t, v3, rfl, hp', ht, hc⟩ := hP
      refine ⟨.ref p, rfl, _, rfl, p, _, _, _, rfl, rfl, hp'.sq, at_map' (m := i) (by omega) (by omega), .ref b, rfl, _, rfl, b, _, _, _, rfl, rfl, (hb.same sm).sq, at_map' (m := i) (by omega) hi, _, _, rfl, rfl, .ref p, rfl, _, rfl, p, _, _, i, rfl, rfl, hp', ix_ok (by omega) (by rw [List.length_map, ht]; omega), ?_⟩
      rw [len_set]
      refine ⟨same_over sm hpn, _, _, rfl, il_upd, by rw [List.length_set, ht], fun m => ?_⟩
      rw [cf_set (by omega), hc, hc]
      by_cases e : m = i
      · subst e
        rw [if_pos rfl, if_neg (Nat.lt_irrefl _), if_pos (Nat.lt_succ_self _)]; omega
      · rw [if_neg e]
        by_cases q : m < i
        · rw [if_pos q, if_pos (by omega)]
        · rw [if_neg q, if_neg (by omega)]
    obtain ⟨sm, t, v3, rfl, hp', ht, hc⟩ := hP
    refine ⟨.ref p, rfl, p, t, rfl, hp'.sq, by omega, fun H2 r m s2 hr2 em hi2 => q H2 r (sm.trans s2) (sm.free hr2) ?_⟩
    rw [em, padd_of (t := t) fun m => ?_] at hi2
    · exact hi2
    · rw [hc]
      split
      · rfl
      · rw [cf_ge (show ms.length ≤ m by omega)]
def sp2T : Sp := fun vs H Q _ => ∃ (a b : Addr) (ns ms : List Int), vs = [.ref a, .ref b] ∧ IL H a ns ∧ IL H b ms ∧ ns.length ≤ 100 ∧ ms.length ≤ 100 ∧ Bd ns ∧ Bd ms ∧ Out H Q (pmul ns ms)
theorem ok_law_times (T : Txt K mg) : FnOk P w K mg base CX0 2 T.law_times.a T.law_times.fd ["one", "two"] sp2T := by
  refine T.law_times.F.ok sc_law_times (fun vs H Q E h => ?_) (fun cdv A outer s H vs Q E hr h => ?_)
  · obtain ⟨a, b, ns, ms, rfl, _⟩ := h
    rfl
  · obtain ⟨a, b, ns, ms, rfl, ha, hb, hla, hlb, ba, bb, q⟩ := h
    refine ⟨_, (pss_cons (ps_set (i := 2) sc_law_times.nd rfl (.inl rfl) (pe_op op_rep (pe_lst (pa_cons pe_int pa_nil)) (pe_op op_add (pe_callB call_len_seq (by rfl) T.m_len (by decide +kernel) (pa_cons (pv 0) pa_nil)) (pe_callB call_len_seq (by rfl) T.m_len (by decide +kernel) (pa_cons (pv 1) pa_nil)))))
      (pss_cons (ps_for PassesOwn.never rfl (pi_range1 (by rfl) T.m_range (pa_cons (pe_callB call_len_seq (by rfl) T.m_len (by decide +kernel) (pa_cons (pv 0) pa_nil)) pa_nil)) (pg_name (i := 3) sc_law_times.nd rfl (.inl rfl))
        (pss_one (ps_for PassesOwn.never rfl (pi_range1 (by rfl) T.m_range (pa_cons (pe_callB call_len_seq (by rfl) T.m_len (by decide +kernel) (pa_cons (pv 1) pa_nil)) pa_nil)) (pg_name (i := 4) sc_law_times.nd rfl (.inl rfl))
          (pss_one (ps_asg (pe_op op_add (pe_ix ix_list (pv 2) (pe_op op_add (pv 3) (pv 4)) (fun _ _ => rfl)) (pe_op op_mulW (pe_ix ix_list (pv 0) (pv 3) (fun _ _ => rfl)) (pe_ix ix_list (pv 1) (pv 4) (fun _ _ => rfl)))) (pg_sub (pv 2) (pe_op op_add (pv 3) (pv 4)) set_list))))))
      (pss_one (ps_ret (pe_call (ok_law_trimmed T) (hr.mono (by decide)) (by rfl) T.law_trimmed.g T.law_trimmed.F.kp T.law_trimmed.b .nil pass0 (pa_cons (pv 2) pa_nil)))))), ?_⟩
    refine ⟨small1, fun o ho => ?_⟩
    refine ⟨.ref a, rfl, a, _, rfl, .inl (il_ne ha ho).sq, .ref b, rfl, b, _, rfl, .inl (il_ne hb ho).sq, _, _, rfl, rfl, ?_⟩
    obtain ⟨L, hL, eL⟩ : ∃ L : Nat, L = ns.length + ms.length ∧ ((ns.map V.int).length : Int) + ((ms.map V.int).length : Int) = (L : Int) := ⟨_, rfl, by rw [List.length_map, List.length_map]; omega⟩
    refine ⟨o, (L : Int), _, rfl, congrArg V.int eL, upd_same, by omega, by omega, by show 1 * (L : Int).toNat ≤ sizeLine; exact small (by omega), fun p hp => ?_⟩
    have s1 : Same H (upd (upd H o (.lst [V.int 0])) p (.lst (List.replicate (L : Int).toNat [V.int 0]).flatten)) := (same_upd ho).trans (same_upd hp)
    have hpn : H p = none := (same_upd ho).free hp
    refine ⟨.ref a, rfl, a, _, rfl, .inl (ha.same s1).sq, (ns.length : Nat), by rw [List.length_map], by omega, by omega, ?_⟩
    rw [Int.toNat_natCast]
    refine for_range (n := ns.length) (lo := 0) (fun i σ H' => Same H H' ∧ ∃ t v3 v4, σ = [some (.ref a), some (.ref b), some (.ref p), v3, v4] ∧ IL H' p t ∧ t.length = L ∧ ∀ m, cf t m = conv ns ms i m) ⟨s1, List.replicate L 0, none, none, rfl, ?_, by simp, fun m => by rw [cf_rep]; rfl⟩ (fun i σ H' hi hP => ?_) (fun σ H' hP => ?_)
    · show upd _ _ _ _ = _
      rw [upd_same, rep_one]; rfl
    · obtain ⟨sm, t, v3, v4, rfl, hp', ht, hc⟩ := hP
      refine ⟨.ref b, rfl, b, _, rfl, .inl (hb.same sm).sq, (ms.length : Nat), by rw [List.length_map], by omega, by omega, ?_⟩
      rw [Int.toNat_natCast]
      refine for_range (n := ms.length) (lo := 0) (fun j σ H' => Same H H' ∧ ∃ t v4, σ = [some (.ref a), some (.ref b), some (.ref p), some (.int (0 + (i : Int))), v4] ∧ IL H' p t ∧ t.length = L ∧ ∀ m, cf t m = conv ns ms i m + cf ns i * (if i ≤ m ∧ m - i < j then cf ms (m - i) else 0)) ⟨sm, t, v4, rfl, hp', ht, fun m => by rw [hc, if_neg (by omega)]; simp⟩ (fun j σ H' hj hP => ?_) (fun σ H' hP => ?_)
      · obtain ⟨sm, t, v4, rfl, hp', ht, hc⟩ := hP
        refine ⟨.ref p, rfl, _, rfl, _, rfl, _, _, rfl, rfl, p, _, _, _, rfl, rfl, hp'.sq, at_map' (m := i + j) (by omega) (by omega), .ref a, rfl, _, rfl, a, _, _, _, rfl, rfl, (ha.same sm).sq, at_map' (m := i) (by omega) hi, .ref b, rfl, _, rfl, b, _, _, _, rfl, rfl, (hb.same sm).sq, at_map' (m := j) (by omega) hj, _, _, rfl, rfl, wide200 (ba i) (bb j), _, _, rfl, rfl, .ref p, rfl, _, rfl, _, rfl, _, _, rfl, rfl, p, _, _, i + j, rfl, rfl, hp', ix_ok (by omega) (by rw [List.length_map, ht]; omega), ?_⟩
        rw [len_set]
        refine ⟨same_over sm hpn, _, _, rfl, il_upd, by rw [List.length_set, ht], fun m => ?_⟩
        rw [cf_set (by omega), hc, hc]
        by_cases e : m = i + j
        · subst e
          rw [if_pos rfl, if_neg (by omega), if_pos (by omega), Nat.add_sub_cancel_left, Int.mul_zero, Int.add_zero]
        · rw [if_neg e]
          by_cases q : i ≤ m ∧ m - i < j
          · rw [if_pos q, if_pos (by omega)]
          · rw [if_neg q, if_neg (by omega)]
      · obtain ⟨sm, t, v4, rfl, hp', ht, hc⟩ := hP
        refine ⟨sm, t, _, _, rfl, hp', ht, fun m => ?_⟩
        rw [hc]
        show _ = conv ns ms i m + cf ns i * (if i ≤ m then cf ms (m - i) else 0)
        by_cases q : i ≤ m
        · rw [if_pos q]
          by_cases z : m - i < ms.length
          · rw [if_pos ⟨q, z⟩]
          · rw [if_neg (fun y => z y.2), cf_ge (show ms.length ≤ m - i by omega)]
        · rw [if_neg q, if_neg (fun y => q y.1)]
    obtain ⟨sm, t, v3, v4, rfl, hp', ht, hc⟩ := hP
    refine ⟨.ref p, rfl, p, t, rfl, hp'.sq, by omega, fun H2 r m s2 hr2 em hi2 => q H2 r (sm.trans s2) (sm.free hr2) ?_⟩
    rw [em, pmul_of (t := t) hc] at hi2
    exact hi2
end
-- R47
/-! ### tables, and grids with other rows -/
abbrev Tb := List (List (List Int))
def TbR (H : Hp) (p : Addr) (tab : Tb) : Prop := ∃ as : List Addr, H p = some (.lst (as.map V.ref)) ∧ A2 (RowL H) as tab
theorem TbR.lk {H H' : Hp} {p : Addr} {tab : Tb} (s : Lk H H') (h : TbR H p tab) : TbR H' p tab := let ⟨as, e, r⟩ := h; ⟨as, s.lst e, r.mono fun _ _ z => z.lk s⟩
def wdt : Tb → Nat
  | [] => 0
  | r :: _ => r.length
def pick (tab : Tb) (j : Nat) : List (List Int) := tab.map fun t => t.getD j []
def pstep (tot : List Int) (p : List Int × List Int) : List Int := padd tot (pmul p.1 p.2)
def cellv (row : List (List Int)) (tab : Tb) (j : Nat) : List Int := (row.zip (pick tab j)).foldl pstep []
theorem fold_take {α β : Type} (f : β → α → β) (b : β) {xs : List α} {i : Nat} {x : α} (h : xs[i]? = some x) : (xs.take (i + 1)).foldl f b = f ((xs.take i).foldl f b) x := by
  rw [take_snoc h, List.foldl_append]; rfl
/-- a polynomial that may be multiplied -/
def Pb (e : List Int) : Prop := e.length ≤ 100 ∧ Bd e
theorem pmul_len (a b : List Int) : (pmul a b).length ≤ a.length + b.length := by
  unfold pmul
  refine Nat.le_trans (trim_len _) ?_
  rw [List.length_map, List.length_range]
  exact Nat.le_refl _
theorem pstep_len {tot : List Int} {p : List Int × List Int} (h : tot.length ≤ 200) (a : Pb p.1) (b : Pb p.2) : (pstep tot p).length ≤ 200 := by
  unfold pstep
  have h1 := padd_len tot (pmul p.1 p.2)
  have h2 := pmul_len p.1 p.2
  have := a.1
  have := b.1
  omega
def idxE (rs : List Rw) : List Nat := (List.range rs.length).filter fun i => (rs.getD i (false, [])).1
def exs (rs : List Rw) : Tb := rs.filterMap fun r => if r.1 = true then some r.2 else none
def seE (cur : List Rw) (p : Nat × List (List Int)) : List Rw := cur.set p.1 (true, p.2)
def chgS (rs : List Rw) (lines : Tb) : List Rw := ((idxE rs).zip lines).foldl seE rs
section
variable {P : Program} {w : World} {K : PySem.W.Frag} {mg : Str → Option Value} {base : Heap}
theorem str_ex (b : Bool) : decide (V.str (kS b) = V.str "exact") = b := by
  cases b <;> decide +kernel
def sp_width (K : PySem.W.Frag) : Sp := fun vs H Q _ => ∃ (a : Addr) (as : List Addr) (ls : List Nat), vs = [.ref a] ∧ SqL K H a (as.map V.ref) ∧ A2 (fun r n => ∃ xs, SqL K H r xs ∧ xs.length = n) as ls ∧ Q (.int ((ls.headD 0 : Nat) : Int)) H
theorem ok_width (T : Txt K mg) : FnOk P w K mg base CX0 1 T.width.a T.width.fd ["table"] (sp_width K) := by
  refine T.width.F.ok sc_width (fun vs H Q E h => ?_) (fun cdv A outer s H vs Q E hr h => ?_)
  · obtain ⟨a, as, ls, rfl, _⟩ := h
    rfl
  · obtain ⟨a, as, ls, rfl, ha, hA, q⟩ := h
    refine ⟨_, (pss_one (ps_ret (pe_ifExp (pt_truth (pv 0) (by intro _; rfl)) (pe_callB call_len_seq (by rfl) T.m_len (by decide +kernel) (pa_cons (pe_ix ix_list (pv 0) pe_int (fun _ _ => rfl)) pa_nil)) pe_int))), ?_⟩
    refine ⟨.ref a, rfl, _, .inl ⟨_, ha, rfl⟩, ?_⟩
    cases hA with
    | nil => exact iteF q
    | @cons r n as ls h t =>
      obtain ⟨xs, hx, rfl⟩ := h
      exact iteT ⟨.ref a, rfl, a, _, _, .ref r, rfl, rfl, ha, by exact atI_nat (j := 0) rfl, r, _, rfl, .inl hx, q⟩
theorem RowL.seq {H : Hp} {a : Addr} {row : List (List Int)} (h : RowL H a row) : ∃ xs : List V, SqL K H a xs ∧ xs.length = row.length := let ⟨as, e, r⟩ := h; ⟨_, .of e, by rw [List.length_map, r.len]⟩
def sp_cell : Sp := fun vs H Q _ => ∃ (a b : Addr) (row : List (List Int)) (tab : Tb) (j : Nat), vs = [.ref a, .ref b, .int (j : Nat)] ∧ RowL H a row ∧ TbR H b tab ∧ row.length = tab.length ∧ (∀ t ∈ tab, j < t.length) ∧ (∀ e ∈ row, Pb e) ∧ (∀ t ∈ tab, ∀ e ∈ t, Pb e) ∧ row.length ≤ 16 ∧ Out H Q (cellv row tab j)
theorem ok_cell (T : Txt K mg) : FnOk P w K mg base CX0 3 T.cell.a T.cell.fd ["row", "two", "j"] sp_cell := by
  refine T.cell.F.ok sc_cell (fun vs H Q E h => ?_) (fun cdv A outer s H vs Q E hr h => ?_)
  · obtain ⟨a, b, row, tab, j, rfl, _⟩ := h
    rfl
  · obtain ⟨a, b, row, tab, j, rfl, ha, hb, hl, hj, p1, p2, h16, q⟩ := h
    obtain ⟨as, hra, hA⟩ := ha
    obtain ⟨bs, hrb, hB⟩ := hb
    have la := hA.len
    refine ⟨_, (pss_cons (ps_set (i := 3) sc_cell.nd rfl (.inl rfl) (pe_lst pa_nil))
      (pss_cons (ps_for PassesOwn.never rfl (pi_enum (by rfl) T.m_enumerate (pa_cons (pv 0) pa_nil)) (pg_tup rfl (pgs_cons (pg_name (i := 4) sc_cell.nd rfl (.inl rfl)) (pgs_cons (pg_name (i := 5) sc_cell.nd rfl (.inl rfl)) pgs_nil)))
        (pss_one (ps_set (i := 3) sc_cell.nd rfl (.inl rfl) (pe_call (ok_plus T) (hr.mono (by decide)) (by rfl) T.plus.g T.plus.F.kp T.plus.b .nil pass0 (pa_cons (pv 3) (pa_cons (pe_call (ok_times T) (hr.mono (by decide)) (by rfl) T.times.g T.times.F.kp T.times.b .nil pass0 (pa_cons (pv 5) (pa_cons (pe_ix ix_list (pe_ix ix_list (pv 1) (pv 4) (fun _ _ => rfl)) (pv 2) (fun _ _ => rfl)) pa_nil))) pa_nil))))))
      (pss_one (ps_ret (pv 3))))), ?_⟩
    refine ⟨by show 0 ≤ sizeLine; decide, fun t0 nt0 => ?_⟩
    have s0 := same_upd nt0 (o := .lst [])
    refine ⟨.ref a, rfl, a, _, rfl, .of (s0 _ _ hra), ?_⟩
    refine for_it (walk_enum (xs := as.map V.ref)) (fun i σ G => Same H G ∧ ∃ (c : Addr) (v4 v5 : Option V), σ = [some (.ref a), some (.ref b), some (.int (j : Nat)), some (.ref c), v4, v5] ∧ H c = none ∧ IL G c (((row.zip (pick tab j)).take i).foldl pstep []) ∧ (((row.zip (pick tab j)).take i).foldl pstep []).length ≤ 200) ⟨s0, t0, none, none, rfl, nt0, upd_same, Nat.zero_le _⟩ (fun i σ G _ hP => .of (hP.1 _ _ hra)) (fun i x σ G Gx hi hP y => ?_) (fun σ G hP => ?_)
    · obtain ⟨sm, c, v4, v5, rfl, nc, hc, hlen⟩ := hP
      obtain ⟨T', i', x', rfl, nT, rfl, ei, hx'⟩ := y
      obtain rfl := Option.some.inj ei
      have s1 := same_upd nT (o := .tup [V.int (i : Nat), x'])
      obtain ⟨r, hr2, rfl⟩ := row_ref hx'
      obtain ⟨e, he, hI⟩ := hA.get hr2
      obtain ⟨t, ht⟩ := some_at (xs := tab) (i := i) (by have := (List.getElem?_eq_some_iff.mp he).1; omega)
      obtain ⟨bt, hbt, hRow⟩ := hB.get' ht
      obtain ⟨cs, hcs, hC⟩ := hRow
      have jt := hj t (mem_at ht)
      obtain ⟨f, hf⟩ := some_at jt
      obtain ⟨fa, hfa, hF⟩ := hC.get' hf
      have s2 := sm.trans s1
      have zp : (row.zip (pick tab j))[i]? = some (e, f) := by
        rw [List.getElem?_zip_eq_some]
        refine ⟨he, ?_⟩
        unfold pick
        rw [List.getElem?_map, ht]
        show some (t.getD j []) = some f
        rw [List.getD_eq_getElem?_getD, hf]; rfl
      refine ⟨T', _, rfl, .of upd_same, rfl, _, _, rfl, _, _, rfl, rfl, ?_⟩
      refine ⟨.ref c, rfl, _, rfl, .ref b, rfl, _, rfl, b, _, _, _, rfl, rfl, .of (s2 _ _ hrb), atI_nat (by rw [List.getElem?_map, hbt]; rfl), _, rfl, bt, _, _, _, rfl, rfl, .of (s2 _ _ hcs), atI_nat (by rw [List.getElem?_map, hfa]; rfl), ?_⟩
      have pe := p1 e (mem_at he)
      have pf := p2 t (mem_at ht) f (mem_at hf)
      refine ⟨r, fa, e, f, rfl, hI.same s2, hF.same s2, by have := pe.1; omega, by have := pf.1; omega, pe.2, pf.2, fun G2 m s3 nm hm => ?_⟩
      refine ⟨c, m, _, _, rfl, (hc.same s1).same s3, hm, by omega, by have := pmul_len e f; have := pe.1; have := pf.1; omega, fun G3 n s4 nn hn => ?_⟩
      refine ⟨s2.trans (s3.trans s4), n, _, _, rfl, (s2.trans s3).free nn, ?_, ?_⟩
      · rw [fold_take _ _ zp]; exact hn
      · rw [fold_take _ _ zp]; exact pstep_len hlen pe pf
    · obtain ⟨sm, c, v4, v5, rfl, nc, hc, hlen⟩ := hP
      refine ⟨_, rfl, q G c sm nc ?_⟩
      rw [List.take_of_length_le (by rw [List.length_zip, List.length_map]; omega)] at hc
      exact hc
def sp_is_exact (K : PySem.W.Frag) : Sp := fun vs H Q _ => ∃ (v : V) (r : Rw), vs = [v] ∧ RwV K H v r ∧ Q (.bl r.1) H
theorem ok_is_exact (T : Txt K mg) : FnOk P w K mg base CX0 1 T.is_exact.a T.is_exact.fd ["told"] (sp_is_exact K) := by
  refine T.is_exact.F.ok sc_is_exact (fun vs H Q E h => ?_) (fun cdv A outer s H vs Q E hr h => ?_)
  · obtain ⟨v, r, rfl, _⟩ := h
    rfl
  · obtain ⟨v, r, rfl, ⟨t, b, rfl, ht, hb⟩, q⟩ := h
    refine ⟨_, (pss_one (ps_ret (pe_cmpR op_eq (pe_ix ix_tup (pv 0) pe_int (fun _ _ => rfl)) pe_str (nomark _)))), ?_⟩
    refine ⟨.ref t, rfl, t, _, _, _, rfl, rfl, ht, rfl, rfl, ?_⟩
    rw [str_ex]
    exact q
theorem idx_step {rs : List Rw} {i : Nat} {r : Rw} (h : rs[i]? = some r) : (List.range (i + 1)).filter (fun i => (rs.getD i (false, [])).1) = (List.range i).filter (fun i => (rs.getD i (false, [])).1) ++ if r.1 = true then [i] else [] := by
  rw [List.range_succ, List.filter_append]
  have e : (rs.getD i (false, [])).1 = r.1 := by rw [List.getD_eq_getElem?_getD, h]; rfl
  show _ ++ List.filter _ [i] = _
  rw [List.filter_cons, e]
  cases r.1 <;> rfl
def sp_exact_indexes (K : PySem.W.Frag) : Sp := fun vs H Q _ => ∃ (g : Addr) (rs : List Rw), vs = [.ref g] ∧ GR K H g rs ∧ rs.length ≤ 16 ∧ ∀ H' p, Same H H' → H p = none → H' p = some (.lst ((idxE rs).map fun i => V.int (i : Nat))) → Q (.ref p) H'
theorem ok_exact_indexes (T : Txt K mg) : FnOk P w K mg base CX0 2 T.exact_indexes.a T.exact_indexes.fd ["grid"] (sp_exact_indexes K) := by
  refine T.exact_indexes.F.ok sc_exact_indexes (fun vs H Q E h => ?_) (fun cdv A outer s H vs Q E hr h => ?_)
  · obtain ⟨g, rs, rfl, _⟩ := h
    rfl
  · obtain ⟨g, rs, rfl, hg, hl, q⟩ := h
    obtain ⟨xs, hx, hA⟩ := hg
    have lx := hA.len
    refine ⟨_, (pss_one (ps_ret (pe_lc (own := [("i", 1), ("told", 2)]) (g := gTup K 2 (gCons (gName 1) (gCons (gName 2) gNil))) rfl sc_exact_indexes.nd (pi_enum (by rfl) T.m_enumerate (pa_cons (pv 0) pa_nil)) (blkOk_by (N := ["grid", "i", "told"]) (sc := defScope s_exact_indexes) (by decide +kernel)) (fun _ _ _ _ _ => (pg_tup rfl (pgs_cons (pg_name (i := 1) sc_exact_indexes.nd rfl (.inl rfl)) (pgs_cons (pg_name (i := 2) sc_exact_indexes.nd rfl (.inl rfl)) pgs_nil)))) (fun _ _ _ _ _ => (pts_one (pt_val (pe_call (ok_is_exact T) (hr.mono (by decide)) (by rfl) T.is_exact.g T.is_exact.F.kp T.is_exact.b .nil pass0 (pa_cons (pv 2) pa_nil))))) (fun _ _ _ _ _ => (pv 1))))), ?_⟩
    refine ⟨.ref g, rfl, g, _, rfl, .of hx, fun D nD => ?_⟩
    refine lc_inv (walk_enum (xs := xs)) (fun i G ys => ys = ((List.range i).filter fun i => (rs.getD i (false, [])).1).map fun i => V.int (i : Nat)) nD (fun H' s => s.seq (.of hx)) (small' (by omega)) rfl (fun i x G Hx ys hi sm hD hR y Qt Qf qt qf => ?_) (fun G ys sm hD hR => ?_)
    · obtain ⟨T', i', x', rfl, nT, rfl, e1, hx'⟩ := y
      obtain rfl := Option.some.inj e1
      obtain ⟨r, hr2, hV⟩ := hA.get hx'
      have s1 := same_upd nT (o := .tup [V.int (i : Nat), x'])
      refine ⟨T', _, rfl, .of upd_same, rfl, _, _, rfl, _, _, rfl, rfl, rfl, x', rfl, x', r, rfl, hV.lk (K47.lk (sm.trans s1)), _, rfl, ?_⟩
      have st := idx_step hr2
      cases e : r.1 with
      | true =>
        refine iteT ⟨_, rfl, qt _ _ s1 ?_⟩
        rw [st, e, hR, List.map_append]; rfl
      | false =>
        refine iteF (qf _ s1 ?_)
        rw [st, e, hR]
        show _ = List.map _ (_ ++ [])
        rw [List.append_nil]
    · refine q G D sm nD ?_
      rw [hD, hR, lx]; rfl
/-- a row handed back, all of it new -/
def RF (H0 H : Hp) (v : V) (r : Rw) : Prop := ∃ t b, v = .ref t ∧ H0 t = none ∧ H0 b = none ∧ H t = some (.tup [.str (kS r.1), .ref b]) ∧ RowF H0 H b r.2
def sp_copied (K : PySem.W.Frag) : Sp := fun vs H Q _ => ∃ (v : V) (r : Rw), vs = [v] ∧ RwV K H v r ∧ r.2.length ≤ 16 ∧ ∀ H' u, Same H H' → RF H H' u r → Q u H'
theorem ok_copied (T : Txt K mg) : FnOk P w K mg base CX0 1 T.copied.a T.copied.fd ["told"] (sp_copied K) := by
  refine T.copied.F.ok sc_copied (fun vs H Q E h => ?_) (fun cdv A outer s H vs Q E hr h => ?_)
  · obtain ⟨v, r, rfl, _⟩ := h
    rfl
  · obtain ⟨v, r, rfl, ⟨t, b, rfl, ht, as, hb, hA⟩, hl, q⟩ := h
    have la := hA.len
    refine ⟨_, (pss_cons (ps_asg (pv 0) (pg_tup rfl (pgs_cons (pg_name (i := 1) sc_copied.nd rfl (.inl rfl)) (pgs_cons (pg_name (i := 2) sc_copied.nd rfl (.inl rfl)) pgs_nil))))
      (pss_one (ps_ret (pe_tup (pa_cons (pv 1) (pa_cons (pe_lc (own := [("one", 3)]) rfl sc_copied.nd (pi_list (pv 2)) (blkOk_by (N := ["told", "kind", "row", "one"]) (sc := defScope s_copied) (by decide +kernel)) (fun _ _ _ _ _ => (pg_name (i := 3) sc_copied.nd rfl (.inl rfl))) (fun _ _ _ _ _ => pts_nil) (fun _ _ _ _ _ => (pe_callTy (T := "list") (r := rListC K) call_listC (by rfl) T.m_list (by decide +kernel) (pa_cons (pv 3) pa_nil)))) pa_nil)))))), ?_⟩
    refine ⟨.ref t, rfl, t, _, rfl, ht, rfl, _, _, rfl, _, _, rfl, rfl, ?_⟩
    refine ⟨_, rfl, .ref b, rfl, b, rfl, ⟨_, .of hb⟩, fun D nD => ?_⟩
    refine lc_inv (walk_list (xs := as.map V.ref)) (fun i G ys => ∃ cs : List Addr, ys = cs.map V.ref ∧ RN D H G cs (r.2.take i)) nD (fun H' s => s.seq (.of hb)) (small' (by rw [List.length_map]; omega)) ⟨[], rfl, .nil⟩ (fun i x G Hx ys hi sm hD hR y Qt Qf qt qf => ?_) (fun G ys sm hD hR => ?_)
    · obtain ⟨rfl, hx⟩ := y
      obtain ⟨c, hc, rfl⟩ := row_ref hx
      obtain ⟨e, he, hI⟩ := hA.get hc
      obtain ⟨cs, rfl, hrn⟩ := hR
      refine ⟨rfl, .ref c, rfl, c, _, rfl, .inl (hI.same sm).sq, fun n nn => ?_⟩
      have s1 := same_upd nn (o := .lst (e.map V.int))
      have nD2 : n ≠ D := fun z => by rw [z, hD] at nn; cases nn
      refine qt _ _ s1 ⟨cs ++ [n], by rw [List.map_append]; rfl, ?_⟩
      rw [take_snoc he]
      exact hrn.snoc s1 nD2 (sm.free nn) upd_same
    · obtain ⟨cs, rfl, hrn⟩ := hR
      rw [List.take_of_length_le (by rw [List.length_map]; omega)] at hrn
      refine ⟨by show 2 ≤ sizeLine; decide, fun u nu => ?_⟩
      have s1 := same_upd nu (o := .tup [.str (kS r.1), .ref D])
      refine q _ _ (sm.trans s1) ⟨u, D, rfl, sm.free nu, nD, upd_same, cs, s1 _ _ hD, hrn.mono fun _ _ z => ⟨z.1.2, z.2.same s1⟩⟩
end
-- S47
section
variable {P : Program} {w : World} {K : PySem.W.Frag} {mg : Str → Option Value} {base : Heap}
def RFD (D : Addr) (H0 H : Hp) (v : V) (r : Rw) : Prop := ∃ (t b : Addr) (as : List Addr), v = .ref t ∧ (t ≠ D ∧ H0 t = none) ∧ (b ≠ D ∧ H0 b = none) ∧ H t = some (.tup [.str (kS r.1), .ref b]) ∧ H b = some (.lst (as.map V.ref)) ∧ RN D H0 H as r.2
theorem RFD.up {D : Addr} {H0 H H' : Hp} {v : V} {r : Rw} (h : RFD D H0 H v r) (s : SameX D H H') : RFD D H0 H' v r := let ⟨t, b, as, e, nt, nb, ht, hb, hr⟩ := h; ⟨t, b, as, e, nt, nb, s _ _ nt.1 ht, s _ _ nb.1 hb, hr.up s⟩
theorem RFD.of {D : Addr} {H0 Hx H' : Hp} {v : V} {r : Rw} (s : Same H0 Hx) (hD : Hx D ≠ none) (h : RF Hx H' v r) : RFD D H0 H' v r := by
  obtain ⟨t, b, e, nt, nb, ht, as, hb, hA⟩ := h
  have nD : ∀ {c : Addr}, Hx c = none → c ≠ D ∧ H0 c = none := fun {c} z => ⟨fun y => hD (y ▸ z), s.free z⟩
  exact ⟨t, b, as, e, nD nt, nD nb, ht, hb, hA.mono fun _ _ z => ⟨nD z.1, z.2⟩⟩
theorem RFD.rf {D : Addr} {H0 H : Hp} {v : V} {r : Rw} (h : RFD D H0 H v r) : RF H0 H v r := let ⟨t, b, as, e, nt, nb, ht, hb, hr⟩ := h; ⟨t, b, e, nt.2, nb.2, ht, as, hb, hr.mono fun _ _ z => ⟨z.1.2, z.2⟩⟩
theorem same_x {D : Addr} {H G0 G : Hp} (s : Same H G0) (x : SameX D G0 G) (n : H D = none) : Same H G := fun c o h => x c o (fun z => by rw [z, n] at h; cases h) (s c o h)
theorem seE_len (rs : List Rw) (ps : List (Nat × List (List Int))) : (ps.foldl seE rs).length = rs.length := by
  induction ps generalizing rs with
  | nil => rfl
  | cons p r ih => rw [List.foldl_cons, ih]; exact List.length_set
def sp_with_exact (K : PySem.W.Frag) : Sp := fun vs H Q _ => ∃ (g b : Addr) (rs : List Rw) (lines : Tb), vs = [.ref g, .ref b] ∧ GR K H g rs ∧ rs.length ≤ 16 ∧ (∀ r ∈ rs, r.2.length ≤ 16) ∧ TbR H b lines ∧ (∀ l ∈ lines, l.length ≤ 16) ∧ lines.length ≤ 16 ∧
  ∀ H' p xs, Same H H' → H p = none → H' p = some (.lst xs) → A2 (RF H H') xs (chgS rs lines) → Q (.ref p) H'
theorem ok_with_exact (T : Txt K mg) : FnOk P w K mg base CX0 3 T.with_exact.a T.with_exact.fd ["grid", "table"] (sp_with_exact K) := by
  refine T.with_exact.F.ok sc_with_exact (fun vs H Q E h => ?_) (fun cdv A outer s H vs Q E hr h => ?_)
  · obtain ⟨g, b, rs, lines, rfl, _⟩ := h
    rfl
  · obtain ⟨g, b, rs, lines, rfl, hg, hl, hr16, hb, hll, hll2, q⟩ := h
    have hgr := hg
    obtain ⟨xs, hx, hA⟩ := hg
    obtain ⟨bs, hbl, hB⟩ := hb
    have lx := hA.len
    have lb := hB.len
    refine ⟨_, (pss_cons (ps_setLc (i := 2) (own := [("told", 5)]) rfl sc_with_exact.nd rfl rfl (sw_true rfl rfl rfl (by decide +kernel)) (pi_list (pv 0)) (blkOk_by (N := ["grid", "table", "found", "i", "row", "told"]) (sc := defScope s_with_exact) (by decide +kernel)) (fun _ _ _ _ _ => (pg_name (i := 5) sc_with_exact.nd rfl (.inl rfl))) (fun _ _ _ _ _ => pts_nil) (fun _ _ _ _ _ => (pe_call (ok_copied T) (hr.mono (by decide)) (by rfl) T.copied.g T.copied.F.kp T.copied.b .nil pass0 (pa_cons (pv 5) pa_nil))))
      (pss_cons (ps_for PassesOwn.never rfl (pi_zip (by rfl) T.m_zip (pa_cons (pe_call (ok_exact_indexes T) (hr.mono (by decide)) (by rfl) T.exact_indexes.g T.exact_indexes.F.kp T.exact_indexes.b .nil pass0 (pa_cons (pv 0) pa_nil)) (pa_cons (pv 1) pa_nil))) (pg_tup rfl (pgs_cons (pg_name (i := 3) sc_with_exact.nd rfl (.inl rfl)) (pgs_cons (pg_name (i := 4) sc_with_exact.nd rfl (.inl rfl)) pgs_nil)))
        (pss_one (ps_asg (pe_call (ok_copied T) (hr.mono (by decide)) (by rfl) T.copied.g T.copied.F.kp T.copied.b .nil pass0 (pa_cons (pe_tup (pa_cons pe_str (pa_cons (pv 4) pa_nil))) pa_nil)) (pg_sub (pv 2) (pv 3) set_list))))
      (pss_one (ps_ret (pv 2))))), ?_⟩
    refine ⟨.ref g, rfl, g, rfl, ⟨_, .of hx⟩, fun D nD => ?_⟩
    refine lc_inv (walk_list (xs := xs)) (fun i G ys => A2 (RFD D H G) ys (rs.take i)) nD (fun H' s => s.seq (.of hx)) (small' (by omega)) .nil (fun i x G Hx ys hi sm hD hR y Qt Qf qt qf => ?_) (fun G ys s1 hD hR => ?_)
    · obtain ⟨rfl, hxi⟩ := y
      obtain ⟨r, hr2, hV⟩ := hA.get hxi
      refine ⟨rfl, _, rfl, x, r, rfl, hV.lk (K47.lk sm), hr16 r (mem_at hr2), fun G2 u s2 hF => ?_⟩
      refine qt _ _ s2 ?_
      rw [take_snoc hr2]
      exact A2.snoc ((RFD.of sm (by rw [hD]; exact fun z => nomatch z) hF).up SameX.put) (hR.mono fun _ _ z => z.up ((sx s2).trans SameX.put))
    rw [List.take_of_length_le (by omega)] at hR
    refine ⟨.ref g, rfl, g, rs, rfl, hgr.lk (K47.lk s1), hl, fun G0 I s2 nI hI => ?_⟩
    have s02 := s1.trans s2
    refine ⟨.ref b, rfl, I, b, _, _, rfl, .of hI, .of (s02 _ _ hbl), ?_⟩
    have ID : I ≠ D := fun z => by rw [z, hD] at nI; cases nI
    have bD : b ≠ D := fun z => by rw [z, nD] at hbl; cases hbl
    refine for_it (walk_zip (xs := (idxE rs).map fun i => V.int (i : Nat)) (ys := bs.map V.ref) rfl) (fun i σ G => SameX D G0 G ∧ ∃ (zs : List V) (v3 v4 v5 : Option V), σ = [some (.ref g), some (.ref b), some (.ref D), v3, v4, v5] ∧ G D = some (.lst zs) ∧ A2 (RFD D H G) zs ((((idxE rs).zip lines).take i).foldl seE rs)) ⟨fun c o _ h => h, ys, none, none, _, rfl, s2 _ _ hD, hR.mono fun _ _ z => z.up (sx s2)⟩ (fun i σ G _ hP => ⟨.of (hP.1 _ _ ID hI), .of (hP.1 _ _ bD (s02 _ _ hbl))⟩) (fun i x σ G Gx hi hP y => ?_) (fun σ G hP => ?_)
    · obtain ⟨sm, zs, v3, v4, v5, rfl, hDz, hZ⟩ := hP
      obtain ⟨T', i', x', rfl, nT, rfl, e1, e2⟩ := y
      have sH := same_x s02 sm nD
      have e1 : ((idxE rs).map fun i => V.int (i : Nat))[i]? = some i' := e1
      rw [List.getElem?_map] at e1
      obtain ⟨j, hj, rfl⟩ : ∃ j, (idxE rs)[i]? = some j ∧ i' = V.int (j : Nat) := by
        cases e : (idxE rs)[i]? with
        | none => rw [e] at e1; cases e1
        | some j => rw [e] at e1; exact ⟨j, rfl, (Option.some.inj e1).symm⟩
      obtain ⟨c, hc, rfl⟩ := row_ref e2
      obtain ⟨line, hline, hL⟩ := hB.get hc
      have jl : j < rs.length := List.mem_range.mp (List.mem_filter.mp (mem_at hj)).1
      have s3 := same_upd nT (o := .tup [V.int (j : Nat), V.ref c])
      have zp : ((idxE rs).zip lines)[i]? = some (j, line) := by
        rw [List.getElem?_zip_eq_some]
        exact ⟨hj, hline⟩
      refine ⟨T', _, rfl, .of upd_same, rfl, _, _, rfl, _, _, rfl, rfl, ?_⟩
      refine ⟨_, rfl, by show 2 ≤ sizeLine; decide, fun t nt => ?_⟩
      have s4 := s3.trans (same_upd nt (o := .tup [.str "exact", V.ref c]))
      refine ⟨.ref t, (true, line), rfl, ⟨t, c, rfl, .inl (.inl upd_same), hL.same (sH.trans s4)⟩, hll _ (mem_at hline), fun G2 u s5 hF => ?_⟩
      have s6 := s4.trans s5
      have hD6 := s6 _ _ hDz
      have lz := hZ.len
      rw [seE_len] at lz
      refine ⟨.ref D, rfl, _, rfl, D, _, _, j, rfl, rfl, hD6, ix_ok rfl (by omega), ?_⟩
      refine ⟨(sm.trans (sx s6)).trans SameX.put, _, _, _, _, rfl, upd_same, ?_⟩
      rw [fold_take _ _ zp]
      refine A2.set ((RFD.of (sH.trans s4) (by rw [s4 _ _ hDz]; exact fun z => nomatch z) hF).up SameX.put) (hZ.mono fun _ _ z => z.up ((sx s6).trans SameX.put)) j
    · obtain ⟨sm, zs, v3, v4, v5, rfl, hDz, hZ⟩ := hP
      refine ⟨.ref D, rfl, q G D zs (same_x s02 sm nD) nD hDz ?_⟩
      rw [List.take_of_length_le (by rw [List.length_zip, List.length_map, List.length_map, lb]; exact Nat.le_refl _)] at hZ
      exact hZ.mono fun _ _ z => z.rf
/-- the rows of a new table -/
def TRow (D : Addr) (H : Hp) (v : V) (row : List (List Int)) : Prop := ∃ (a : Addr) (as : List Addr), v = .ref a ∧ a ≠ D ∧ H a = some (.lst (as.map V.ref)) ∧ A2 (fun e ns => e ≠ D ∧ IL H e ns) as row
theorem TRow.up {D : Addr} {H H' : Hp} {v : V} {row : List (List Int)} (s : SameX D H H') (h : TRow D H v row) : TRow D H' v row := let ⟨a, as, e, n, ha, r⟩ := h; ⟨a, as, e, n, s _ _ n ha, r.mono fun _ _ z => ⟨z.1, s _ _ z.1 z.2⟩⟩
theorem TbR.of {D : Addr} {H : Hp} {ys : List V} {tab : Tb} (hD : H D = some (.lst ys)) (h : A2 (TRow D H) ys tab) : TbR H D tab := by
  obtain ⟨as, rfl, r⟩ := a2_ref (h.mono fun v row (z : TRow D H v row) => (let ⟨a, as, e, _, ha, r⟩ := z; ⟨a, e, as, ha, r.mono fun _ _ y => y.2⟩ : ∃ a, v = V.ref a ∧ RowL H a row))
  exact ⟨as, hD, r⟩
def sp_exact_rows (K : PySem.W.Frag) : Sp := fun vs H Q _ => ∃ (g : Addr) (rs : List Rw), vs = [.ref g] ∧ GR K H g rs ∧ rs.length ≤ 16 ∧ (∀ r ∈ rs, r.2.length ≤ 16) ∧ ∀ H' p, Same H H' → TbR H' p (exs rs) → Q (.ref p) H'
theorem ok_exact_rows (T : Txt K mg) : FnOk P w K mg base CX0 1 T.exact_rows.a T.exact_rows.fd ["grid"] (sp_exact_rows K) := by
  refine T.exact_rows.F.ok sc_exact_rows (fun vs H Q E h => ?_) (fun cdv A outer s H vs Q E hr h => ?_)
  · obtain ⟨g, rs, rfl, _⟩ := h
    rfl
  · obtain ⟨g, rs, rfl, hg, hl, hr16, q⟩ := h
    obtain ⟨xs, hx, hA⟩ := hg
    have lx := hA.len
    refine ⟨_, (pss_one (ps_ret (pe_lc (own := [("kind", 1), ("row", 2)]) (g := gTup K 2 (gCons (gName 1) (gCons (gName 2) gNil))) rfl sc_exact_rows.nd (pi_list (pv 0)) (blkOk_by (N := ["grid", "kind", "row", "one"]) (sc := defScope s_exact_rows) (by decide +kernel)) (fun _ _ _ _ _ => (pg_tup rfl (pgs_cons (pg_name (i := 1) sc_exact_rows.nd rfl (.inl rfl)) (pgs_cons (pg_name (i := 2) sc_exact_rows.nd rfl (.inl rfl)) pgs_nil)))) (fun _ _ _ _ _ => (pts_one (pt_cmpR op_eq (pv 1) pe_str (nomark _)))) (fun _ _ _ _ _ => (pe_lc (wi := iList K _) (own := [("one", 3)]) rfl sc_exact_rows.nd (pi_list (pv 2)) (blkOk_by (N := ["grid", "kind", "row", "one"]) (sc := { kind := .function, names := [(".0", .local), ("kind", .local), ("row", .local)], isGenerator := false, isCoroutine := false, more := [] }) (by decide +kernel)) (fun _ _ _ _ _ => (pg_name (i := 3) sc_exact_rows.nd rfl (.inl rfl))) (fun _ _ _ _ _ => pts_nil) (fun _ _ _ _ _ => (pe_callTy (T := "list") (r := rListC K) call_listC (by rfl) T.m_list (by decide +kernel) (pa_cons (pv 3) pa_nil)))))))), ?_⟩
    refine ⟨.ref g, rfl, g, rfl, ⟨_, .of hx⟩, fun D nD => ?_⟩
    refine lc_fm (walk_list (xs := xs)) rs (fun r => if r.1 = true then some r.2 else none) (TRow D) (fun _ _ _ _ s h => h.up s) lx.symm nD (fun H' s => s.seq (.of hx)) (small' (by omega)) (fun i x H' Hx ys r hr2 sm hD y Qt Qf qt qf => ?_) (fun G ys sm hD hR => ?_)
    · obtain ⟨rfl, hxi⟩ := y
      obtain ⟨r', hr', hV⟩ := hA.get hxi
      obtain rfl := Option.some.inj (hr2.symm.trans hr')
      obtain ⟨t, b, rfl, ht, as, hb, hE⟩ := hV.lk (K47.lk sm)
      have la := hE.len
      have l16 := hr16 r (mem_at hr2)
      refine ⟨t, _, rfl, ht, rfl, _, _, rfl, _, _, rfl, rfl, rfl, _, rfl, rfl, _, rfl, ?_⟩
      rw [str_ex]
      cases e : r.1 with
      | false => exact iteF (qf (by rw [e]; rfl) _ (Same.refl _))
      | true =>
        refine iteT ⟨.ref b, rfl, b, rfl, ⟨_, .of hb⟩, fun D2 nD2 => ?_⟩
        refine lc_inv (walk_list (xs := as.map V.ref)) (fun i G ys => ∃ cs : List Addr, ys = cs.map V.ref ∧ RN D2 Hx G cs (r.2.take i)) nD2 (fun H' s => s.seq (.of hb)) (small' (by rw [List.length_map]; omega)) ⟨[], rfl, .nil⟩ (fun i2 x2 G2 Hx2 ys2 hi2 sm2 hD2 hR2 y2 Qt2 Qf2 qt2 qf2 => ?_) (fun G2 ys2 sm2 hD2 hR2 => ?_)
        · obtain ⟨rfl, hx2⟩ := y2
          obtain ⟨c, hc, rfl⟩ := row_ref hx2
          obtain ⟨el, he, hI⟩ := hE.get hc
          obtain ⟨cs, rfl, hrn⟩ := hR2
          refine ⟨rfl, .ref c, rfl, c, _, rfl, .inl (hI.same sm2).sq, fun n nn => ?_⟩
          have s1 := same_upd nn (o := .lst (el.map V.int))
          have nD3 : n ≠ D2 := fun z => by rw [z, hD2] at nn; cases nn
          refine qt2 _ _ s1 ⟨cs ++ [n], by rw [List.map_append]; rfl, ?_⟩
          rw [take_snoc he]
          exact hrn.snoc s1 nD3 (sm2.free nn) upd_same
        · obtain ⟨cs, rfl, hrn⟩ := hR2
          rw [List.take_of_length_le (by rw [List.length_map]; omega)] at hrn
          have off : ∀ {c : Addr}, Hx c = none → c ≠ D := fun {c} z y => by rw [y, hD] at z; cases z
          exact qt _ _ r.2 (by rw [e]; rfl) sm2 ⟨D2, cs, rfl, off nD2, hD2, hrn.mono fun _ _ z => ⟨off z.1.2, z.2⟩⟩
    · exact q G D sm (TbR.of hD hR)
def prodT (one two : Tb) : Tb := one.map fun row => (List.range (wdt two)).map (cellv row two)
def sp_product : Sp := fun vs H Q _ => ∃ (a b : Addr) (one two : Tb) (m : Nat), vs = [.ref a, .ref b] ∧ TbR H a one ∧ TbR H b two ∧ one.length ≤ 16 ∧ two.length ≤ 16 ∧ (∀ r ∈ one, r.length = two.length ∧ ∀ e ∈ r, Pb e) ∧ (∀ t ∈ two, t.length = m ∧ ∀ e ∈ t, Pb e) ∧ m ≤ 16 ∧ ∀ H' p, Same H H' → TbR H' p (prodT one two) → Q (.ref p) H'
theorem headD_wdt (tab : Tb) : (tab.map List.length).headD 0 = wdt tab := by cases tab <;> rfl
theorem TbR.wd {K : PySem.W.Frag} {H : Hp} {as : List Addr} : ∀ {as : List Addr} {tab : Tb}, A2 (RowL H) as tab → A2 (fun r n => ∃ xs, SqL K H r xs ∧ xs.length = n) as (tab.map List.length)
  | _, _, .nil => .nil
  | _, _, .cons h t => .cons h.seq (TbR.wd (as := as) t)
theorem wdt_le {tab : Tb} {m : Nat} (h : ∀ t ∈ tab, t.length = m) : wdt tab ≤ m ∧ (tab ≠ [] → wdt tab = m) := by
  cases tab with
  | nil => exact ⟨Nat.zero_le _, fun z => absurd rfl z⟩
  | cons t r => exact ⟨Nat.le_of_eq (h t List.mem_cons_self), fun _ => h t List.mem_cons_self⟩
def T5 (K : PySem.W.Frag) (a b : Addr) : TS := fun D σ H => σ = [some (.ref a), some (.ref b), none, none] ∧ (∃ (as : List Addr) (ls : List Nat) (ys : List V), SqL K H a (as.map V.ref) ∧ A2 (fun r n => ∃ xs, SqL K H r xs ∧ xs.length = n) as ls ∧ SqL K H b ys ∧ (as ≠ [] → ls.headD 0 = ys.length)) ∧ D.nx σ H
theorem ok_product (T : Txt K mg) (X : Errs K mg) : FnOk P w K mg base (L2.CX P w) 4 T.product.a T.product.fd ["one", "two"] sp_product := by
  refine T.product.F.okX sc_product (fun vs H Q E h => ?_) (fun cdv A outer s H vs Q E hr h => ?_)
  · obtain ⟨a, b, one, two, m, rfl, _⟩ := h
    rfl
  · obtain ⟨a, b, one, two, m, rfl, ha, hb, l1, l2, p1, p2, hm, q⟩ := h
    have hb0 := hb
    obtain ⟨as, hal, hA⟩ := ha
    obtain ⟨bs, hbl, hB⟩ := hb
    have la := hA.len
    have lb := hB.len
    have wl := wdt_le fun t ht => (p2 t ht).1
    refine ⟨_, (pss_cons (ps_via (t' := T5 K a b) (ps_if (PW.pt (pw_and (pt_truth (pv 0) (by intro _; rfl)) (pw_and1 (pt_cmpR op_ne (pe_call (ok_width T) (hr.mono (by decide)) (by rfl) T.width.g T.width.F.kp T.width.b .nil pass0 (pa_cons (pv 0) pa_nil)) (pe_callB call_len_seq (by rfl) T.m_len (by decide +kernel) (pa_cons (pv 1) pa_nil)) (nomark _)))))
        (pss_one (ps_raise rfl (takes_of rfl rfl rfl rfl) (pmk_oex X.WrongSize.oex X.WrongSize.iC X.e0.tI (ok_init T X) (hr.mono (by decide)) X.e0.b .nil pass0 (by rfl) X.WrongSize.g (pa_cons pe_int pa_nil))))
        pss_nil) ?t5)
      (pss_one (ps_ret (pe_lc (own := [("row", 2)]) rfl sc_product.nd (pi_list (pv 0)) (blkOk_by (N := ["one", "two", "row", "j"]) (sc := defScope s_product) (by decide +kernel)) (fun _ _ _ _ _ => (pg_name (i := 2) sc_product.nd rfl (.inr rfl))) (fun _ _ _ _ _ => pts_nil) (fun _ _ _ _ _ => (pe_lc (own := [("j", 3)]) rfl sc_product.nd (pi_range1 (by rfl) T.m_range (pa_cons (pe_call (ok_width T) (hr.mono (by decide)) (by rfl) T.width.g T.width.F.kp T.width.b .nil pass0 (pa_cons (pv 1) pa_nil)) pa_nil)) (blkOk_by (N := ["one", "two", "row", "j"]) (sc := { kind := .function, names := [(".0", .local), ("row", .cell), ("range", .globalImplicit), ("_width", .globalImplicit), ("two", .cell)], isGenerator := false, isCoroutine := false, more := [] }) (by decide +kernel)) (fun _ _ _ _ _ => (pg_name (i := 3) sc_product.nd rfl (.inl rfl))) (fun _ _ _ _ _ => pts_nil) (fun _ _ _ _ _ => (pe_call (ok_cell T) (hr.mono (by decide)) (by rfl) T.cell.g T.cell.F.kp T.cell.b .nil pass0 (pa_cons (pv 2) (pa_cons (pv 1) (pa_cons (pv 3) pa_nil))))))))))), ?_⟩
    case t5 =>
      rintro D σ H ⟨rfl, ⟨as, ls, ys, h1, h2, h3, h4⟩, nx⟩
      refine ⟨.ref a, rfl, _, .inl ⟨_, h1, rfl⟩, ?_⟩
      refine ite2 (fun h => ?_) (fun _ => iteF nx)
      have ne : as ≠ [] := fun z => by rw [z] at h; cases h
      refine ⟨.ref a, rfl, a, as, ls, rfl, h1, h2, .ref b, rfl, b, _, rfl, .inl h3, rfl, _, rfl, ?_⟩
      rw [h4 ne, decide_eq_true rfl]
      exact iteF nx
    refine ⟨rfl, ⟨as, one.map List.length, bs.map V.ref, .of hal, TbR.wd (as := as) hA, .of hbl, fun ne => ?_⟩, ?_⟩
    · rw [headD_wdt, List.length_map, lb]
      cases one with
      | nil => exact absurd (List.length_eq_zero_iff.mp la) ne
      | cons r rr => exact (p1 r List.mem_cons_self).1
    refine ⟨.ref a, rfl, a, rfl, ⟨_, .of hal⟩, fun D nD => ?_⟩
    refine lc_fm (walk_list (xs := as.map V.ref)) one (fun row => some ((List.range (wdt two)).map (cellv row two))) (TRow D) (fun _ _ _ _ s h => h.up s) (by rw [List.length_map, la]) nD (fun H' s => s.seq (.of hal)) (small' (by rw [List.length_map]; omega)) (fun i x H' Hx ys row hrow sm hD y Qt Qf qt qf => ?_) (fun G ys sm hD hR => ?_)
    · obtain ⟨rfl, hxi⟩ := y
      obtain ⟨c, hc, rfl⟩ := row_ref hxi
      obtain ⟨row', hrow', hRow⟩ := hA.get hc
      obtain rfl := Option.some.inj (hrow.symm.trans hrow')
      refine ⟨rfl, .ref b, rfl, b, bs, two.map List.length, rfl, .of (sm _ _ hbl), TbR.wd (as := bs) (hB.mono fun _ _ y => y.same sm), ?_⟩
      rw [headD_wdt]
      refine ⟨(wdt two : Nat), rfl, by omega, by omega, fun D2 nD2 => ?_⟩
      rw [Int.toNat_natCast]
      refine lc_inv (walk_range (lo := 0) (n := wdt two)) (fun i G2 ys => ∃ cs : List Addr, ys = cs.map V.ref ∧ RN D2 Hx G2 cs ((List.range i).map (cellv row two))) nD2 (fun _ _ => trivial) (small' (by omega)) ⟨[], rfl, .nil⟩ (fun j x2 G2 Hx2 ys2 hj sm2 hD2 hR2 y2 Qt2 Qf2 qt2 qf2 => ?_) (fun G2 ys2 sm2 hD2 hR2 => ?_)
      · obtain ⟨rfl, rfl⟩ := y2
        obtain ⟨cs, rfl, hrn⟩ := hR2
        have pr := p1 row (mem_at hrow)
        refine ⟨rfl, _, rfl, .ref b, rfl, _, rfl, c, b, row, two, j, ?_, (hRow.same sm).same sm2, hb0.lk (K47.lk (sm.trans sm2)), pr.1, fun t ht => by have := (p2 t ht).1; omega, pr.2, fun t ht => (p2 t ht).2, by have := pr.1; omega, fun G3 n s3 nn hn => ?_⟩
        · show [V.ref c, V.ref b, V.int (0 + (j : Int))] = _
          rw [Int.zero_add]
        have nD3 : n ≠ D2 := fun z => by rw [z, hD2] at nn; cases nn
        refine qt2 _ _ s3 ⟨cs ++ [n], by rw [List.map_append]; rfl, ?_⟩
        rw [List.range_succ, List.map_append]
        exact hrn.snoc s3 nD3 (sm2.free nn) hn
      · obtain ⟨cs, rfl, hrn⟩ := hR2
        have off : ∀ {c : Addr}, Hx c = none → c ≠ D := fun {c} z y => by rw [y, hD] at z; cases z
        exact qt _ _ _ rfl sm2 ⟨D2, cs, rfl, off nD2, hD2, hrn.mono fun _ _ z => ⟨off z.1.2, z.2⟩⟩
    · rw [fm_some] at hR
      exact q G D sm (TbR.of hD hR)
end
-- U47
theorem DefT.okX {P : Program} {w : World} {K : PySem.W.Frag} {mg : Str → Option Value} {base : Heap} {x : Str} {st : Stmt} {N ps : List Str} {k : Nat} {sp : Sp} (T : DefT K mg x st ps) (S : FnScope N ps (defScope st)) (len : ∀ vs H Q E, sp vs H Q E → vs.length = ps.length)
    (hbody : ∀ (A : Around) (outer : List Env) (s : Shared) (H : Hp) (vs : List V) (Q : VK) (E : XK), Room k (A.deeper (envOfC x (defScope st) s.heap.objs.size T.a (.ref T.c))) → sp vs H Q E →
      ∃ t, PSs (cxOf (L2.CX P w) P w K mg base N x (defScope st) T.a (.ref T.c) A outer s H E) (defBody st) t ∧ t { nx := fun _ H' => Q .non H', rt := Q } (L2.start N vs) H) : FnOk P w K mg base (L2.CX P w) (k + 1) T.a T.fd ps sp := by
  obtain ⟨a, c, fd, ⟨oc, od, dV, kV, doc, pm, an, ct, osl, rfl, lk, hcd⟩, kp, b, g⟩ := T
  exact fn_of lk hcd S len fun A outer s H vs Q E hr hsp => hbody A outer s H vs Q E hr hsp
/-- .. and nothing is forgotten -/
def LkN (H H' : Hp) : Prop := Lk H H' ∧ ∀ b, H' b = none → H b = none
theorem LkN.trans {H H1 H2 : Hp} (a : LkN H H1) (b : LkN H1 H2) : LkN H H2 := ⟨a.1.trans b.1, fun c z => a.2 c (b.2 c z)⟩
theorem lkN {H H' : Hp} (s : Same H H') : LkN H H' := ⟨K47.lk s, fun _ z => s.free z⟩
theorem lkN_tab {H H' : Hp} {P : Addr} (h : GxR.TabG H P) (s : GxR.Tabbed P H H') : LkN H H' := ⟨lk_tab h s, fun b z => by
  by_cases e : b = P
  · obtain ⟨ps, hP, _⟩ := s.1
    rw [e, hP] at z
    cases z
  · rw [← s.2 b e]; exact z⟩
theorem RF.old {H H0 H' : Hp} {v : V} {r : Rw} (f : ∀ b, H0 b = none → H b = none) (h : RF H0 H' v r) : RF H H' v r := let ⟨t, b, e, nt, nb, ht, as, hb, hA⟩ := h; ⟨t, b, e, f _ nt, f _ nb, ht, as, hb, hA.mono fun _ _ z => ⟨f _ z.1, z.2⟩⟩
def Fits (ls : List Nat) (n : Nat) : Prop := ls.length = n ∧ ∀ l ∈ ls, l = n
theorem all_fit (ls : List Nat) (n : Nat) : LE.allTo ls.length (fun j => decide (((ls.getD j 0 : Nat) : Int) = (n : Int))) = true ↔ ∀ l ∈ ls, l = n := by
  unfold LE.allTo
  rw [List.all_eq_true]
  constructor
  · intro h l hl
    obtain ⟨j, hj, e⟩ := List.getElem_of_mem hl
    have := of_decide_eq_true (h j (List.mem_range.mpr hj))
    rw [List.getD_eq_getElem?_getD, List.getElem?_eq_getElem hj] at this
    have : ((ls[j] : Nat) : Int) = (n : Int) := this
    omega
  · intro h j hj
    have hj := List.mem_range.mp hj
    refine decide_eq_true ?_
    rw [List.getD_eq_getElem?_getD, List.getElem?_eq_getElem hj]
    show ((ls[j] : Nat) : Int) = _
    rw [h _ (List.getElem_mem hj)]
theorem exs_len (rs : List Rw) : (exs rs).length ≤ rs.length := List.length_filterMap_le _ _
theorem exs_mem {rs : List Rw} {x : List (List Int)} (h : x ∈ exs rs) : ∃ r ∈ rs, r.2 = x := by
  obtain ⟨r, hr, e⟩ := List.mem_filterMap.mp h
  by_cases z : r.1 = true
  · rw [if_pos z] at e
    exact ⟨r, hr, Option.some.inj e⟩
  · rw [if_neg z] at e
    cases e
theorem pb_ve {e : List Int} (h : VE e) : Pb e := ⟨by have := h.1; omega, fun m => by
  rcases Nat.lt_or_ge m e.length with q | q
  · exact Nat.lt_of_le_of_lt (h.2 _ (mem_at (at_map q))) (by decide)
  · rw [cf_ge q]; decide⟩
section
variable {P : Program} {w : World} {K : PySem.W.Frag} {mg : Str → Option Value} {base : Heap}
def sp_changed (K : PySem.W.Frag) (P C : Addr) : Sp := fun vs H Q E => ∃ (g c : Addr) (rs : List Rw) (many : Nat) (as : List Addr) (ls : List Nat), vs = [.ref g, .ref c] ∧ GR K H g rs ∧ VG many rs ∧ many ≤ 16 ∧ SqL K H c (as.map V.ref) ∧ A2 (fun r n => ∃ xs, SqL K H r xs ∧ xs.length = n) as ls ∧ GxR.TabG H P ∧
  (¬ Fits ls (exs rs).length → ∀ H' dd, LkN H H' → GxR.TabG H' P → H' dd = none → E (.ref C) (some dd) (upd H' dd (.xd [("at", .int 0)]))) ∧
  (Fits ls (exs rs).length → ∃ tb : Tb, TbR H c tb ∧ tb.map List.length = ls ∧ (∀ r ∈ tb, ∀ e ∈ r, Pb e) ∧ ∀ H' p xs, LkN H H' → GxR.TabG H' P → H p = none → H' p = some (.lst xs) → A2 (RF H H') xs (chgS rs (prodT tb (exs rs))) → Q (.ref p) H')
theorem ok_changed (T : Txt K mg) (X : Errs K mg) {P2 : Addr} (TB : GxR.TabB base mg T.changed.c P2) : FnOk P w K mg base (L2.CX P w) 5 T.changed.a T.changed.fd ["grid", "changes"] (sp_changed K P2 X.WrongSize.C) := by
  refine T.changed.okX sc_changed (fun vs H Q E h => ?_) (fun A outer s H vs Q E hr h => ?_)
  · obtain ⟨g, c, rs, many, as, ls, rfl, _⟩ := h
    rfl
  · obtain ⟨g, c, rs, many, as, ls, rfl, hg, vg, hm, hc, hA, tb, qE, qT⟩ := h
    have lr := vg.1
    have r16 : ∀ r ∈ rs, r.2.length ≤ 16 := fun r hr => by have := (vg.2 r hr).1; omega
    have la := hA.len
    refine ⟨_, (pss_cons (ps_set (i := 2) sc_changed.nd rfl (.inl rfl) (pe_call (ok_exact_rows T) (hr.mono (by decide)) (by rfl) T.exact_rows.g T.exact_rows.F.kp T.exact_rows.b .nil pass0 (pa_cons (pv 0) pa_nil)))
      (pss_cons (ps_set (i := 3) sc_changed.nd rfl (.inr rfl) (pe_callB call_len_seq (by rfl) T.m_len (by decide +kernel) (pa_cons (pv 2) pa_nil)))
      (pss_cons (ps_if (PW.pt (pw_or (pt_cmpR op_ne (pe_callB call_len_seq (by rfl) T.m_len (by decide +kernel) (pa_cons (pv 1) pa_nil)) (pv 3) (nomark _)) (pw_or1 (pt_not (pt_val (LE.pe_allL hr (by rfl) T.m_all TB rfl ⟨defScope s_changed, rfl, by decide +kernel⟩ (pv 1) (fun _ => rfl)))))))
        (pss_one (ps_raise rfl (takes_of rfl rfl rfl rfl) (pmk_oex X.WrongSize.oex X.WrongSize.iC X.e0.tI (ok_init T X) (hr.mono (by decide)) X.e0.b .nil pass0 (by rfl) X.WrongSize.g (pa_cons pe_int pa_nil))))
        pss_nil)
      (pss_one (ps_ret (pe_call (ok_with_exact T) (hr.mono (by decide)) (by rfl) T.with_exact.g T.with_exact.F.kp T.with_exact.b .nil pass0 (pa_cons (pv 0) (pa_cons (pe_call (ok_product T X) (hr.mono (by decide)) (by rfl) T.product.g T.product.F.kp T.product.b .nil (passes_call (takes_of rfl rfl rfl rfl) fun _ _ _ _ h => h) (pa_cons (pv 1) (pa_cons (pv 2) pa_nil))) pa_nil)))))))), ?_⟩
    refine ⟨.ref g, rfl, g, rs, rfl, hg, by omega, r16, fun H1 t s1 ht => ?_⟩
    have tb1 := tabG_same tb s1
    have ht0 := ht
    obtain ⟨ts, htl, hT⟩ := ht
    have lt := hT.len
    refine ⟨.ref t, rfl, t, _, rfl, .inl (.of htl), ?_⟩
    rw [List.length_map, lt]
    have hc1 := s1.seq hc
    refine ⟨.ref c, rfl, c, _, rfl, .inl hc1, _, rfl, rfl, _, rfl, ?_⟩
    rw [List.length_map, la]
    refine ite2 (fun h => iteT ⟨by show 1 ≤ 1000; decide, LX.raised X.WrongSize (by decide) fun dd hdd => qE (fun z => ?_) H1 dd (lkN s1) tb1 hdd⟩) (fun h => ?_)
    · rw [z.1] at h
      simp at h
    have e1 : ls.length = (exs rs).length := by
      by_cases z : ls.length = (exs rs).length
      · exact z
      · exact absurd (by rw [Bool.not_eq_true']; exact decide_eq_false fun y => z (by have := V.int.inj y; omega)) h
    refine ⟨.ref c, rfl, c, _, fun j => decide (((ls.getD j 0 : Nat) : Int) = ((exs rs).length : Int)), [("many", .int ((exs rs).length : Nat))], rfl, hc1, tb1, LE.seen_cons 3 rfl rfl (.inl rfl) rfl LE.seen_nil, fun j v hv => ?_, fun H2 tb2 => ⟨_, rfl, ?_⟩⟩
    · obtain ⟨r, hr2, rfl⟩ := row_ref hv
      obtain ⟨n, hn, xs, hxs, rfl⟩ := hA.get hr2
      show LE.PU _ _ _ _ _ (.bl (decide (((ls.getD j 0 : Nat) : Int) = ((exs rs).length : Int))))
      rw [show (ls.getD j 0) = xs.length by rw [List.getD_eq_getElem?_getD, hn]; rfl]
      refine LE.pu_eqI (LE.pu_len ?_ (s1.seq hxs) rfl T.m_len) ?_
      · exact LE.pu_var rfl
      · exact LE.pu_var rfl
    rw [List.length_map, la]
    have k2 := (lkN s1).trans (lkN_tab tb1 tb2)
    refine ite2 (fun h => ⟨by show 1 ≤ 1000; decide, LX.raised X.WrongSize (by decide) fun dd hdd => qE (fun z => ?_) H2 dd k2 tb2.1 hdd⟩) (fun h => ?_)
    · rw [(all_fit ls (exs rs).length).mpr z.2] at h
      cases h
    have fit : Fits ls (exs rs).length := ⟨e1, by
      by_cases z : ∀ l ∈ ls, l = (exs rs).length
      · exact z
      · exact absurd (by rw [Bool.not_eq_true']; exact Bool.eq_false_iff.mpr fun y => z ((all_fit _ _).mp y)) h⟩
    obtain ⟨tab, hTb, hlen, hpb, qq⟩ := qT fit
    have l16 := exs_len rs
    have tl : tab.length = (exs rs).length := by rw [← e1, ← hlen, List.length_map]
    have k12 := (lkN_tab tb1 tb2).1
    refine ⟨.ref g, rfl, .ref c, rfl, .ref t, rfl, c, t, tab, exs rs, many, rfl, hTb.lk k2.1, ht0.lk k12, by omega, by omega, fun r hr2 => ⟨fit.2 _ (by rw [← hlen]; exact List.mem_map.mpr ⟨r, hr2, rfl⟩), hpb r hr2⟩, fun x hx => ?_, hm, fun H3 pr s3 hpr => ?_⟩
    · obtain ⟨r, hr2, rfl⟩ := exs_mem hx
      exact ⟨(vg.2 r hr2).1, fun e he => pb_ve ((vg.2 r hr2).2 e he)⟩
    have k3 := k2.trans (lkN s3)
    have wl : wdt (exs rs) ≤ many := (wdt_le fun x hx => by obtain ⟨r, hr2, rfl⟩ := exs_mem hx; exact (vg.2 r hr2).1).1
    refine ⟨g, pr, rs, _, rfl, hg.lk k3.1, by omega, r16, hpr, fun l hl => ?_, by unfold prodT; rw [List.length_map]; omega, fun H4 p xs s4 np hp hRF => ?_⟩
    · obtain ⟨row, _, rfl⟩ := List.mem_map.mp hl
      rw [List.length_map, List.length_range]; omega
    exact qq H4 p xs (k3.trans (lkN s4)) (tabG_same (tabG_same tb2.1 s3) s4) (k3.2 _ np) hp (hRF.mono fun _ _ z => RF.old k3.2 z)
end
-- V47
/-! ### the law's own reckoning -/
def dstep (lines : Tb) (out : List Rw) (r : Rw) : List Rw := out ++ [(r.1, if r.1 = true then lines.getD (exs out).length [] else r.2)]
theorem exs_app (a b : List Rw) : exs (a ++ b) = exs a ++ exs b := List.filterMap_append
theorem dstep_exs (lines : Tb) (out : List Rw) (r : Rw) : (exs (dstep lines out r)).length = (exs out).length + (exs [r]).length := by
  unfold dstep
  rw [exs_app, List.length_append]
  unfold exs
  cases h : r.1 <;> simp [h]
theorem due_exs (lines : Tb) : ∀ (rs out : List Rw), (exs (rs.foldl (dstep lines) out)).length = (exs out).length + (exs rs).length
  | [], out => rfl
  | r :: rs, out => by
    rw [List.foldl_cons, due_exs lines rs, dstep_exs, show r :: rs = [r] ++ rs from rfl, exs_app [r] rs, List.length_append]
    omega
theorem due_len (lines : Tb) : ∀ (rs out : List Rw), (rs.foldl (dstep lines) out).length = out.length + rs.length
  | [], out => rfl
  | r :: rs, out => by
    rw [List.foldl_cons, due_len lines rs]
    unfold dstep
    rw [List.length_append]
    show out.length + 1 + rs.length = out.length + (rs.length + 1)
    omega
def chg : List Rw → Tb → List Rw
  | [], _ => []
  | r :: rs, lines => if r.1 = true then (match lines with
    | l :: ls => (true, l) :: chg rs ls
    | [] => r :: chg rs []) else r :: chg rs lines
theorem due_chg (lines : Tb) : ∀ (rs out : List Rw), (exs out).length + (exs rs).length ≤ lines.length → rs.foldl (dstep lines) out = out ++ chg rs (lines.drop (exs out).length)
  | [], out, _ => by rw [List.foldl_nil]; show out = out ++ []; rw [List.append_nil]
  | r :: rs, out, h => by
    have e0 : (exs (r :: rs)).length = (exs [r]).length + (exs rs).length := by rw [show r :: rs = [r] ++ rs from rfl, exs_app [r] rs, List.length_append]
    rw [List.foldl_cons, due_chg lines rs _ (by rw [dstep_exs]; omega), dstep_exs]
    unfold dstep
    rw [List.append_assoc]
    congr 1
    obtain ⟨b, x⟩ := r
    cases b with
    | false =>
      have e1 : (exs [((false, x) : Rw)]).length = 0 := rfl
      rw [e1]; rfl
    | true =>
      have e1 : (exs [((true, x) : Rw)]).length = 1 := rfl
      rw [e1] at e0 ⊢
      have lt : (exs out).length < lines.length := by omega
      rw [List.drop_eq_getElem_cons lt]
      show [((true, lines.getD (exs out).length []) : Rw)] ++ _ = (true, lines[(exs out).length]) :: chg rs _
      rw [List.getD_eq_getElem?_getD, List.getElem?_eq_getElem lt]; rfl
theorem idx_cons (r : Rw) (rs : List Rw) : idxE (r :: rs) = (if r.1 = true then [0] else []) ++ (idxE rs).map (· + 1) := by
  unfold idxE
  rw [List.length_cons, List.range_succ_eq_map, List.filter_cons, List.filter_map]
  have : ((fun i => ((r :: rs).getD i (false, [])).1) ∘ Nat.succ) = fun i => (rs.getD i (false, [])).1 := by
    funext i
    rfl
  rw [this]
  show (if r.1 = true then _ else _) = _
  cases r.1 <;> rfl
theorem seE_cons (r : Rw) : ∀ (ps : List (Nat × List (List Int))) (rs : List Rw), (ps.map fun p => (p.1 + 1, p.2)).foldl seE (r :: rs) = r :: ps.foldl seE rs
  | [], _ => rfl
  | p :: ps, rs => by
    rw [List.map_cons, List.foldl_cons, List.foldl_cons]
    exact seE_cons r ps (seE rs p)
theorem zip_succ (a : List Nat) (b : Tb) : (a.map (· + 1)).zip b = (a.zip b).map fun p => (p.1 + 1, p.2) := by
  rw [List.zip_map_left]
  rfl
theorem chgS_chg : ∀ (rs : List Rw) (lines : Tb), chgS rs lines = chg rs lines
  | [], lines => rfl
  | r :: rs, lines => by
    unfold chgS
    rw [idx_cons]
    obtain ⟨b, x⟩ := r
    cases b with
    | false =>
      show (((idxE rs).map (· + 1)).zip lines).foldl seE _ = (false, x) :: chg rs lines
      rw [zip_succ, seE_cons, ← chgS_chg rs lines]; rfl
    | true =>
      cases lines with
      | nil =>
        rw [List.zip_nil_right]
        show _ = (true, x) :: chg rs []
        rw [← chgS_chg rs []]
        unfold chgS
        rw [List.zip_nil_right]; rfl
      | cons l ls =>
        show ((0, l) :: ((idxE rs).map (· + 1)).zip ls).foldl seE _ = (true, l) :: chg rs ls
        rw [List.foldl_cons, zip_succ]
        show (((idxE rs).zip ls).map fun p => (p.1 + 1, p.2)).foldl seE ((true, l) :: rs) = _
        rw [seE_cons, ← chgS_chg rs ls]; rfl
theorem due_is {rs : List Rw} {lines : Tb} (h : lines.length = (exs rs).length) : rs.foldl (dstep lines) [] = chgS rs lines := by
  rw [due_chg lines rs [] (by rw [h]; show 0 + _ ≤ _; omega), chgS_chg]; rfl
def Te (e : List Int) : Prop := e.length ≤ 13 ∧ ∀ n ∈ e, n.natAbs ≤ 10 ^ 42
def TV (many : Nat) (r : List (List Int)) : Prop := r.length = many ∧ ∀ e ∈ r, Te e
theorem pb_te {e : List Int} (h : Te e) : Pb e := ⟨by have := h.1; omega, fun m => by
  rcases Nat.lt_or_ge m e.length with q | q
  · exact Nat.lt_of_le_of_lt (h.2 _ (mem_at (at_map q))) (by decide)
  · rw [cf_ge q]; decide⟩
section
variable {P : Program} {w : World} {K : PySem.W.Frag} {mg : Str → Option Value} {base : Heap}
def sp_law_table : Sp := fun vs H Q _ => ∃ (a : Addr) (ds : List Int) (k : Int) (many : Nat), vs = [.ref a, .int k, .int (many : Nat)] ∧ IL H a ds ∧ 0 ≤ k ∧ many ≤ 16 ∧ ∀ H' p tab, Same H H' → TbR H' p tab → tab.length = many → (∀ r ∈ tab, TV many r) → Q (.ref p) H'
theorem ok_law_table (T : Txt K mg) : FnOk P w K mg base CX0 4 T.law_table.a T.law_table.fd ["draws", "k", "many"] sp_law_table := by
  refine T.law_table.F.ok sc_law_table (fun vs H Q E h => ?_) (fun cdv A outer s H vs Q E hr h => ?_)
  · obtain ⟨a, ds, k, many, rfl, _⟩ := h
    rfl
  · obtain ⟨a, ds, k, many, rfl, ha, hk, hm, q⟩ := h
    refine ⟨_, (pss_cons (ps_set (i := 3) sc_law_table.nd rfl (.inl rfl) (pe_lst pa_nil))
      (pss_cons (ps_for PassesOwn.never rfl (pi_range1 (by rfl) T.m_range (pa_cons (pv 2) pa_nil)) (pg_name (i := 4) sc_law_table.nd rfl (.inl rfl))
        (pss_cons (ps_set (i := 5) sc_law_table.nd rfl (.inl rfl) (pe_lst pa_nil))
        (pss_cons (ps_for PassesOwn.never rfl (pi_range1 (by rfl) T.m_range (pa_cons (pv 2) pa_nil)) (pg_name (i := 6) sc_law_table.nd rfl (.inl rfl))
          (pss_cons (ps_set (i := 7) sc_law_table.nd rfl (.inr rfl) (pe_op op_add (pv 1) (pe_op op_mulW pe_int (pe_op op_add (pe_op op_mulW (pv 4) (pv 2)) (pv 6)))))
          (pss_cons (ps_set (i := 8) sc_law_table.nd rfl (.inl rfl) (pe_call (ok_law_element T) (hr.mono (by decide)) (by rfl) T.law_element.g T.law_element.F.kp T.law_element.b .nil pass0 (pa_cons (pv 0) (pa_cons (pv 7) (pa_cons pe_int pa_nil)))))
          (pss_one (ps_expr (pe_bm PySem.F.plainAttrs_list PySem.F.slot_list_append PySem.F.type_list_append mt_append (pv 5) (pa_cons (pe_lc (own := [("number", 9)]) rfl sc_law_table.nd (pi_list (pv 8)) (blkOk_by (N := ["draws", "k", "many", "table", "i", "row", "j", "at", "one", "number"]) (sc := defScope s_law_table) (by decide +kernel)) (fun _ _ _ _ _ => (pg_name (i := 9) sc_law_table.nd rfl (.inl rfl))) (fun _ _ _ _ _ => pts_nil) (fun _ _ _ _ _ => (pe_op op_mulW (pv 9) (pe_ix (r := rIxL K) ix_list (pe_lst (pa_cons pe_int (pa_cons pe_int (pa_cons (pe_op op_pow pe_int pe_int) pa_nil)))) (pe_call (ok_law_mix T) (hr.mono (by decide)) (by rfl) T.law_mix.g T.law_mix.F.kp T.law_mix.b .nil pass0 (pa_cons (pv 0) (pa_cons (pe_op op_add (pv 7) pe_int) (pa_cons pe_int pa_nil)))) (fun _ _ => rfl))))) pa_nil)))))))
        (pss_one (ps_expr (pe_bm PySem.F.plainAttrs_list PySem.F.slot_list_append PySem.F.type_list_append mt_append (pv 3) (pa_cons (pv 5) pa_nil)))))))
      (pss_one (ps_ret (pv 3))))), ?_⟩
    refine ⟨by show 0 ≤ sizeLine; decide, fun D nD => ?_⟩
    refine ⟨_, rfl, (many : Nat), rfl, by omega, by omega, ?_⟩
    rw [Int.toNat_natCast]
    refine for_range (n := many) (lo := 0) (fun i σ G => Same H G ∧ ∃ (v4 v5 v6 v7 v8 v9 : Option V) (ys : List V) (tab : Tb), σ = [some (.ref a), some (.int k), some (.int (many : Nat)), some (.ref D), v4, v5, v6, v7, v8, v9] ∧ G D = some (.lst ys) ∧ A2 (TRow D G) ys tab ∧ tab.length = i ∧ ∀ r ∈ tab, TV many r) ⟨same_upd nD, none, none, none, none, none, none, [], [], rfl, upd_same, .nil, rfl, fun _ z => by cases z⟩ (fun i σ G hi hP => ?_) (fun σ G hP => ?_)
    · obtain ⟨sm, v4, v5, v6, v7, v8, v9, ys, tab, rfl, hD, hA, lt, htv⟩ := hP
      have ly := hA.len
      refine ⟨by show 0 ≤ sizeLine; decide, fun R nR => ?_⟩
      have RD : R ≠ D := fun z => by rw [z, hD] at nR; cases nR
      refine ⟨_, rfl, (many : Nat), rfl, by omega, by omega, ?_⟩
      rw [Int.toNat_natCast]
      refine for_range (n := many) (lo := 0) (fun j σ G1 => Same G G1 ∧ ∃ (v6 v7 v8 v9 : Option V) (cs : List Addr) (es : List (List Int)), σ = [some (.ref a), some (.int k), some (.int (many : Nat)), some (.ref D), some (.int (0 + (i : Int))), some (.ref R), v6, v7, v8, v9] ∧ G1 R = some (.lst (cs.map V.ref)) ∧ A2 (fun e ns => (e ≠ D ∧ e ≠ R) ∧ IL G1 e ns) cs es ∧ es.length = j ∧ ∀ e ∈ es, Te e) ⟨same_upd nR, v6, v7, v8, v9, [], [], rfl, upd_same, .nil, rfl, fun _ z => by cases z⟩ (fun j σ G1 hj hP => ?_) (fun σ G1 hP => ?_)
      · obtain ⟨s1, v6, v7, v8, v9, cs, es, rfl, hR, hE, le, hte⟩ := hP
        have lc := hE.len
        obtain ⟨p, ep, hp⟩ : ∃ p : Nat, (0 + (i : Int)) * ((many : Nat) : Int) + (0 + (j : Int)) = (p : Int) ∧ p ≤ 300 := by
          refine ⟨i * many + j, ?_, ?_⟩
          · rw [Int.zero_add, Int.zero_add, Int.natCast_add, Int.natCast_mul]
          · have : i * many ≤ 16 * 16 := Nat.mul_le_mul (by omega) hm
            omega
        have w1 : CMulW (0 + (i : Int)) ((many : Nat) : Int) := wide_mul (a := 10) (b := 10) (Nat.lt_of_le_of_lt (show _ ≤ 16 by omega) (by decide)) (Nat.lt_of_le_of_lt (show _ ≤ 16 by omega) (by decide)) (by decide) (by decide) (by decide)
        have w2 : CMulW 30 (p : Int) := wide_mul (a := 10) (b := 10) (by decide) (Nat.lt_of_le_of_lt (show _ ≤ 300 by omega) (by decide)) (by decide) (by decide) (by decide)
        refine ⟨_, rfl, _, rfl, _, rfl, _, _, rfl, rfl, w1, _, rfl, _, _, rfl, rfl, ?_⟩
        dsimp only
        rw [ep]
        refine ⟨_, _, rfl, rfl, w2, _, _, rfl, rfl, ?_⟩
        have hat : 0 ≤ k + 30 * (p : Int) := by omega
        refine ⟨.ref a, rfl, _, rfl, a, ds, _, _, rfl, ha.same (sm.trans s1), hat, fun G2 c e s2 nc hc ve => ?_⟩
        have hR2 := s2 _ _ hR
        refine ⟨.ref R, rfl, .inl ⟨rfl, _, .of hR2⟩, .ref c, rfl, c, rfl, ⟨_, hc.sq⟩, fun C nC => ?_⟩
        refine lc_inv (walk_list (xs := e.map V.int)) (fun i2 G ys => ∃ ms : List Int, ys = ms.map V.int ∧ ms.length = i2 ∧ ∀ n ∈ ms, n.natAbs ≤ 10 ^ 42) nC (fun H' s => s.seq hc.sq) (small' (by rw [List.length_map]; have := ve.1; omega)) ⟨[], rfl, rfl, fun _ z => by cases z⟩ (fun i2 x G3 Hx ys hi2 s3 hC hR3 y Qt Qf qt qf => ?_) (fun G3 ys s3 hC hR3 => ?_)
        · obtain ⟨rfl, hx⟩ := y
          obtain ⟨ms, rfl, hl, hb⟩ := hR3
          obtain ⟨hlt, rfl⟩ := map_get hx
          have hn := ve.2 _ (mem_at (at_map hlt))
          refine ⟨rfl, _, rfl, _, _, rfl, rfl, ⟨by decide, by decide, by decide⟩, by show 3 ≤ sizeLine; decide, fun l nl => ?_⟩
          have s4 := same_upd nl (o := .lst [.int 1, .int 1, .int ((10 : Int) ^ (12 : Int).toNat)])
          refine ⟨.ref a, rfl, _, rfl, _, _, rfl, rfl, a, ds, _, _, rfl, (ha.same (sm.trans (s1.trans s2))).same (s3.trans s4), by omega, by decide, fun r p3 u3 => ?_⟩
          have hlt3 : r.toNat < [(1 : Int), 1, (10 : Int) ^ (12 : Int).toNat].length := by show _ < 3; omega
          refine ⟨l, _, _, _, rfl, rfl, .of upd_same, at_map' (ns := [(1 : Int), 1, (10 : Int) ^ (12 : Int).toNat]) (m := r.toNat) (by omega) hlt3, ?_⟩
          have hs := (by decide : ∀ x ∈ [(1 : Int), 1, (10 : Int) ^ (12 : Int).toNat], x.natAbs ≤ 10 ^ 12) _ (mem_at (at_map hlt3))
          refine ⟨_, _, rfl, rfl, wide_mul (a := 100) (b := 100) (Nat.lt_of_le_of_lt hn (by decide)) (Nat.lt_of_le_of_lt hs (by decide)) (by decide) (by decide) (by decide), ?_⟩
          refine qt _ _ s4 ⟨ms ++ [cf e i2 * cf [(1 : Int), 1, (10 : Int) ^ (12 : Int).toNat] r.toNat], app_ints, by rw [List.length_append, hl]; rfl, fun n hn2 => ?_⟩
          rcases List.mem_append.mp hn2 with z | z
          · exact hb n z
          · rw [List.mem_singleton.mp z, Int.natAbs_mul]
            exact Nat.le_trans (Nat.mul_le_mul hn hs) (by decide)
        · obtain ⟨ms, rfl, hl, hb⟩ := hR3
          rw [List.length_map] at hl
          have s5 := s2.trans s3
          have nC1 : G1 C = none := s2.free nC
          have CR : C ≠ R := fun z => by rw [z, hR] at nC1; cases nC1
          have CD : C ≠ D := fun z => by rw [z, s1 _ _ hD] at nC1; cases nC1
          refine ⟨R, _, _, rfl, rfl, s5 _ _ hR, small' (by rw [List.length_map]; omega), ?_⟩
          refine ⟨same_over (s1.trans s5) nR, _, _, _, _, cs ++ [C], es ++ [ms], rfl, by rw [upd_same, List.map_append]; rfl, A2.snoc ⟨⟨CD, CR⟩, by unfold IL; rw [upd_ne CR]; exact hC⟩ (hE.mono fun e ns z => ⟨z.1, by unfold IL; rw [upd_ne z.1.2]; exact s5 _ _ z.2⟩), by rw [List.length_append, le]; rfl, fun x hx => ?_⟩
          rcases List.mem_append.mp hx with z | z
          · exact hte x z
          · rw [List.mem_singleton.mp z]; exact ⟨by have := ve.1; omega, hb⟩
      · obtain ⟨s1, v6, v7, v8, v9, cs, es, rfl, hR, hE, le, hte⟩ := hP
        have hD1 := s1 _ _ hD
        refine ⟨.ref D, rfl, .inl ⟨rfl, _, .of hD1⟩, _, rfl, D, _, _, rfl, rfl, hD1, small' (by omega), ?_⟩
        refine ⟨same_over (sm.trans s1) nD, _, _, _, _, _, _, ys ++ [.ref R], tab ++ [es], rfl, upd_same, A2.snoc ⟨R, cs, rfl, RD, by rw [upd_ne RD]; exact hR, hE.mono fun e ns z => ⟨z.1.1, by unfold IL; rw [upd_ne z.1.1]; exact z.2⟩⟩ (hA.mono fun _ _ z => (z.up (sx s1)).up SameX.put), by rw [List.length_append, lt]; rfl, fun r hr2 => ?_⟩
        rcases List.mem_append.mp hr2 with z | z
        · exact htv r z
        · rw [List.mem_singleton.mp z]; exact ⟨le, hte⟩
    · obtain ⟨sm, v4, v5, v6, v7, v8, v9, ys, tab, rfl, hD, hA, lt, htv⟩ := hP
      exact ⟨.ref D, rfl, q G D tab sm (TbR.of hD hA) lt htv⟩
end
-- W47
/-- a row that is not at O -/
def XO (O : Addr) (H : Hp) (v : V) (r : Rw) : Prop := ∃ (t b : Addr) (as : List Addr), v = .ref t ∧ t ≠ O ∧ H t = some (.tup [.str (kS r.1), .ref b]) ∧ b ≠ O ∧ H b = some (.lst (as.map V.ref)) ∧ A2 (fun e ns => e ≠ O ∧ IL H e ns) as r.2
theorem XO.up {O : Addr} {H H' : Hp} {v : V} {r : Rw} (h : XO O H v r) (s : SameX O H H') : XO O H' v r := let ⟨t, b, as, e, nt, ht, nb, hb, hr⟩ := h; ⟨t, b, as, e, nt, s _ _ nt ht, nb, s _ _ nb hb, hr.mono fun _ _ z => ⟨z.1, s _ _ z.1 z.2⟩⟩
theorem XO.row {K : PySem.W.Frag} {O : Addr} {H : Hp} {v : V} {r : Rw} (h : XO O H v r) : RwV K H v r := let ⟨t, b, as, e, nt, ht, nb, hb, hr⟩ := h; ⟨t, b, e, .inl (.inl ht), as, hb, hr.mono fun _ _ z => z.2⟩
theorem TRow.in {D b : Addr} {H : Hp} {row : List (List Int)} (h : RowL H b row) (n : H D = none) : TRow D H (.ref b) row := by
  obtain ⟨as, hb, hA⟩ := h
  have off : ∀ {c : Addr} {o : HO}, H c = some o → c ≠ D := fun {c o} z y => by rw [y, n] at z; cases z
  exact ⟨b, as, rfl, off hb, hb, hA.mono fun _ _ z => ⟨off z, z⟩⟩
theorem exs_take {rs : List Rw} {i : Nat} {r : Rw} (h : rs[i]? = some r) (e : r.1 = true) : (exs (rs.take i)).length < (exs rs).length ∧ (exs rs)[(exs (rs.take i)).length]? = some r.2 := by
  have lt := (List.getElem?_eq_some_iff.mp h).1
  have e1 : rs = rs.take i ++ (r :: rs.drop (i + 1)) := by
    have := (List.take_append_drop i rs).symm
    rw [List.drop_eq_getElem_cons lt] at this
    rw [show rs[i] = r from (List.getElem?_eq_some_iff.mp h).2] at this
    exact this
  have e2 : exs rs = exs (rs.take i) ++ (r.2 :: exs (rs.drop (i + 1))) := by
    have : exs (r :: rs.drop (i + 1)) = r.2 :: exs (rs.drop (i + 1)) := by
      unfold exs
      rw [List.filterMap_cons, if_pos e]
    rw [← this, ← exs_app, ← e1]
  rw [e2]
  refine ⟨?_, ?_⟩
  · rw [List.length_append, List.length_cons]; omega
  · rw [List.getElem?_append_right (Nat.le_refl _), Nat.sub_self]; rfl
section
variable {P : Program} {w : World} {K : PySem.W.Frag} {mg : Str → Option Value} {base : Heap}
def sp_law_due (K : PySem.W.Frag) : Sp := fun vs H Q _ => ∃ (g b : Addr) (rs : List Rw) (many : Nat) (tab : Tb), vs = [.ref g, .ref b] ∧ GR K H g rs ∧ VG many rs ∧ many ≤ 16 ∧ TbR H b tab ∧ tab.length = (exs rs).length ∧ (∀ r ∈ tab, TV (exs rs).length r) ∧
  ∀ H' p, Same H H' → GR K H' p (chgS rs (prodT tab (exs rs))) → Q (.ref p) H'
theorem ok_law_due (T : Txt K mg) : FnOk P w K mg base CX0 3 T.law_due.a T.law_due.fd ["grid", "table"] (sp_law_due K) := by
  refine T.law_due.F.ok sc_law_due (fun vs H Q E h => ?_) (fun cdv A outer s H vs Q E hr h => ?_)
  · obtain ⟨g, b, rs, many, tab, rfl, _⟩ := h
    rfl
  · obtain ⟨g, b, rs, many, tab, rfl, hg, vg, hm, hb, ltab, htv, q⟩ := h
    obtain ⟨xs, hx, hA⟩ := hg
    obtain ⟨bs, hbl, hB⟩ := hb
    have lx := hA.len
    have lb := hB.len
    have lr := vg.1
    have l16 := exs_len rs
    refine ⟨_, (pss_cons (ps_setLc (i := 4) (own := [("kind", 2), ("row", 3)]) (g := gTup K 2 (gCons (gName 2) (gCons (gName 3) gNil))) rfl sc_law_due.nd rfl rfl (sw_true rfl rfl rfl (by decide +kernel)) (pi_list (pv 0)) (blkOk_by (N := ["grid", "table", "kind", "row", "exact", "out", "changes", "line", "j", "total", "l", "one", "orders"]) (sc := defScope s_law_due) (by decide +kernel)) (fun _ _ _ _ _ => (pg_tup rfl (pgs_cons (pg_name (i := 2) sc_law_due.nd rfl (.inl rfl)) (pgs_cons (pg_name (i := 3) sc_law_due.nd rfl (.inl rfl)) pgs_nil)))) (fun _ _ _ _ _ => (pts_one (pt_cmpR op_eq (pv 2) pe_str (nomark _)))) (fun _ _ _ _ _ => (pv 3)))
      (pss_cons (ps_set (i := 5) sc_law_due.nd rfl (.inl rfl) (pe_lst pa_nil))
      (pss_cons (ps_for PassesOwn.never rfl (pi_list (pv 0)) (pg_tup rfl (pgs_cons (pg_name (i := 2) sc_law_due.nd rfl (.inl rfl)) (pgs_cons (pg_name (i := 3) sc_law_due.nd rfl (.inl rfl)) pgs_nil)))
        (pss_one (ps_if (pt_cmpR op_eq (pv 2) pe_str (nomark _))
          (pss_cons (ps_set (i := 6) sc_law_due.nd rfl (.inl rfl) (pe_ix ix_list (pv 1) (pe_callB call_len_seq (by rfl) T.m_len (by decide +kernel) (pa_cons (pe_lc (own := [("one", 11)]) rfl sc_law_due.nd (pi_list (pv 5)) (blkOk_by (N := ["grid", "table", "kind", "row", "exact", "out", "changes", "line", "j", "total", "l", "one", "orders"]) (sc := defScope s_law_due) (by decide +kernel)) (fun _ _ _ _ _ => (pg_name (i := 11) sc_law_due.nd rfl (.inl rfl))) (fun _ _ _ _ _ => (pts_one (pt_cmpR op_eq (pe_ix (r := rIxT K) ix_tup (pv 11) pe_int (fun _ _ => rfl)) pe_str (nomark _)))) (fun _ _ _ _ _ => (pv 11))) pa_nil)) (fun _ _ => rfl)))
          (pss_cons (ps_set (i := 7) sc_law_due.nd rfl (.inl rfl) (pe_lst pa_nil))
          (pss_cons (ps_for PassesOwn.never rfl (pi_range1 (by rfl) T.m_range (pa_cons (pe_callB call_len_seq (by rfl) T.m_len (by decide +kernel) (pa_cons (pv 3) pa_nil)) pa_nil)) (pg_name (i := 8) sc_law_due.nd rfl (.inl rfl))
            (pss_cons (ps_set (i := 9) sc_law_due.nd rfl (.inl rfl) (pe_lst pa_nil))
            (pss_cons (ps_for PassesOwn.never rfl (pi_range1 (by rfl) T.m_range (pa_cons (pe_callB call_len_seq (by rfl) T.m_len (by decide +kernel) (pa_cons (pv 4) pa_nil)) pa_nil)) (pg_name (i := 10) sc_law_due.nd rfl (.inl rfl))
              (pss_one (ps_set (i := 9) sc_law_due.nd rfl (.inl rfl) (pe_call (ok_law_plus T) (hr.mono (by decide)) (by rfl) T.law_plus.g T.law_plus.F.kp T.law_plus.b .nil pass0 (pa_cons (pv 9) (pa_cons (pe_call (ok_law_times T) (hr.mono (by decide)) (by rfl) T.law_times.g T.law_times.F.kp T.law_times.b .nil pass0 (pa_cons (pe_ix ix_list (pv 6) (pv 10) (fun _ _ => rfl)) (pa_cons (pe_ix ix_list (pe_ix ix_list (pv 4) (pv 10) (fun _ _ => rfl)) (pv 8) (fun _ _ => rfl)) pa_nil))) pa_nil))))))
            (pss_one (ps_expr (pe_bm PySem.F.plainAttrs_list PySem.F.slot_list_append PySem.F.type_list_append mt_append (pv 7) (pa_cons (pv 9) pa_nil)))))))
          (pss_one (ps_expr (pe_bm PySem.F.plainAttrs_list PySem.F.slot_list_append PySem.F.type_list_append mt_append (pv 5) (pa_cons (pe_tup (pa_cons (pv 2) (pa_cons (pv 7) pa_nil))) pa_nil)))))))
          (pss_one (ps_expr (pe_bm PySem.F.plainAttrs_list PySem.F.slot_list_append PySem.F.type_list_append mt_append (pv 5) (pa_cons (pe_tup (pa_cons (pv 2) (pa_cons (pe_lc (own := [("orders", 12)]) rfl sc_law_due.nd (pi_list (pv 3)) (blkOk_by (N := ["grid", "table", "kind", "row", "exact", "out", "changes", "line", "j", "total", "l", "one", "orders"]) (sc := defScope s_law_due) (by decide +kernel)) (fun _ _ _ _ _ => (pg_name (i := 12) sc_law_due.nd rfl (.inl rfl))) (fun _ _ _ _ _ => pts_nil) (fun _ _ _ _ _ => (pe_callTy (T := "list") (r := rListC K) call_listC (by rfl) T.m_list (by decide +kernel) (pa_cons (pv 12) pa_nil)))) pa_nil))) pa_nil)))))))
      (pss_one (ps_ret (pv 5)))))), ?_⟩
    refine ⟨.ref g, rfl, g, rfl, ⟨_, .of hx⟩, fun EE nE => ?_⟩
    refine lc_fm (walk_list (xs := xs)) rs (fun r => if r.1 = true then some r.2 else none) (TRow EE) (fun _ _ _ _ s h => h.up s) lx.symm nE (fun H' s => s.seq (.of hx)) (small' (by omega)) (fun i x H' Hx ys r hr2 sm hD y Qt Qf qt qf => ?_) (fun H1 ys s1 hE hR => ?_)
    · obtain ⟨rfl, hxi⟩ := y
      obtain ⟨r', hr', hV⟩ := hA.get hxi
      obtain rfl := Option.some.inj (hr2.symm.trans hr')
      have hT : ∃ t b, x = V.ref t ∧ SqT K H t [.str (kS r.1), .ref b] ∧ TRow EE H (.ref b) r.2 := let ⟨t, b, e, ht, hb⟩ := hV; ⟨t, b, e, ht, TRow.in hb nE⟩
      obtain ⟨t, b2, rfl, ht, hTR⟩ := hT
      refine ⟨t, _, rfl, Same.seqT sm ht, rfl, _, _, rfl, _, _, rfl, rfl, rfl, _, rfl, rfl, _, rfl, ?_⟩
      rw [str_ex]
      cases e : r.1 with
      | true => exact iteT ⟨_, rfl, qt _ _ r.2 (by rw [e]; rfl) (Same.refl _) (hTR.up (sx sm))⟩
      | false => exact iteF (qf (by rw [e]; rfl) _ (Same.refl _))
    have hEx : TbR H1 EE (exs rs) := TbR.of hE hR
    obtain ⟨es, hEl, hEE⟩ := hEx
    have lE := hEE.len
    refine ⟨by show 0 ≤ sizeLine; decide, fun O nO => ?_⟩
    have hx1 := s1 _ _ hx
    have hb1 := s1 _ _ hbl
    have sO := same_upd nO (o := .lst [])
    refine ⟨.ref g, rfl, g, rfl, ⟨_, .of (sO _ _ hx1)⟩, ?_⟩
    generalize hlines : prodT tab (exs rs) = lines
    have llen : lines.length = (exs rs).length := by rw [← hlines]; unfold prodT; rw [List.length_map]; exact ltab
    refine for_it (walk_list (xs := xs)) (fun i σ G => Same H1 G ∧ ∃ (v2 v3 v6 v7 v8 v9 v10 v11 v12 : Option V) (zs : List V), σ = [some (.ref g), some (.ref b), v2, v3, some (.ref EE), some (.ref O), v6, v7, v8, v9, v10, v11, v12] ∧ G O = some (.lst zs) ∧ A2 (XO O G) zs ((rs.take i).foldl (dstep lines) [])) ⟨sO, _, _, _, _, _, _, _, _, _, [], rfl, upd_same, .nil⟩ (fun i σ G _ hP => .of (hP.1 _ _ hx1)) (fun i x σ G Gx hi hP y => ?_) (fun σ G hP => ?_)
    · obtain ⟨sm, v2, v3, v6, v7, v8, v9, v10, v11, v12, zs, rfl, hO, hZ⟩ := hP
      obtain ⟨rfl, hxi⟩ := y
      obtain ⟨r, hr2, hV⟩ := hA.get hxi
      obtain ⟨t, rb, rfl, ht, as, hrb, hRow⟩ := hV.lk (K47.lk (s1.trans sm))
      have lrow := (vg.2 r (mem_at hr2)).1
      have las := hRow.len
      have lz := hZ.len
      rw [due_len, List.length_take] at lz
      have lz2 : zs.length ≤ 16 := by rw [lz]; show 0 + _ ≤ _; omega
      have nOn : Gx O ≠ none := by rw [hO]; exact fun z => nomatch z
      refine ⟨t, _, rfl, ht, rfl, _, _, rfl, _, _, rfl, rfl, ?_⟩
      refine ⟨_, rfl, rfl, _, rfl, ?_⟩
      rw [str_ex]
      have st := fold_take (dstep lines) [] hr2
      have cnt : (exs ((rs.take i).foldl (dstep lines) [])).length = (exs (rs.take i)).length := by rw [due_exs]; show 0 + _ = _; omega
      cases er : r.1 with
      | true =>
        obtain ⟨clt, cat⟩ := exs_take hr2 er
        refine iteT ⟨.ref b, rfl, .ref O, rfl, O, rfl, ⟨_, .of hO⟩, fun C nC => ?_⟩
        refine lc_fm (walk_list (xs := zs)) ((rs.take i).foldl (dstep lines) []) (fun r => if r.1 = true then some r.2 else none) (fun _ _ _ => True) (fun _ _ _ _ _ z => z) hZ.len.symm nC (fun H' s => s.seq (.of hO)) (small' (by omega)) (fun i2 x2 G2 Hx2 ys2 r2 hr3 sm2 hD2 y2 Qt2 Qf2 qt2 qf2 => ?_) (fun G2 ys2 s2 hC hR2 => ?_)
        · obtain ⟨rfl, hx2⟩ := y2
          obtain ⟨r2', hr2', t2, b2, as2, rfl, nt2, ht2, _⟩ := hZ.get hx2
          obtain rfl := Option.some.inj (hr3.symm.trans hr2')
          refine ⟨rfl, .ref t2, rfl, t2, _, _, _, rfl, rfl, .inl (.inl (sm2 _ _ ht2)), rfl, rfl, _, rfl, ?_⟩
          rw [str_ex]
          cases e : r2.1 with
          | true => exact iteT ⟨_, rfl, qt2 _ _ r2.2 (by rw [e]; rfl) (Same.refl _) trivial⟩
          | false => exact iteF (qf2 (by rw [e]; rfl) _ (Same.refl _))
        have lc2 : ys2.length = (exs (rs.take i)).length := by rw [hR2.len]; exact cnt
        refine ⟨C, _, rfl, .inl (.of hC), ?_⟩
        rw [lc2]
        have s02 := s1.trans (sm.trans s2)
        obtain ⟨ch, hch⟩ := some_at (xs := tab) (i := (exs (rs.take i)).length) (by omega)
        obtain ⟨ca, hca, hCR⟩ := hB.get' hch
        obtain ⟨cas, hcl, hCE⟩ := hCR
        have tv := htv ch (mem_at hch)
        refine ⟨b, _, _, _, rfl, rfl, .of (s02 _ _ hbl), atI_nat (by rw [List.getElem?_map, hca]; rfl), ?_⟩
        refine ⟨by show 0 ≤ sizeLine; decide, fun Ln nLn => ?_⟩
        have LnO : Ln ≠ O := fun z => by rw [z, s2 _ _ hO] at nLn; cases nLn
        have s3 := same_upd nLn (o := .lst [])
        refine ⟨.ref rb, rfl, rb, _, rfl, .inl (.of (s3 _ _ (s2 _ _ hrb))), (many : Nat), by rw [List.length_map, las, lrow], by omega, by omega, ?_⟩
        rw [Int.toNat_natCast]
        refine for_range (n := many) (lo := 0) (fun j σ G3 => Same G2 G3 ∧ ∃ (v8 v9 v10 : Option V) (cs : List Addr), σ = [some (.ref g), some (.ref b), some (.str (kS true)), some (.ref rb), some (.ref EE), some (.ref O), some (.ref ca), some (.ref Ln), v8, v9, v10, v11, v12] ∧ G3 Ln = some (.lst (cs.map V.ref)) ∧ A2 (fun e ns => (e ≠ O ∧ e ≠ Ln) ∧ IL G3 e ns) cs ((List.range j).map (cellv ch (exs rs)))) ⟨s3, v8, v9, v10, [], by rw [← er]; rfl, upd_same, .nil⟩ (fun j σ G3 hj hP => ?_) (fun σ G3 hP => ?_)
        · obtain ⟨s4, v8, v9, v10, cs, rfl, hLn, hcs⟩ := hP
          have lcs := hcs.len
          rw [List.length_map, List.length_range] at lcs
          refine ⟨by show 0 ≤ sizeLine; decide, fun t0 nt0 => ?_⟩
          have s5 := same_upd nt0 (o := .lst [])
          have s24 := (sm.trans s2).trans s4
          refine ⟨.ref EE, rfl, EE, _, rfl, .inl (.of (s5 _ _ (s24 _ _ hEl))), ((exs rs).length : Nat), by rw [List.length_map, lE], by omega, by omega, ?_⟩
          rw [Int.toNat_natCast]
          refine for_range (n := (exs rs).length) (lo := 0) (fun l σ G4 => Same G3 G4 ∧ ∃ (c : Addr) (v10 : Option V), σ = [some (.ref g), some (.ref b), some (.str (kS true)), some (.ref rb), some (.ref EE), some (.ref O), some (.ref ca), some (.ref Ln), some (.int (0 + (j : Int))), some (.ref c), v10, v11, v12] ∧ G3 c = none ∧ IL G4 c (((ch.zip (pick (exs rs) j)).take l).foldl pstep []) ∧ (((ch.zip (pick (exs rs) j)).take l).foldl pstep []).length ≤ 200) ⟨s5, t0, v10, rfl, nt0, upd_same, Nat.zero_le _⟩ (fun l σ G4 hl hP => ?_) (fun σ G4 hP => ?_)
          · obtain ⟨s6, c, v10, rfl, nc, hc, hlen⟩ := hP
            have s06 := (s1.trans s24).trans s6
            obtain ⟨e, he⟩ := some_at (xs := ch) (i := l) (by have := tv.1; omega)
            obtain ⟨ea, hea, hI⟩ := hCE.get' he
            obtain ⟨er2, her⟩ := some_at (xs := exs rs) (i := l) hl
            obtain ⟨xa, hxa, xas, hxl, hXE⟩ := hEE.get' her
            obtain ⟨r3, hr3, er3⟩ := exs_mem (mem_at her)
            have vr3 := vg.2 r3 hr3
            rw [er3] at vr3
            obtain ⟨f, hf⟩ := some_at (xs := er2) (i := j) (by have := vr3.1; omega)
            obtain ⟨fa, hfa, hF⟩ := hXE.get' hf
            have zp : (ch.zip (pick (exs rs) j))[l]? = some (e, f) := by
              rw [List.getElem?_zip_eq_some]
              refine ⟨he, ?_⟩
              unfold pick
              rw [List.getElem?_map, her]
              show some (er2.getD j []) = some f
              rw [List.getD_eq_getElem?_getD, hf]; rfl
            have pe := pb_te (tv.2 e (mem_at he))
            have pf := pb_ve (vr3.2 f (mem_at hf))
            have s26 := s24.trans s6
            refine ⟨.ref c, rfl, .ref ca, rfl, _, rfl, ca, _, _, _, rfl, rfl, .of (s06 _ _ hcl), by rw [Int.zero_add]; exact atI_nat (by rw [List.getElem?_map, hea]; rfl), .ref EE, rfl, _, rfl, EE, _, _, _, rfl, rfl, .of (s26 _ _ hEl), by rw [Int.zero_add]; exact atI_nat (by rw [List.getElem?_map, hxa]; rfl), _, rfl, xa, _, _, _, rfl, rfl, .of (s26 _ _ hxl), by rw [Int.zero_add]; exact atI_nat (by rw [List.getElem?_map, hfa]; rfl), ?_⟩
            refine ⟨ea, fa, e, f, rfl, hI.same s06, hF.same s26, pe.1, pf.1, pe.2, pf.2, fun G5 m s7 nm hm2 => ?_⟩
            refine ⟨c, m, _, _, rfl, hc.same s7, hm2, by omega, by have := pmul_len e f; have := pe.1; have := pf.1; omega, fun G6 n s8 nn hn => ?_⟩
            refine ⟨s6.trans (s7.trans s8), n, _, rfl, (s6.trans s7).free nn, ?_, ?_⟩
            · rw [fold_take _ _ zp]; exact hn
            · rw [fold_take _ _ zp]; exact pstep_len hlen pe pf
          · obtain ⟨s6, c, v10, rfl, nc, hc, hlen⟩ := hP
            rw [List.take_of_length_le (by rw [List.length_zip]; unfold pick; rw [List.length_map]; omega)] at hc
            have hLn6 := s6 _ _ hLn
            have cO : c ≠ O := fun z => by rw [z, s4 _ _ (s2 _ _ hO)] at nc; cases nc
            have cL : c ≠ Ln := fun z => by rw [z, hLn] at nc; cases nc
            refine ⟨.ref Ln, rfl, .inl ⟨rfl, _, .of hLn6⟩, _, rfl, Ln, _, _, rfl, rfl, hLn6, small' (by rw [List.length_map]; omega), ?_⟩
            refine ⟨same_over (s4.trans s6) nLn, _, _, _, cs ++ [c], rfl, by rw [upd_same, List.map_append]; rfl, ?_⟩
            rw [List.range_succ, List.map_append]
            exact A2.snoc ⟨⟨cO, cL⟩, by unfold IL; rw [upd_ne cL]; exact hc⟩ (hcs.mono fun e ns z => ⟨z.1, by unfold IL; rw [upd_ne z.1.2]; exact s6 _ _ z.2⟩)
        · obtain ⟨s4, v8, v9, v10, cs, rfl, hLn, hcs⟩ := hP
          refine ⟨.ref O, rfl, .inl ⟨rfl, _, .of (s4 _ _ (s2 _ _ hO))⟩, _, rfl, _, rfl, by show 2 ≤ sizeLine; decide, fun u nu => ?_⟩
          have s5 := same_upd nu (o := .tup [.str (kS true), .ref Ln])
          have sG := s2.trans (s4.trans s5)
          have uO : u ≠ O := fun z => by rw [z, s4 _ _ (s2 _ _ hO)] at nu; cases nu
          refine ⟨O, _, _, rfl, rfl, sG _ _ hO, small' (by omega), ?_⟩
          refine ⟨same_over (sm.trans sG) nO, _, _, _, _, _, _, _, _, _, zs ++ [.ref u], rfl, upd_same, ?_⟩
          rw [st]
          refine A2.snoc ?_ (hZ.mono fun _ _ z => (z.up (sx sG)).up SameX.put)
          have wd : wdt (exs rs) = many := (wdt_le fun x hx => by obtain ⟨r3, hr3, rfl⟩ := exs_mem hx; exact (vg.2 r3 hr3).1).2 fun z => by rw [z] at clt; exact Nat.not_lt_zero _ clt
          have eline : lines.getD (exs ((rs.take i).foldl (dstep lines) [])).length [] = (List.range many).map (cellv ch (exs rs)) := by
            rw [cnt, ← hlines]
            unfold prodT
            rw [List.getD_eq_getElem?_getD, List.getElem?_map, hch, wd]; rfl
          refine ⟨u, Ln, cs, rfl, uO, ?_, LnO, ?_, ?_⟩
          · rw [upd_ne uO, upd_same, er]
          · rw [upd_ne LnO]; exact s5 _ _ hLn
          · show A2 _ cs (if r.1 = true then _ else _)
            rw [if_pos er, eline]
            exact hcs.mono fun e ns z => ⟨z.1.1, by unfold IL; rw [upd_ne z.1.1]; exact s5 _ _ z.2⟩
      | false =>
        refine iteF ⟨.ref O, rfl, .inl ⟨rfl, _, .of hO⟩, _, rfl, .ref rb, rfl, rb, rfl, ⟨_, .of hrb⟩, fun C nC => ?_⟩
        refine lc_inv (walk_list (xs := as.map V.ref)) (fun i2 G2 ys => ∃ cs : List Addr, ys = cs.map V.ref ∧ RN C Gx G2 cs (r.2.take i2)) nC (fun H' s => s.seq (.of hrb)) (small' (by rw [List.length_map]; omega)) ⟨[], rfl, .nil⟩ (fun i2 x2 G2 Hx2 ys2 hi2 sm2 hD2 hR2 y2 Qt2 Qf2 qt2 qf2 => ?_) (fun G2 ys2 sm2 hC hR2 => ?_)
        · obtain ⟨rfl, hx2⟩ := y2
          obtain ⟨c, hc, rfl⟩ := row_ref hx2
          obtain ⟨el, he, hI⟩ := hRow.get hc
          obtain ⟨cs, rfl, hrn⟩ := hR2
          refine ⟨rfl, .ref c, rfl, c, _, rfl, .inl (hI.same sm2).sq, fun n nn => ?_⟩
          have s2 := same_upd nn (o := .lst (el.map V.int))
          have nC2 : n ≠ C := fun z => by rw [z, hD2] at nn; cases nn
          refine qt2 _ _ s2 ⟨cs ++ [n], by rw [List.map_append]; rfl, ?_⟩
          rw [take_snoc he]
          exact hrn.snoc s2 nC2 (sm2.free nn) upd_same
        · obtain ⟨cs, rfl, hrn⟩ := hR2
          rw [List.take_of_length_le (by rw [List.length_map]; omega)] at hrn
          have off : ∀ {c : Addr}, Gx c = none → c ≠ O := fun {c} z y => nOn (y ▸ z)
          refine ⟨by show 2 ≤ sizeLine; decide, fun u nu => ?_⟩
          have s5 := same_upd nu (o := .tup [.str (kS false), .ref C])
          have sG := sm2.trans s5
          have uO : u ≠ O := off (sm2.free nu)
          have CO : C ≠ O := off nC
          refine ⟨O, _, _, rfl, rfl, sG _ _ hO, small' (by omega), ?_⟩
          refine ⟨same_over (sm.trans sG) nO, _, _, _, _, _, _, _, _, _, zs ++ [.ref u], rfl, upd_same, ?_⟩
          rw [st]
          refine A2.snoc ⟨u, C, cs, rfl, uO, by rw [upd_ne uO, upd_same, er], CO, by rw [upd_ne CO]; exact s5 _ _ hC, ?_⟩ (hZ.mono fun _ _ z => (z.up (sx sG)).up SameX.put)
          show A2 _ cs (if r.1 = true then _ else _)
          rw [if_neg (by rw [er]; decide)]
          exact hrn.mono fun e ns z => ⟨off z.1.2, by unfold IL; rw [upd_ne (off z.1.2)]; exact s5 _ _ z.2⟩
    · obtain ⟨sm, v2, v3, v6, v7, v8, v9, v10, v11, v12, zs, rfl, hO, hZ⟩ := hP
      refine ⟨.ref O, rfl, q G O (s1.trans sm) ⟨zs, hO, ?_⟩⟩
      rw [lx, ← lx, List.take_of_length_le (by omega), due_is llen] at hZ
      rw [hlines]
      exact hZ.mono fun _ _ z => z.row
def sp_law_refused (K : PySem.W.Frag) (P : Addr) : Sp := fun vs H Q _ => ∃ (g c : Addr) (rs : List Rw) (many : Nat) (as : List Addr) (ls : List Nat), vs = [.ref g, .ref c] ∧ GR K H g rs ∧ VG many rs ∧ many ≤ 16 ∧ SqL K H c (as.map V.ref) ∧ A2 (fun r n => ∃ xs, SqL K H r xs ∧ xs.length = n) as ls ∧ GxR.TabG H P ∧ ¬ Fits ls (exs rs).length ∧
  ∀ H' t, LkN H H' → GxR.TabG H' P → H' t = some (.tup [.bl true, .int 0]) → Q (.ref t) H'
theorem ok_law_refused (T : Txt K mg) (X : Errs K mg) {P2 : Addr} (TB : GxR.TabB base mg T.changed.c P2) : FnOk P w K mg base CX0 6 T.law_refused.a T.law_refused.fd ["grid", "table"] (sp_law_refused K P2) := by
  refine T.law_refused.F.ok sc_law_refused (fun vs H Q E h => ?_) (fun cdv A outer s H vs Q E hr h => ?_)
  · obtain ⟨g, c, rs, many, as, ls, rfl, _⟩ := h
    rfl
  · obtain ⟨g, c, rs, many, as, ls, rfl, hg, vg, hm, hc, hA, tb, nf, q⟩ := h
    refine ⟨_, (pss_cons (ps_try_as (i := 2) rfl rfl sc_law_refused.nd rfl rfl ⟨rfl, by decide, .inl X.e0.gM⟩ takes0
        (fun W pn xe tk _ => (pss_one (ps_expr (pe_callS (ok_changed T X TB) (hr.mono (by decide)) (by rfl) T.changed.g T.changed.kp T.changed.b (fun σ => passAt tk σ) (pa_cons (pv 0) (pa_cons (pv 1) pa_nil))))))
        (fun a oe cls d pn hz hf => (pss_one (ps_ret (pe_tup (pa_cons (pe_callB (LX.call_isX hz hf) (by rfl) T.m_isinstance (by decide +kernel) (pa_cons (pv 2) (pa_cons (pe_glob (v := .ref X.WrongSize.C) rfl X.WrongSize.g rfl) pa_nil))) (pa_cons (pe_xf X.WrongSize.xf X.WrongSize.noAt hz hf (pv 2)) pa_nil)))))))
      (pss_one (ps_ret pe_non))), ?_⟩
    refine ⟨_, rfl, _, rfl, g, c, rs, many, as, ls, rfl, hg, vg, hm, hc, hA, tb, fun _ H1 dd k1 tb1 hdd => ?_, fun z => absurd z nf⟩
    refine ⟨true, X.WrongSize.exm, fun _ a0 ha0 => ?_, fun q => nomatch q⟩
    refine ⟨_, rfl, X.WrongSize.C, dd, _, _, true, _, rfl, rfl, X.WrongSize.named.own, rfl, .own _, upd_same, X.WrongSize.kit, ?_⟩
    refine ⟨_, rfl, rfl, rfl, dd, _, _, rfl, upd_same, rfl, by show 2 ≤ sizeLine; decide, fun p hp => ?_⟩
    have s2 := (same_upd hdd).trans (same_upd hp (o := .tup [.bl true, .int 0]))
    exact q _ p (k1.trans (lkN s2)) (tabG_same tb1 s2) upd_same
end
-- N47
def GS (n : Nat) (s : Str) : Prop := s.length ≤ n ∧ ∀ c ∈ s.cps.toList, c < 200
/-! ### data and their texts -/
/-- may be shown and compared; a text of at most n signs -/
structure Gd (k n : Nat) (d : PyData) : Prop where
  sh : d.showable = true
  lay : d.canLay0 = true
  dep : d.depth ≤ k
  len : d.shown.length ≤ n
def tot (ts : List Str) : Nat := (ts.map fun t => t.length + 2).sum
theorem textFrom_tot : ∀ (ts : List Str) (k : Nat) (acc : Str), (textFrom k acc ts).length ≤ acc.length + tot ts
  | [], k, acc => Nat.le_add_right _ _
  | t :: r, k, acc => by
    have h := textFrom_tot r (k + 1) (acc ++ (if k > 0 then ", " else "" : String) ++ t)
    rw [Str.length_append, Str.length_append] at h
    have e : ((if k > 0 then ", " else "" : String) : Str).length ≤ 2 := by split <;> decide +kernel
    show (textFrom (k + 1) (acc ++ (if k > 0 then ", " else "" : String) ++ t) r).length ≤ _
    have e2 : tot (t :: r) = t.length + 2 + tot r := by unfold tot; rw [List.map_cons, List.sum_cons]
    omega
theorem join_tot : ∀ ts : List Str, (Str.join ", " ts).length ≤ tot ts
  | [] => Nat.zero_le _
  | [x] => by show x.length ≤ _; unfold tot; simp
  | x :: y :: r => by
    have h := join_tot (y :: r)
    show (x ++ ", " ++ Str.join ", " (y :: r)).length ≤ _
    rw [Str.length_append, Str.length_append]
    have e2 : tot (x :: y :: r) = x.length + 2 + tot (y :: r) := by unfold tot; rw [List.map_cons, List.sum_cons]
    have e3 : ((", " : String) : Str).length = 2 := rfl
    omega
/-- all of them, with all their texts together -/
inductive GdAll (k : Nat) : Nat → List PyData → Prop
  | nil : GdAll k 0 []
  | cons {n m : Nat} {d : PyData} {ds : List PyData} : Gd k n d → GdAll k m ds → GdAll k (n + 2 + m) (d :: ds)
theorem GdAll.facts {k : Nat} : ∀ {n : Nat} {ds : List PyData}, GdAll k n ds → PyData.showableAll ds = true ∧ PyData.canLayAll0 ds = true ∧ PyData.depthAll ds ≤ k ∧ tot (PyData.shownAll ds) ≤ n
  | _, _, .nil => ⟨rfl, rfl, Nat.zero_le _, Nat.le_refl _⟩
  | _, _, .cons (d := d) (ds := ds) h t => by
    obtain ⟨h1, h2, h3, h4⟩ := t.facts
    refine ⟨?_, ?_, ?_, ?_⟩
    · show (PyData.showable d && PyData.showableAll ds) = true
      rw [h.sh, h1]; rfl
    · show (PyData.canLay0 d && PyData.canLayAll0 ds) = true
      rw [h.lay, h2]; rfl
    · show max (PyData.depth d) (PyData.depthAll ds) ≤ k
      exact Nat.max_le.mpr ⟨h.dep, h3⟩
    · show tot (PyData.shown d :: PyData.shownAll ds) ≤ _
      unfold tot at h4 ⊢
      rw [List.map_cons, List.sum_cons]
      have := h.len
      omega
theorem GdAll.map {α : Type} {k n : Nat} {f : α → PyData} : ∀ {xs : List α}, (∀ x ∈ xs, Gd k n (f x)) → GdAll k (xs.length * (n + 2)) (xs.map f)
  | [], _ => by rw [List.length_nil, Nat.zero_mul]; exact .nil
  | x :: r, h => by
    rw [List.length_cons, Nat.succ_mul, Nat.add_comm]
    exact .cons (h x List.mem_cons_self) (GdAll.map fun y hy => h y (List.mem_cons_of_mem _ hy))
theorem Gd.list {k n : Nat} {ds : List PyData} (h : GdAll k n ds) : Gd (k + 1) (n + 2) (.list ds) := by
  obtain ⟨h1, h2, h3, h4⟩ := h.facts
  refine ⟨h1, h2, Nat.succ_le_succ h3, ?_⟩
  show (listText (PyData.shownAll ds)).length ≤ _
  unfold listText
  rw [Str.length_append]
  have := textFrom_tot (PyData.shownAll ds) 0 "["
  have e1 : (("[" : String) : Str).length = 1 := rfl
  have e2 : (("]" : String) : Str).length = 1 := rfl
  omega
theorem Gd.tup {k n : Nat} {ds : List PyData} (h : GdAll k n ds) : Gd (k + 1) (n + 3) (.tuple ds) := by
  obtain ⟨h1, h2, h3, h4⟩ := h.facts
  refine ⟨h1, h2, Nat.succ_le_succ h3, ?_⟩
  show (tupleText (PyData.shownAll ds)).length ≤ _
  unfold tupleText
  rw [Str.length_append, Str.length_append]
  have := join_tot (PyData.shownAll ds)
  have e1 : (("(" : String) : Str).length = 1 := rfl
  have e2 : ((if (PyData.shownAll ds).length == 1 then ",)" else ")" : String) : Str).length ≤ 2 := by split <;> decide +kernel
  omega
theorem Gd.mono {k l n m : Nat} {d : PyData} (h : Gd k n d) (a : k ≤ l) (b : n ≤ m) : Gd l m d := ⟨h.sh, h.lay, Nat.le_trans h.dep a, Nat.le_trans h.len b⟩
theorem log_le {n : Nat} (h : n ≤ 10 ^ 42) : n.log2 < 1920 := by
  rcases Nat.eq_zero_or_pos n with rfl | p
  · decide
  · exact Nat.lt_of_lt_of_le ((Nat.log2_lt (by omega)).mpr (Nat.lt_of_le_of_lt h (by decide : 10 ^ 42 < 2 ^ 150))) (by decide)
theorem Gd.int {i : Int} (h : i.natAbs ≤ 10 ^ 42) : Gd 0 44 (.int i) := by
  refine ⟨decide_eq_true (log_le h), rfl, Nat.le_refl _, ?_⟩
  show (Str.ofString (toString i)).length ≤ 44
  rw [PySem.ofString_length]
  exact int_text_length_le10 (k := 43) (by decide) (Nat.lt_of_le_of_lt h (by decide))
theorem str_ok {n : Nat} {s : Str} (h : GS n s) : (PyData.str s).canLay0 = true := by
  show s.cps.all (· < 0x110000) = true
  rw [← Array.all_toList, List.all_eq_true]
  exact fun c hc => decide_eq_true (Nat.lt_trans (h.2 c hc) (by decide))
theorem Gd.str {n : Nat} {s : Str} (h : GS n s) : Gd 0 (10 * n + 2) (.str s) := by
  refine ⟨rfl, str_ok h, Nat.le_refl _, ?_⟩
  refine Nat.le_trans (StrLaws.reprText_len s fun c hc => Nat.lt_trans (h.2 c hc) (by decide)) ?_
  have := h.1
  omega
/-! ### a grid as a datum -/
def dRow (r : Rw) : PyData := .tuple [.str (kS r.1), .list (r.2.map dI)]
def dGr (rs : List Rw) : PyData := .list (rs.map dRow)
theorem gd_dI {e : List Int} (h : Te e) : Gd 1 600 (dI e) := by
  have : Gd 1 (e.length * 46 + 2) (dI e) := Gd.list (GdAll.map fun n hn => Gd.int (h.2 n hn))
  exact this.mono (Nat.le_refl _) (by have := h.1; omega)
theorem gs_kS (b : Bool) : GS 5 (kS b) := by cases b <;> exact ⟨by decide +kernel, by decide +kernel⟩
theorem gd_dRow {many : Nat} {r : Rw} (h : VR many r.2) (hm : many ≤ 16) : Gd 3 9800 (dRow r) := by
  have l : Gd 2 9634 (.list (r.2.map dI)) := by
    have : Gd 2 (r.2.length * 602 + 2) (.list (r.2.map dI)) := Gd.list (GdAll.map fun e he => gd_dI ⟨(h.2 e he).1, fun n hn => Nat.le_trans ((h.2 e he).2 n hn) (by decide)⟩)
    exact this.mono (Nat.le_refl _) (by have := h.1; omega)
  exact (Gd.tup (.cons ((Gd.str (gs_kS r.1)).mono (Nat.zero_le _) (Nat.le_refl _)) (.cons l .nil))).mono (Nat.le_refl _) (by decide)
theorem gd_dGr {many : Nat} {rs : List Rw} (h : VG many rs) (hm : many ≤ 16) : Gd 4 160000 (dGr rs) := by
  have : Gd 4 (rs.length * 9802 + 2) (dGr rs) := Gd.list (GdAll.map fun r hr => gd_dRow (h.2 r hr) hm)
  exact this.mono (Nat.le_refl _) (by have := h.1; omega)
theorem dp_els {K : PySem.W.Frag} {H : Hp} : ∀ {as : List Addr} {els : List (List Int)}, A2 (IL H) as els → DpAll K H (as.map V.ref) (els.map dI)
  | _, _, .nil => .nil
  | _, _, .cons h t => .cons (dpI h.sq) (dp_els t)
theorem dp_row {K : PySem.W.Frag} {H : Hp} {v : V} {r : Rw} (h : RwV K H v r) : Dp K H v (dRow r) := by
  obtain ⟨t, b, rfl, ht, as, hb, hA⟩ := h
  exact .tup ht (.cons (.str _) (.cons (.lst (.of hb) (dp_els hA)) .nil))
theorem dp_rows {K : PySem.W.Frag} {H : Hp} : ∀ {xs : List V} {rs : List Rw}, A2 (RwV K H) xs rs → DpAll K H xs (rs.map dRow)
  | _, _, .nil => .nil
  | _, _, .cons h t => .cons (dp_row h) (dp_rows t)
theorem dp_gr {K : PySem.W.Frag} {H : Hp} {g : Addr} {rs : List Rw} (h : GR K H g rs) : Dp K H (.ref g) (dGr rs) := let ⟨xs, hx, hA⟩ := h; .lst (.of hx) (dp_rows hA)
-- X47
/-! ### grids and tables as data -/
theorem layAll_map {α : Type} {f : α → PyData} (h : ∀ x, (f x).canLay0 = true) : ∀ xs : List α, PyData.canLayAll0 (xs.map f) = true
  | [] => rfl
  | x :: r => by
    show (PyData.canLay0 (f x) && PyData.canLayAll0 (r.map f)) = true
    rw [h, layAll_map h r]; rfl
theorem depAll_map {α : Type} {f : α → PyData} {k : Nat} (h : ∀ x, (f x).depth ≤ k) : ∀ xs : List α, PyData.depthAll (xs.map f) ≤ k
  | [] => Nat.zero_le _
  | x :: r => by
    show max (PyData.depth (f x)) (PyData.depthAll (r.map f)) ≤ k
    exact Nat.max_le.mpr ⟨h x, depAll_map h r⟩
def dEls (els : List (List Int)) : PyData := .list (els.map dI)
theorem lay_els (els : List (List Int)) : (dEls els).canLay0 = true := layAll_map lay_dI els
theorem dep_els (els : List (List Int)) : (dEls els).depth ≤ 2 := Nat.succ_le_succ (depAll_map (fun x => Nat.le_of_eq (dep_dI x)) els)
theorem lay_dRow (r : Rw) : (dRow r).canLay0 = true := by
  show (PyData.canLay0 (.str (kS r.1)) && (PyData.canLay0 (dEls r.2) && true)) = true
  rw [lay_els, str_ok (gs_kS r.1)]; rfl
theorem dep_dRow (r : Rw) : (dRow r).depth ≤ 3 := by
  show max (PyData.depth (.str (kS r.1))) (max (PyData.depth (dEls r.2)) 0) + 1 ≤ 3
  have := dep_els r.2
  have e : PyData.depth (.str (kS r.1)) = 0 := rfl
  omega
theorem shaped_dGr (rs : List Rw) : SeqAt.shaped (dGr rs) = true := by
  unfold SeqAt.shaped
  rw [show (dGr rs).canLay0 = true from layAll_map lay_dRow rs, decide_eq_true (Nat.le_trans (Nat.succ_le_succ (depAll_map dep_dRow rs)) (by decide) : (dGr rs).depth ≤ 64)]; rfl
def dTb (tab : Tb) : PyData := .list (tab.map dEls)
theorem gd_dTb {tab : Tb} {n : Nat} (h : ∀ r ∈ tab, TV n r) (hn : n ≤ 16) (hl : tab.length ≤ 16) : Gd 3 160000 (dTb tab) := by
  have one : ∀ r ∈ tab, Gd 2 9634 (dEls r) := fun r hr => by
    have : Gd 2 (r.length * 602 + 2) (dEls r) := Gd.list (GdAll.map fun e he => gd_dI ((h r hr).2 e he))
    exact this.mono (Nat.le_refl _) (by have := (h r hr).1; omega)
  have : Gd 3 (tab.length * 9636 + 2) (dTb tab) := Gd.list (GdAll.map one)
  exact this.mono (Nat.le_refl _) (by omega)
def dGT (rs : List Rw) (tab : Tb) : PyData := .tuple [dGr rs, dTb tab]
theorem gd_dGT {rs : List Rw} {tab : Tb} {many n : Nat} (vg : VG many rs) (hm : many ≤ 16) (h : ∀ r ∈ tab, TV n r) (hn : n ≤ 16) (hl : tab.length ≤ 16) : Gd 5 330000 (dGT rs tab) :=
  (Gd.tup (.cons (gd_dGr vg hm) (.cons ((gd_dTb h hn hl).mono (by decide) (Nat.le_refl _)) .nil))).mono (Nat.le_refl _) (by decide)
theorem dp_rowL {K : PySem.W.Frag} {H : Hp} {a : Addr} {row : List (List Int)} (h : RowL H a row) : Dp K H (.ref a) (dEls row) := let ⟨as, ha, hA⟩ := h; .lst (.of ha) (dp_els hA)
theorem dp_tab {K : PySem.W.Frag} {H : Hp} : ∀ {as : List Addr} {tab : Tb}, A2 (RowL H) as tab → DpAll K H (as.map V.ref) (tab.map dEls)
  | _, _, .nil => .nil
  | _, _, .cons h t => .cons (dp_rowL h) (dp_tab t)
theorem dp_tb {K : PySem.W.Frag} {H : Hp} {p : Addr} {tab : Tb} (h : TbR H p tab) : Dp K H (.ref p) (dTb tab) := let ⟨as, ha, hA⟩ := h; .lst (.of ha) (dp_tab hA)
theorem RF.row {K : PySem.W.Frag} {H0 H : Hp} {v : V} {r : Rw} (h : RF H0 H v r) : RwV K H v r := let ⟨t, b, e, nt, nb, ht, as, hb, hA⟩ := h; ⟨t, b, e, .inl (.inl ht), as, hb, hA.mono fun _ _ z => z.2⟩
/-! ### lengths of what is told -/
theorem fold_len : ∀ (ps : List (List Int × List Int)) (tot : List Int), tot.length ≤ 200 → (∀ p ∈ ps, Pb p.1 ∧ Pb p.2) → (ps.foldl pstep tot).length ≤ 200
  | [], tot, h, _ => h
  | p :: ps, tot, h, hp => fold_len ps _ (pstep_len h (hp p List.mem_cons_self).1 (hp p List.mem_cons_self).2) fun q hq => hp q (List.mem_cons_of_mem _ hq)
theorem pb_nil : Pb [] := ⟨Nat.zero_le _, fun m => by rw [cf_ge (Nat.zero_le _)]; decide⟩
theorem cellv_len {row : List (List Int)} {tab : Tb} {j : Nat} (h1 : ∀ e ∈ row, Pb e) (h2 : ∀ t ∈ tab, ∀ e ∈ t, Pb e) : (cellv row tab j).length ≤ 200 := by
  refine fold_len _ _ (Nat.zero_le _) fun p hp => ?_
  obtain ⟨a, b⟩ := p
  have m := List.of_mem_zip hp
  refine ⟨h1 a m.1, ?_⟩
  obtain ⟨t, ht, rfl⟩ := List.mem_map.mp m.2
  show Pb (t.getD j [])
  rw [List.getD_eq_getElem?_getD]
  cases e : t[j]? with
  | none => exact pb_nil
  | some x => exact h2 t ht x (mem_at e)
theorem chg_mem : ∀ (rs : List Rw) (lines : Tb) (r : Rw), r ∈ chg rs lines → r ∈ rs ∨ ∃ l ∈ lines, r.2 = l
  | [], _, r, h => by cases h
  | x :: rs, lines, r, h => by
    unfold chg at h
    by_cases z : x.1 = true
    · rw [if_pos z] at h
      cases lines with
      | nil =>
        rcases List.mem_cons.mp h with rfl | h
        · exact .inl List.mem_cons_self
        · rcases chg_mem rs [] r h with y | ⟨l, hl, _⟩
          · exact .inl (List.mem_cons_of_mem _ y)
          · cases hl
      | cons l ls =>
        rcases List.mem_cons.mp h with rfl | h
        · exact .inr ⟨l, List.mem_cons_self, rfl⟩
        · rcases chg_mem rs ls r h with y | ⟨l2, hl, e⟩
          · exact .inl (List.mem_cons_of_mem _ y)
          · exact .inr ⟨l2, List.mem_cons_of_mem _ hl, e⟩
    · rw [if_neg z] at h
      rcases List.mem_cons.mp h with rfl | h
      · exact .inl List.mem_cons_self
      · rcases chg_mem rs lines r h with y | y
        · exact .inl (List.mem_cons_of_mem _ y)
        · exact .inr y
/-- what is handed back: rows of so many lists, none of them long -/
def Rs2 (many : Nat) (rs : List Rw) : Prop := ∀ r ∈ rs, r.2.length = many ∧ ∀ e ∈ r.2, e.length ≤ 200
theorem rs2_chg {many : Nat} {rs : List Rw} {tab : Tb} (vg : VG many rs) (hl : tab.length = (exs rs).length) (htv : ∀ r ∈ tab, TV (exs rs).length r) : Rs2 many (chgS rs (prodT tab (exs rs))) := by
  intro r hr
  rw [chgS_chg] at hr
  rcases chg_mem _ _ _ hr with h | ⟨l, hl2, e⟩
  · exact ⟨(vg.2 r h).1, fun x hx => by have := ((vg.2 r h).2 x hx).1; omega⟩
  · obtain ⟨row, hrow, rfl⟩ := List.mem_map.mp hl2
    have ne : exs rs ≠ [] := fun z => by
      rw [z] at hl
      have : tab = [] := List.length_eq_zero_iff.mp hl
      rw [this] at hrow
      cases hrow
    have wd : wdt (exs rs) = many := (wdt_le fun x hx => by obtain ⟨r3, hr3, rfl⟩ := exs_mem hx; exact (vg.2 r3 hr3).1).2 ne
    rw [e, List.length_map, List.length_range]
    refine ⟨wd, fun x hx => ?_⟩
    obtain ⟨j, _, rfl⟩ := List.mem_map.mp hx
    refine cellv_len (fun y hy => pb_te ((htv row hrow).2 y hy)) fun t ht y hy => ?_
    obtain ⟨r3, hr3, rfl⟩ := exs_mem ht
    exact pb_ve ((vg.2 r3 hr3).2 y hy)
/-! ### what was told is changed -/
def ER (H0 G : Hp) (n : Nat) (e : Addr) : Prop := H0 e = none ∧ ∃ ns, IL G e ns ∧ ns.length ≤ n
def MR (H0 G : Hp) (n : Nat) (v : V) (_r : Rw) : Prop := ∃ (t b e0 : Addr) (as : List Addr) (k : V), v = .ref t ∧ G t = some (.tup [k, .ref b]) ∧ G b = some (.lst ((e0 :: as).map V.ref)) ∧ (e0 :: as).length ≤ 16 ∧ ∀ e ∈ e0 :: as, ER H0 G n e
theorem ER.step {H0 G : Hp} {n : Nat} {e e2 : Addr} {ns : List Int} (h : ER H0 G n e2) (he : IL G e ns) (hl : ns.length ≤ n) : ER H0 (upd G e (.lst (ns.map V.int ++ [V.int 4]))) (n + 1) e2 := by
  obtain ⟨h0, ms, hm, hlm⟩ := h
  refine ⟨h0, ?_⟩
  by_cases z : e2 = e
  · exact ⟨ns ++ [4], by unfold IL; rw [z, upd_same, ← app_ints], by rw [List.length_append]; exact Nat.succ_le_succ hl⟩
  · exact ⟨ms, by unfold IL; rw [upd_ne z]; exact hm, Nat.le_succ_of_le hlm⟩
theorem not_refs {G : Hp} {b e x : Addr} {as : List V} {ns : List Int} (hb : G b = some (.lst (.ref x :: as))) (he : IL G e ns) : b ≠ e := fun z => by
  rw [z] at hb
  have e2 := hb.symm.trans he
  cases ns with
  | nil => cases e2
  | cons n r => cases e2
theorem MR.step {H0 G : Hp} {n : Nat} {e : Addr} {ns : List Int} {v : V} {r : Rw} (h : MR H0 G n v r) (he : IL G e ns) (hl : ns.length ≤ n) : MR H0 (upd G e (.lst (ns.map V.int ++ [V.int 4]))) (n + 1) v r := by
  obtain ⟨t, b, e0, as, k, rfl, ht, hb, h16, hE⟩ := h
  refine ⟨t, b, e0, as, k, rfl, ?_, ?_, h16, fun e2 h2 => (hE e2 h2).step he hl⟩
  · rw [upd_ne fun z => by rw [z] at ht; have := ht.symm.trans he; cases this]; exact ht
  · rw [upd_ne (not_refs (as := as.map V.ref) (x := e0) hb he)]; exact hb
theorem MR.more {H0 G : Hp} {n m : Nat} {v : V} {r : Rw} (h : MR H0 G n v r) (l : n ≤ m) : MR H0 G m v r := let ⟨t, b, e0, as, k, e, ht, hb, h16, hE⟩ := h; ⟨t, b, e0, as, k, e, ht, hb, h16, fun e2 h2 => let ⟨z, ns, a, c⟩ := hE e2 h2; ⟨z, ns, a, Nat.le_trans c l⟩⟩
theorem Lk.over {H H' : Hp} {e : Addr} {o : HO} (s : Lk H H') (h : H e = none) : Lk H (upd H' e o) := fun b u z n => by
  rw [upd_ne fun y => by rw [y, h] at z; cases z]
  exact s b u z n
theorem tabG_over {H : Hp} {P e : Addr} {o : HO} {ns : List Int} (h : GxR.TabG H P) (he : IL H e ns) : GxR.TabG (upd H e o) P := let ⟨ps, hP, t⟩ := h; ⟨ps, by rw [upd_ne fun z => by rw [z] at hP; have := hP.symm.trans he; cases this]; exact hP, t⟩
/-- a table of another size -/
def NF (K : PySem.W.Frag) (H : Hp) (n : Nat) (a : Addr) : Prop := ∃ (as : List Addr) (ls : List Nat), SqL K H a (as.map V.ref) ∧ A2 (fun r n => ∃ xs, SqL K H r xs ∧ xs.length = n) as ls ∧ ¬ Fits ls n
theorem NF.lk {K : PySem.W.Frag} {H H' : Hp} {n : Nat} {a : Addr} (s : Lk H H') (h : NF K H n a) : NF K H' n a := let ⟨as, ls, h1, h2, h3⟩ := h; ⟨as, ls, s.seqL h1, h2.mono fun _ _ ⟨xs, a, b⟩ => ⟨xs, s.seqL a, b⟩, h3⟩
theorem A2.take {α β : Type} {R : α → β → Prop} : ∀ {as : List α} {bs : List β} (i : Nat), A2 R as bs → A2 R (as.take i) (bs.take i)
  | _, _, 0, _ => .nil
  | _, _, _ + 1, .nil => .nil
  | _, _, i + 1, .cons h t => .cons h (A2.take i t)
theorem A2.drop {α β : Type} {R : α → β → Prop} : ∀ {as : List α} {bs : List β} (i : Nat), A2 R as bs → A2 R (as.drop i) (bs.drop i)
  | _, _, 0, h => h
  | _, _, _ + 1, .nil => .nil
  | _, _, i + 1, .cons _ t => A2.drop i t
theorem A2.app {α β : Type} {R : α → β → Prop} : ∀ {as as2 : List α} {bs bs2 : List β}, A2 R as bs → A2 R as2 bs2 → A2 R (as ++ as2) (bs ++ bs2)
  | _, _, _, _, .nil, h => h
  | _, _, _, _, .cons h t, h2 => .cons h (A2.app t h2)
theorem cut_head {as : List Addr} {m : Nat} (h : m ≤ as.length) : cutV (as.map V.ref) none (some (m : Int)) = (as.take m).map V.ref := by
  unfold cutV
  rw [HT.sIx_none, HT.sIx_nat, List.drop_zero, List.length_map, Nat.min_eq_left h, Nat.sub_zero, List.map_take]
theorem cut_tail {as : List Addr} {m : Nat} (h : m ≤ as.length) : cutV (as.map V.ref) (some (m : Int)) none = (as.drop m).map V.ref := by
  unfold cutV
  rw [HT.sIx_none, HT.sIx_nat, List.length_map, Nat.min_eq_left h, List.take_of_length_le (by rw [List.length_drop, List.length_map]; exact Nat.le_refl _), List.map_drop]
theorem cut_last {α : Type} {as : List α} {f : α → V} (h : 0 < as.length) : cutV (as.map f) none (some (-1)) = (as.take (as.length - 1)).map f := by
  unfold cutV
  have e : HT.sIx (as.map f).length (as.map f).length (some (-1)) = as.length - 1 := by
    show (if (-1 : Int) < 0 then ((-1 : Int) + ((as.map f).length : Int)).toNat else min (-1 : Int).toNat (as.map f).length) = _
    rw [if_pos (by decide), List.length_map]; omega
  rw [e, HT.sIx_none, List.drop_zero, Nat.sub_zero, List.map_take]
section
variable {P : Program} {w : World} {K : PySem.W.Frag} {mg : Str → Option Value} {base : Heap}
def sp_law (K : PySem.W.Frag) (P : Addr) : Sp := fun vs H Q _ => ∃ (a : Addr) (ns : List Int), vs = [.ref a] ∧ SqL K H a (ns.map V.int) ∧ ns.length ≤ 63 ∧ GxR.TabG H P ∧ ∀ H', Q (.bl true) H'
theorem ok_law (T : Txt K mg) (X : Errs K mg) {P2 : Addr} (TB : GxR.TabB base mg T.changed.c P2) : LG.FnG P w K mg base CX0 8 T.law.a T.law.fd ["script"] (sp_law K P2) := by
  refine LG.fun_okG T.law.F sc_law (fun vs H Q E h => ?_) (fun cdv A outer s H vs Q E hr gd h => ?_)
  · obtain ⟨a, ns, rfl, _⟩ := h
    rfl
  · obtain ⟨a, ns, rfl, ha, hl, tb, q⟩ := h
    refine ⟨_, (pss_cons (ps_set (i := 1) sc_law.nd rfl (.inl rfl) (pe_call (ok_law_draws T) (hr.mono (by decide)) (by rfl) T.law_draws.g T.law_draws.F.kp T.law_draws.b .nil pass0 (pa_cons (pv 0) pa_nil)))
      (pss_cons (ps_set (i := 2) sc_law.nd rfl (.inl rfl) (pe_call (ok_law_mix T) (hr.mono (by decide)) (by rfl) T.law_mix.g T.law_mix.F.kp T.law_mix.b .nil pass0 (pa_cons (pv 1) (pa_cons pe_int (pa_cons (pe_ix ix_list (pe_lst (pa_cons pe_int (pa_cons pe_int pa_nil))) (pe_callTy call_int1 (by rfl) T.m_int (by decide +kernel) (pa_cons (pe_cmpR op_eq (pe_call (ok_law_mix T) (hr.mono (by decide)) (by rfl) T.law_mix.g T.law_mix.F.kp T.law_mix.b .nil pass0 (pa_cons (pv 1) (pa_cons pe_int (pa_cons pe_int pa_nil)))) pe_int (nomark _)) pa_nil)) (fun _ _ => rfl)) pa_nil)))))
      (pss_cons (ps_set (i := 3) sc_law.nd rfl (.inl rfl) (pe_call (ok_law_grid T) (hr.mono (by decide)) (by rfl) T.law_grid.g T.law_grid.F.kp T.law_grid.b .nil pass0 (pa_cons (pv 1) (pa_cons pe_int (pa_cons (pv 2) pa_nil)))))
      (pss_cons (ps_set (i := 5) sc_law.nd rfl (.inl rfl) (pe_callB call_len_seq (by rfl) T.m_len (by decide +kernel) (pa_cons (pe_lc (own := [("kind", 15), ("row", 4)]) (g := gTup K 2 (gCons (gName 15) (gCons (gName 4) gNil))) rfl sc_law.nd (pi_list (pv 3)) (blkOk_by (N := ["script", "draws", "many", "grid", "row", "size", "table", "kept", "due", "told", "element", "at", "longer", "shorter", "other", "kind", "j"]) (sc := defScope s_law) (by decide +kernel)) (fun _ _ _ _ _ => (pg_tup rfl (pgs_cons (pg_name (i := 15) sc_law.nd rfl (.inl rfl)) (pgs_cons (pg_name (i := 4) sc_law.nd rfl (.inl rfl)) pgs_nil)))) (fun _ _ _ _ _ => (pts_one (pt_cmpR op_eq (pv 15) pe_str (nomark _)))) (fun _ _ _ _ _ => (pv 4))) pa_nil)))
      (pss_cons (ps_set (i := 6) sc_law.nd rfl (.inl rfl) (pe_call (ok_law_table T) (hr.mono (by decide)) (by rfl) T.law_table.g T.law_table.F.kp T.law_table.b .nil pass0 (pa_cons (pv 1) (pa_cons pe_int (pa_cons (pv 5) pa_nil)))))
      (pss_cons (ps_set (i := 7) sc_law.nd rfl (.inl rfl) (pe_callB (LG.call_reprD gd hr.units) (by rfl) T.m_repr (by decide +kernel) (pa_cons (pe_tup (pa_cons (pv 3) (pa_cons (pv 6) pa_nil))) pa_nil)))
      (pss_cons (ps_set (i := 8) sc_law.nd rfl (.inl rfl) (pe_call (ok_law_due T) (hr.mono (by decide)) (by rfl) T.law_due.g T.law_due.F.kp T.law_due.b .nil pass0 (pa_cons (pv 3) (pa_cons (pv 6) pa_nil))))
      (pss_cons (ps_set (i := 9) sc_law.nd rfl (.inl rfl) (pe_call (ok_changed T X TB) (hr.mono (by decide)) (by rfl) T.changed.g T.changed.kp T.changed.b .nil (passes_call takes0 fun _ _ _ _ h => h) (pa_cons (pv 3) (pa_cons (pv 6) pa_nil))))
      (pss_cons (ps_if (PW.pt (pw_or (pt_not (pt_val (pe_callB call_isi (by rfl) T.m_isinstance (by decide +kernel) (pa_cons (pv 9) (pa_cons (pe_bltn (v := .ty "list") (by rfl) T.m_list (by decide +kernel) rfl) pa_nil))))) (pw_or (pt_cmpR (op_neD hr.units) (pv 9) (pv 8) (nomark _)) (pw_or1 (pt_cmpR op_ne (pe_callB (LG.call_reprD gd hr.units) (by rfl) T.m_repr (by decide +kernel) (pa_cons (pe_tup (pa_cons (pv 3) (pa_cons (pv 6) pa_nil))) pa_nil)) (pv 7) (nomark _))))))
        (pss_one (ps_ret pe_bl))
        pss_nil)
      (pss_cons (ps_for PassesOwn.never rfl (pi_list (pv 9)) (pg_name (i := 4) sc_law.nd rfl (.inl rfl))
        (pss_cons (ps_if (pt_not (pt_val (pe_callB call_isi (by rfl) T.m_isinstance (by decide +kernel) (pa_cons (pv 4) (pa_cons (pe_bltn (v := .ty "tuple") (by rfl) T.m_tuple (by decide +kernel) rfl) pa_nil)))))
          (pss_one (ps_ret pe_bl))
          pss_nil)
        (pss_one (ps_for PassesOwn.never rfl (pi_list (pe_ix ix_tup (pv 4) pe_int (fun _ _ => rfl))) (pg_name (i := 10) sc_law.nd rfl (.inl rfl))
          (pss_one (ps_expr (pe_bm PySem.F.plainAttrs_list PySem.F.slot_list_append PySem.F.type_list_append mt_append (pv 10) (pa_cons pe_int pa_nil))))))))
      (pss_cons (ps_if (PW.pt (pw_or (pt_cmpR op_ne (pe_callB (LG.call_reprD gd hr.units) (by rfl) T.m_repr (by decide +kernel) (pa_cons (pe_tup (pa_cons (pv 3) (pa_cons (pv 6) pa_nil))) pa_nil)) (pv 7) (nomark _)) (pw_or1 (pt_cmpR (op_neD hr.units) (pe_call (ok_changed T X TB) (hr.mono (by decide)) (by rfl) T.changed.g T.changed.kp T.changed.b .nil (passes_call takes0 fun _ _ _ _ h => h) (pa_cons (pv 3) (pa_cons (pv 6) pa_nil))) (pv 8) (nomark _)))))
        (pss_one (ps_ret pe_bl))
        pss_nil)
      (pss_cons (ps_if (pt_cmpR (op_neD hr.units) (pe_call (ok_law_refused T X TB) (hr.mono (by decide)) (by rfl) T.law_refused.g T.law_refused.F.kp T.law_refused.b .nil pass0 (pa_cons (pv 3) (pa_cons (pe_op op_cat (pv 6) (pe_lst (pa_cons (pe_lc (own := [("j", 16)]) rfl sc_law.nd (pi_range1 (by rfl) T.m_range (pa_cons (pv 5) pa_nil)) (blkOk_by (N := ["script", "draws", "many", "grid", "row", "size", "table", "kept", "due", "told", "element", "at", "longer", "shorter", "other", "kind", "j"]) (sc := defScope s_law) (by decide +kernel)) (fun _ _ _ _ _ => (pg_name (i := 16) sc_law.nd rfl (.inl rfl))) (fun _ _ _ _ _ => pts_nil) (fun _ _ _ _ _ => (pe_lst (pa_cons pe_int pa_nil)))) pa_nil))) pa_nil))) (pe_tup (pa_cons pe_bl (pa_cons pe_int pa_nil))) (nomark _))
        (pss_one (ps_ret pe_bl))
        pss_nil)
      (pss_cons (ps_if (pt_cmpR op_eq (pv 5) pe_int (nomark _))
        (pss_one (ps_ret pe_bl))
        pss_nil)
      (pss_cons (ps_set (i := 11) sc_law.nd rfl (.inl rfl) (pe_call (ok_law_mix T) (hr.mono (by decide)) (by rfl) T.law_mix.g T.law_mix.F.kp T.law_mix.b .nil pass0 (pa_cons (pv 1) (pa_cons pe_int (pa_cons (pv 5) pa_nil)))))
      (pss_cons (ps_set (i := 12) sc_law.nd rfl (.inl rfl) (pe_op op_cat (pe_op op_cat (pe_slice sl_list (pv 6) po_none (po_some (pv 11))) (pe_lst (pa_cons (pe_op op_cat (pe_ix ix_list (pv 6) (pv 11) (fun _ _ => rfl)) (pe_lst (pa_cons (pe_lst pa_nil) pa_nil))) pa_nil))) (pe_slice sl_list (pv 6) (po_some (pe_op op_add (pv 11) pe_int)) po_none)))
      (pss_cons (ps_set (i := 13) sc_law.nd rfl (.inl rfl) (pe_op op_cat (pe_op op_cat (pe_slice sl_list (pv 6) po_none (po_some (pv 11))) (pe_lst (pa_cons (pe_slice sl_list (pe_ix ix_list (pv 6) (pv 11) (fun _ _ => rfl)) po_none (po_some (pe_un un_neg pe_int))) pa_nil))) (pe_slice sl_list (pv 6) (po_some (pe_op op_add (pv 11) pe_int)) po_none)))
      (pss_cons (ps_for PassesOwn.never rfl (pi_list (pe_lst (pa_cons (pe_slice sl_list (pv 6) po_none (po_some (pe_un un_neg pe_int))) (pa_cons (pv 12) (pa_cons (pv 13) (pa_cons (pe_lst pa_nil) pa_nil)))))) (pg_name (i := 14) sc_law.nd rfl (.inl rfl))
        (pss_one (ps_if (pt_cmpR (op_neD hr.units) (pe_call (ok_law_refused T X TB) (hr.mono (by decide)) (by rfl) T.law_refused.g T.law_refused.F.kp T.law_refused.b .nil pass0 (pa_cons (pv 3) (pa_cons (pv 14) pa_nil))) (pe_tup (pa_cons pe_bl (pa_cons pe_int pa_nil))) (nomark _))
          (pss_one (ps_ret pe_bl))
          pss_nil)))
      (pss_one (ps_ret (pe_and (pe_cmpR (op_eqD hr.units) (pe_call (ok_changed T X TB) (hr.mono (by decide)) (by rfl) T.changed.g T.changed.kp T.changed.b .nil (passes_call takes0 fun _ _ _ _ h => h) (pa_cons (pv 3) (pa_cons (pv 6) pa_nil))) (pv 8) (nomark _)) (pe_one (pe_cmpR op_eq (pe_callB (LG.call_reprD gd hr.units) (by rfl) T.m_repr (by decide +kernel) (pa_cons (pe_tup (pa_cons (pv 3) (pa_cons (pv 6) pa_nil))) pa_nil)) (pv 7) (nomark _))))))))))))))))))))))), ?_⟩
    refine ⟨.ref a, rfl, a, ns, rfl, ha, hl, fun H1 d ds s1 nd hd _ => ?_⟩
    refine ⟨.ref d, rfl, by show 2 ≤ sizeLine; decide, fun l0 n0 => ?_⟩
    have s2 := s1.trans (same_upd n0 (o := .lst [.int 9, .int 17]))
    have hd2 := hd.same (same_upd n0 (o := .lst [.int 9, .int 17]))
    refine ⟨.ref d, rfl, d, ds, _, _, rfl, hd2, by decide, by decide, fun r1 p1 u1 => ⟨rfl, .inr ⟨_, rfl, ?_⟩⟩⟩
    obtain ⟨bi, eb, b0, b1⟩ : ∃ bi : Int, (if decide (V.int r1 = V.int 2) = true then (1 : Int) else 0) = bi ∧ 0 ≤ bi ∧ bi ≤ 1 := ⟨_, rfl, by split <;> omega, by split <;> omega⟩
    rw [eb]
    have hlt : bi.toNat < [(9 : Int), 17].length := by show _ < 2; omega
    refine ⟨l0, _, _, _, rfl, rfl, .of upd_same, at_map' (ns := [9, 17]) (m := bi.toNat) (by omega) hlt, ?_⟩
    obtain ⟨m0, m1⟩ := (by decide : ∀ x ∈ [(9 : Int), 17], 0 < x ∧ x ≤ 17) _ (mem_at (at_map hlt))
    refine ⟨d, ds, _, _, rfl, hd2, by decide, m0, fun r2 p2 u2 => ?_⟩
    obtain ⟨many, em, hmany⟩ : ∃ m : Nat, r2 = (m : Int) ∧ m ≤ 16 := ⟨r2.toNat, by omega, by omega⟩
    subst em
    refine ⟨.ref d, rfl, _, rfl, d, ds, _, many, rfl, hd2, by decide, hmany, fun H3 g rs s3 hg vg => ?_⟩
    have hd3 := hd2.same s3
    have lr := vg.1
    have l16 := exs_len rs
    have hgx := hg
    obtain ⟨xs, hx, hA⟩ := hgx
    have lx := hA.len
    refine ⟨.ref g, rfl, g, rfl, ⟨_, .of hx⟩, fun C nC => ?_⟩
    refine lc_fm (walk_list (xs := xs)) rs (fun r => if r.1 = true then some r.2 else none) (fun _ _ _ => True) (fun _ _ _ _ _ z => z) lx.symm nC (fun H' s => s.seq (.of hx)) (small' (by omega)) (fun i x H' Hx ys r hr2 sm hD y Qt Qf qt qf => ?_) (fun H4 ys s4 hC hR => ?_)
    · obtain ⟨rfl, hxi⟩ := y
      obtain ⟨r', hr', hV⟩ := hA.get hxi
      obtain rfl := Option.some.inj (hr2.symm.trans hr')
      obtain ⟨t, b, rfl, ht, _⟩ := hV
      refine ⟨t, _, rfl, Same.seqT sm ht, rfl, _, _, rfl, _, _, rfl, rfl, rfl, _, rfl, rfl, _, rfl, ?_⟩
      rw [str_ex]
      cases e : r.1 with
      | true => exact iteT ⟨_, rfl, qt _ _ r.2 (by rw [e]; rfl) (Same.refl _) trivial⟩
      | false => exact iteF (qf (by rw [e]; rfl) _ (Same.refl _))
    have lys : ys.length = (exs rs).length := hR.len
    refine ⟨C, _, rfl, .inl (.of hC), ?_⟩
    rw [lys]
    generalize hsz : (exs rs).length = size at lys
    have hd4 := hd3.same s4
    refine ⟨.ref d, rfl, _, rfl, d, ds, _, size, rfl, hd4, by decide, by omega, fun H5 tb0 tab s5 htb ltab htv => ?_⟩
    have hd5 := hd4.same s5
    have hg5 := hg.lk (K47.lk (s4.trans s5))
    have tb5 := tabG_same (tabG_same (tabG_same (tabG_same tb s2) s3) s4) s5
    have gD := gd_dGT vg hmany htv (by omega) (by omega)
    have gd0 := PyData.hasDict_of_canLay _ gD.lay
    have dgt : ∀ (G : Hp) (u : Addr), GR K G g rs → TbR G tb0 tab → G u = some (.tup [.ref g, .ref tb0]) → Dp K G (.ref u) (dGT rs tab) := fun G u h1 h2 h3 => .tup (.inl (.inl h3)) (.cons (dp_gr h1) (.cons (dp_tb h2) .nil))
    have gDd : (dGT rs tab).depth ≤ 60 := Nat.le_trans gD.dep (by decide)
    have gDl : (dGT rs tab).shown.length ≤ sizeLine := Nat.le_trans gD.len (by decide)
    refine ⟨_, rfl, _, rfl, by show 2 ≤ sizeLine; decide, fun u1 nu1 => ?_⟩
    have s6 := same_upd nu1 (o := .tup [.ref g, .ref tb0])
    refine ⟨u1, dGT rs tab, rfl, dgt _ u1 (hg5.lk (K47.lk s6)) (htb.lk (K47.lk s6)) upd_same, gD.sh, gd0, gDd, gDl, ?_⟩
    generalize hkept : (dGT rs tab).shown = kept
    refine ⟨_, rfl, _, rfl, g, tb0, rs, many, tab, rfl, hg5.lk (K47.lk s6), vg, hmany, htb.lk (K47.lk s6), by omega, fun r hr2 => by rw [hsz]; exact htv r hr2, fun H6 du s7 hdu => ?_⟩
    have s57 := s6.trans s7
    have hg6 := hg5.lk (K47.lk s57)
    have htb6 := htb.lk (K47.lk s57)
    have tb6 := tabG_same tb5 s57
    have hd6 := hd5.same s57
    have r2' : Rs2 many (chgS rs (prodT tab (exs rs))) := rs2_chg vg (by omega) fun r hr2 => by rw [hsz]; exact htv r hr2
    have htb6' := htb6
    obtain ⟨tas, htl, hTA⟩ := htb6'
    have fit : Fits (tab.map List.length) (exs rs).length := ⟨by rw [List.length_map]; omega, fun l hl => by
      obtain ⟨r, hr2, rfl⟩ := List.mem_map.mp hl
      rw [hsz]; exact (htv r hr2).1⟩
    have wdG : ∀ G, Lk H6 G → A2 (fun r n => ∃ xs, SqL K G r xs ∧ xs.length = n) tas (tab.map List.length) := fun G k => TbR.wd (as := tas) (hTA.mono fun _ _ z => z.lk k)
    have pbT : ∀ r ∈ tab, ∀ e ∈ r, Pb e := fun r hr2 e he => pb_te ((htv r hr2).2 e he)
    have duD : ∀ G, Lk H6 G → Dp K G (.ref du) (dGr (chgS rs (prodT tab (exs rs)))) := fun G k => dp_gr (hdu.lk k)
    have shd := shaped_dGr (chgS rs (prodT tab (exs rs)))
    have eqd := SeqAt.eqv_refl _ (SeqAt.canLay_of_shaped shd)
    generalize hres : chgS rs (prodT tab (exs rs)) = res at r2' duD shd eqd
    refine ⟨_, rfl, _, rfl, g, tb0, rs, many, tas, tab.map List.length, rfl, hg6, vg, hmany, .of htl, wdG _ .refl, tb6, fun y => absurd fit y, fun _ => ⟨tab, htb6, rfl, pbT, fun H7 L zs k7 tb7 nL hL hZ => ?_⟩⟩
    rw [hres] at hZ
    have gL : GR K H7 L res := ⟨zs, hL, hZ.mono fun _ _ z => z.row⟩
    refine ⟨.ref L, rfl, _, _, _, _, true, rfl, .ty "list", .base (.lst hL), rfl, _, rfl, iteF ?_⟩
    refine ⟨.ref L, rfl, .ref du, rfl, dGr res, dGr res, dp_gr gL, duD _ k7.1, shd, shd, _, rfl, ?_⟩
    rw [eqd]
    refine iteF ?_
    refine ⟨_, rfl, _, rfl, by show 2 ≤ sizeLine; decide, fun u2 nu2 => ?_⟩
    have s8 := same_upd nu2 (o := .tup [.ref g, .ref tb0])
    have k8 := k7.1.trans (K47.lk s8)
    refine ⟨u2, dGT rs tab, rfl, dgt _ u2 (hg6.lk k8) (htb6.lk k8) upd_same, gD.sh, gd0, gDd, gDl, _, rfl, rfl, _, rfl, ?_⟩
    rw [hkept, decide_eq_true rfl]
    refine iteF ?_
    -- what was told is changed
    have hL8 := s8 _ _ hL
    have tb8 := tabG_same tb7 s8
    have hM : A2 (MR H6 (upd H7 u2 (.tup [.ref g, .ref tb0])) 200) zs res := by
      have go : ∀ {ys : List V} {rr : List Rw}, A2 (RF H6 H7) ys rr → (∀ r ∈ rr, (0 < r.2.length ∧ r.2.length ≤ 16) ∧ ∀ e ∈ r.2, e.length ≤ 200) → A2 (MR H6 (upd H7 u2 (.tup [.ref g, .ref tb0])) 200) ys rr := by
        intro ys rr h
        induction h with
        | nil => exact fun _ => .nil
        | @cons v r vs rs' h t ih =>
          intro f
          refine .cons ?_ (ih fun r hr2 => f r (List.mem_cons_of_mem _ hr2))
          obtain ⟨t, b, rfl, nt, nb, ht, as, hb, hE⟩ := h
          obtain ⟨⟨f1, f16⟩, f2⟩ := f r List.mem_cons_self
          cases as with
          | nil =>
            have := hE.len
            simp at this
            omega
          | cons e0 as =>
            refine ⟨t, b, e0, as, _, rfl, s8 _ _ ht, s8 _ _ hb, by rw [hE.len]; exact f16, fun e he => ?_⟩
            obtain ⟨i, hi, rfl⟩ := List.getElem_of_mem he
            obtain ⟨ns, hns, nn, hI⟩ := hE.get (List.getElem?_eq_getElem hi)
            exact ⟨nn, ns, hI.same s8, f2 ns (mem_at hns)⟩
      refine go hZ fun r hr2 => ⟨⟨?_, by have := (r2' r hr2).1; omega⟩, (r2' r hr2).2⟩
      have e1 := (r2' r hr2).1
      have : many ≠ 0 := fun z => by
        have : rs = [] := List.length_eq_zero_iff.mp (by omega)
        rw [← hres, chgS_chg, this] at hr2
        cases hr2
      omega
    have lz := hZ.len
    have lres : res.length ≤ 16 := by rw [← hres]; unfold chgS; rw [seE_len]; omega
    refine ⟨.ref L, rfl, L, rfl, ⟨_, .of hL8⟩, ?_⟩
    refine for_it (walk_list (xs := zs)) (fun i σ G => Lk H6 G ∧ GxR.TabG G P2 ∧ G L = some (.lst zs) ∧ A2 (MR H6 G (200 + 16 * i)) zs res ∧ ∃ (v4 v10 v15 v16 : Option V), σ = [some (.ref a), some (.ref d), some (.int (many : Nat)), some (.ref g), v4, some (.int (size : Nat)), some (.ref tb0), some (.str kept), some (.ref du), some (.ref L), v10, none, none, none, none, v15, v16]) ⟨k8, tb8, hL8, hM, _, _, _, _, rfl⟩ (fun i σ G _ hP => .of hP.2.2.1) (fun i x σ G Gx hi hP y => ?_) (fun σ G hP => ?_)
    · obtain ⟨kG, tG, hLG, hMG, v4, v10, v15, v16, rfl⟩ := hP
      obtain ⟨rfl, hxi⟩ := y
      obtain ⟨r, hr2, t, b, e0, as, kk, rfl, ht, hb, h16, hE⟩ := hMG.get hxi
      refine ⟨.ref t, rfl, _, _, _, _, true, rfl, .ty "tuple", .base (.tup ht), rfl, _, rfl, iteF ?_⟩
      refine ⟨.ref t, rfl, t, _, _, .ref b, rfl, rfl, .inl (.inl ht), rfl, b, rfl, ⟨_, .of hb⟩, ?_⟩
      refine for_it (walk_list (xs := (e0 :: as).map V.ref)) (fun j σ G2 => Lk H6 G2 ∧ GxR.TabG G2 P2 ∧ G2 L = some (.lst zs) ∧ A2 (MR H6 G2 (200 + 16 * i + j)) zs res ∧ G2 b = some (.lst ((e0 :: as).map V.ref)) ∧ (∀ e ∈ e0 :: as, ER H6 G2 (200 + 16 * i + j) e) ∧ ∃ (v10 : Option V), σ = [some (.ref a), some (.ref d), some (.int (many : Nat)), some (.ref g), some (.ref t), some (.int (size : Nat)), some (.ref tb0), some (.str kept), some (.ref du), some (.ref L), v10, none, none, none, none, v15, v16]) ⟨kG, tG, hLG, hMG, hb, hE, _, rfl⟩ (fun j σ G2 _ hP => .of hP.2.2.2.2.1) (fun j x σ G2 Gx2 hj hP y => ?_) (fun σ G2 hP => ?_)
      · obtain ⟨k2, t2, hL2, hM2, hb2, hE2, v10, rfl⟩ := hP
        obtain ⟨rfl, hxj⟩ := y
        obtain ⟨e, he, rfl⟩ := row_ref hxj
        obtain ⟨h0, es, hI, hlen⟩ := hE2 e (mem_at he)
        have hjl : j < 16 := by have := (List.getElem?_eq_some_iff.mp he).1; omega
        have hil : i < 16 := by omega
        have Le : L ≠ e := fun z => by
          rw [z] at hL2
          have e2 := hL2.symm.trans hI
          have e3 : zs = es.map V.int := by cases e2; rfl
          rw [e3] at hxi
          have := (map_get hxi).2
          cases this
        refine ⟨.ref e, rfl, .inl ⟨rfl, _, hI.sq⟩, e, _, _, rfl, rfl, hI, small' (by rw [List.length_map]; omega), ?_⟩
        refine ⟨k2.over h0, tabG_over t2 hI, by rw [upd_ne Le]; exact hL2, hM2.mono fun _ _ z => z.step hI hlen, by rw [upd_ne (not_refs (as := as.map V.ref) (x := e0) hb2 hI)]; exact hb2, fun e2 h2 => (hE2 e2 h2).step hI hlen, _, rfl⟩
      · obtain ⟨k2, t2, hL2, hM2, hb2, hE2, v10, rfl⟩ := hP
        exact ⟨k2, t2, hL2, hM2.mono fun _ _ z => z.more (by rw [List.length_map]; omega), _, _, _, _, rfl⟩
    obtain ⟨kG, tG, _, _, v4, v10, v15, v16, rfl⟩ := hP
    refine ⟨_, rfl, _, rfl, by show 2 ≤ sizeLine; decide, fun u3 nu3 => ?_⟩
    have s9 := same_upd nu3 (o := .tup [.ref g, .ref tb0])
    have k9 := kG.trans (K47.lk s9)
    have tb9 := tabG_same tG s9
    refine ⟨u3, dGT rs tab, rfl, dgt _ u3 (hg6.lk k9) (htb6.lk k9) upd_same, gD.sh, gd0, gDd, gDl, _, rfl, rfl, _, rfl, ?_⟩
    rw [hkept, decide_eq_true rfl]
    refine iteF ⟨_, rfl, _, rfl, g, tb0, rs, many, tas, tab.map List.length, rfl, hg6.lk k9, vg, hmany, .of (k9.lst htl), wdG _ k9, tb9, fun y => absurd fit y, fun _ => ⟨tab, htb6.lk k9, rfl, pbT, fun HA L2 zs2 kA tbA nL2 hL2 hZ2 => ?_⟩⟩
    rw [hres] at hZ2
    have kA6 := k9.trans kA.1
    refine ⟨.ref du, rfl, dGr res, dGr res, dp_gr ⟨zs2, hL2, hZ2.mono fun _ _ z => z.row⟩, duD _ kA6, shd, shd, _, rfl, ?_⟩
    rw [eqd]
    refine iteF ?_
    -- a table with a row more
    have shP : SeqAt.shaped (.tuple [.bool true, .int 0]) = true := rfl
    have eqP : PyData.eqv (.tuple [.bool true, .int 0]) (.tuple [.bool true, .int 0]) = true := SeqAt.eqv_refl _ (SeqAt.canLay_of_shaped shP)
    have nf_len : ∀ {ls : List Nat}, ls.length ≠ size → ¬ Fits ls (exs rs).length := fun {ls} z y => z (by rw [y.1]; exact hsz)
    have nf_mem : ∀ {ls : List Nat} {l : Nat}, l ∈ ls → l ≠ size → ¬ Fits ls (exs rs).length := fun {ls l} m z y => z (by rw [y.2 l m]; exact hsz)
    have ltas : tas.length = size := by rw [hTA.len]; exact ltab
    refine ⟨_, rfl, _, rfl, _, rfl, (size : Nat), rfl, by omega, by omega, fun C2 nC2 => ?_⟩
    rw [Int.toNat_natCast]
    refine lc_inv (walk_range (lo := 0) (n := size)) (fun i G ys => ys.length = i) nC2 (fun _ _ => trivial) (small' (by omega)) rfl (fun i x G Hx ys hi sm hD hR y Qt Qf qt qf => ?_) (fun HB ys2 sB hC2 hR2 => ?_)
    · obtain ⟨rfl, rfl⟩ := y
      exact ⟨rfl, by show 1 ≤ sizeLine; decide, fun l nl => qt _ _ (same_upd nl) (by rw [List.length_append, hR]; rfl)⟩
    refine ⟨by show 1 ≤ sizeLine; decide, fun l5 nl5 => ?_⟩
    have sB2 := sB.trans (same_upd nl5 (o := .lst [.ref C2]))
    have kB := kA6.trans (K47.lk sB2)
    refine ⟨tb0, l5, _, _, rfl, rfl, kB.lst htl, upd_same, by rw [List.length_map]; exact small (by show _ + 1 ≤ _; omega), fun c6 nc6 => ?_⟩
    have sC := same_upd nc6 (o := .lst (tas.map V.ref ++ [.ref C2]))
    have kC := kB.trans (K47.lk sC)
    have tbC := tabG_same (tabG_same tbA sB2) sC
    refine ⟨g, c6, rs, many, tas ++ [C2], tab.map List.length ++ [size], rfl, hg6.lk kC, vg, hmany, .of (by rw [upd_same, List.map_append]; rfl), A2.snoc ⟨_, .of (sC _ _ (same_upd nl5 _ _ hC2)), hR2⟩ (wdG _ kC), tbC, nf_len (by rw [List.length_append, List.length_map, ltab]; show size + 1 ≠ size; omega), fun HD t7 kD tbD ht7 => ?_⟩
    refine ⟨by show 2 ≤ sizeLine; decide, fun u8 nu8 => ?_⟩
    have sE := same_upd nu8 (o := .tup [.bl true, .int 0])
    refine ⟨.tuple [.bool true, .int 0], .tuple [.bool true, .int 0], .tup (.inl (.inl (sE _ _ ht7))) (.cons (.bl true) (.cons (.int 0) .nil)), .tup (.inl (.inl upd_same)) (.cons (.bl true) (.cons (.int 0) .nil)), shP, shP, _, rfl, ?_⟩
    rw [eqP]
    refine iteF ?_
    have kE := kC.trans (kD.1.trans (K47.lk sE))
    have tbE := tabG_same tbD sE
    refine ⟨_, rfl, rfl, _, rfl, ?_⟩
    refine ite2 (fun _ => q _) (fun hne => ?_)
    have spos : 0 < size := by
      rcases Nat.eq_zero_or_pos size with z | z
      · rw [z] at hne; exact absurd rfl hne
      · exact z
    generalize upd HD u8 (.tup [.bl true, .int 0]) = HE at kE tbE
    refine ⟨_, rfl, _, rfl, d, ds, _, _, rfl, hd6.lk kE, by decide, by omega, fun r9 p9 u9 => ?_⟩
    obtain ⟨m, em, hm⟩ : ∃ m : Nat, r9 = (m : Int) ∧ m < size := ⟨r9.toNat, by omega, by omega⟩
    subst em
    have htE := kE.lst htl
    obtain ⟨row, hrow⟩ := some_at (xs := tab) (i := m) (by omega)
    obtain ⟨ra, hra, ras, hral, hRE⟩ := hTA.get' hrow
    have lrow := (htv row (mem_at hrow)).1
    have lras : ras.length = size := by rw [hRE.len]; exact lrow
    have z1 : ∀ n : Nat, n ≤ 40 → n ≤ sizeLine := fun n h => small (by omega)
    have i1 : ((m : Nat) : Int) + 1 = ((m + 1 : Nat) : Int) := by omega
    -- a row with a column more
    refine ⟨.ref tb0, rfl, _, rfl, _, rfl, tb0, _, rfl, .of htE, fun c1 n1 => ?_⟩
    rw [cut_head (by omega)]
    have q1 := same_upd n1 (o := .lst ((tas.take m).map V.ref))
    refine ⟨.ref tb0, rfl, _, rfl, tb0, _, _, _, rfl, rfl, .of (q1 _ _ htE), atI_nat (by rw [List.getElem?_map, hra]; rfl), by show 0 ≤ sizeLine; decide, fun e1 ne1 => ?_⟩
    have q2 := q1.trans (same_upd ne1 (o := .lst []))
    have c1a := same_upd ne1 (o := .lst []) _ _ (upd_same (H := HE) (a := c1) (o := .lst ((tas.take m).map V.ref)))
    refine ⟨by show 1 ≤ sizeLine; decide, fun e2 ne2 => ?_⟩
    have q3 := q2.trans (same_upd ne2 (o := .lst [.ref e1]))
    have c1b := same_upd ne2 (o := .lst [.ref e1]) _ _ c1a
    refine ⟨ra, e2, _, _, rfl, rfl, q3 _ _ (kE.lst hral), upd_same, by rw [List.length_map]; exact z1 _ (by show _ + 1 ≤ _; omega), fun w1 nw1 => ?_⟩
    have q4 := q3.trans (same_upd nw1 (o := .lst (ras.map V.ref ++ [.ref e1])))
    have c1c := same_upd nw1 (o := .lst (ras.map V.ref ++ [.ref e1])) _ _ c1b
    refine ⟨by show 1 ≤ sizeLine; decide, fun w2 nw2 => ?_⟩
    have q5a := same_upd nw2 (o := .lst [.ref w1])
    have q5 := q4.trans q5a
    refine ⟨c1, w2, _, _, rfl, rfl, q5a _ _ c1c, upd_same, by rw [List.length_map, List.length_take]; exact z1 _ (by show _ + 1 ≤ _; omega), fun c2 nc2 => ?_⟩
    have q6a := same_upd nc2 (o := .lst ((tas.take m).map V.ref ++ [.ref w1]))
    have q6 := q5.trans q6a
    have w1a := q6a _ _ (q5a _ _ (upd_same (H := _) (a := w1) (o := .lst (ras.map V.ref ++ [.ref e1]))))
    refine ⟨.ref tb0, rfl, _, rfl, _, _, rfl, rfl, ((m + 1 : Nat) : Int), congrArg V.int i1, tb0, _, rfl, .of (q6 _ _ htE), fun c3 nc3 => ?_⟩
    rw [cut_tail (by omega)]
    have q7a := same_upd nc3 (o := .lst ((tas.drop (m + 1)).map V.ref))
    have q7 := q6.trans q7a
    refine ⟨c2, c3, _, _, rfl, rfl, q7a _ _ upd_same, upd_same, by rw [List.length_append, List.length_map, List.length_map, List.length_take, List.length_drop]; exact z1 _ (by show _ + 1 + _ ≤ _; omega), fun c4 nc4 => ?_⟩
    have q8a := same_upd nc4 (o := .lst (((tas.take m).map V.ref ++ [.ref w1]) ++ (tas.drop (m + 1)).map V.ref))
    have q8 := q7.trans q8a
    have nf1 : NF K (upd (upd (upd (upd (upd (upd (upd (upd HE c1 (.lst ((tas.take m).map V.ref))) e1 (.lst [])) e2 (.lst [.ref e1])) w1 (.lst (ras.map V.ref ++ [.ref e1]))) w2 (.lst [.ref w1])) c2 (.lst ((tas.take m).map V.ref ++ [.ref w1]))) c3 (.lst ((tas.drop (m + 1)).map V.ref))) c4 (.lst (((tas.take m).map V.ref ++ [.ref w1]) ++ (tas.drop (m + 1)).map V.ref))) (exs rs).length c4 := by
      have wd := wdG _ (kE.trans (K47.lk q8))
      refine ⟨(tas.take m ++ [w1]) ++ tas.drop (m + 1), ((tab.map List.length).take m ++ [size + 1]) ++ (tab.map List.length).drop (m + 1), .of (by rw [upd_same, List.map_append, List.map_append]; rfl), A2.app (A2.app (A2.take m wd) (.cons ⟨_, .of (q8a _ _ (q7a _ _ w1a)), by rw [List.length_append, List.length_map, lras]; rfl⟩ .nil)) (A2.drop (m + 1) wd), nf_mem (l := size + 1) ?_ (by omega)⟩
      exact List.mem_append_left _ (List.mem_append_right _ List.mem_cons_self)
    have kF := kE.trans (K47.lk q8)
    have tbF := tabG_same tbE q8
    clear q1 q2 c1a q3 c1b q4 c1c q5a q5 q6a q6 w1a q7a q7 q8a q8
    generalize upd (upd (upd (upd (upd (upd (upd (upd HE c1 (.lst ((tas.take m).map V.ref))) e1 (.lst [])) e2 (.lst [.ref e1])) w1 (.lst (ras.map V.ref ++ [.ref e1]))) w2 (.lst [.ref w1])) c2 (.lst ((tas.take m).map V.ref ++ [.ref w1]))) c3 (.lst ((tas.drop (m + 1)).map V.ref))) c4 (.lst (((tas.take m).map V.ref ++ [.ref w1]) ++ (tas.drop (m + 1)).map V.ref)) = HF at nf1 kF tbF
    have htF := kF.lst htl
    -- a row with a column fewer
    refine ⟨.ref tb0, rfl, _, rfl, _, rfl, tb0, _, rfl, .of htF, fun d1 n1 => ?_⟩
    rw [cut_head (by omega)]
    have q1 := same_upd n1 (o := .lst ((tas.take m).map V.ref))
    refine ⟨.ref tb0, rfl, _, rfl, tb0, _, _, _, rfl, rfl, .of (q1 _ _ htF), atI_nat (by rw [List.getElem?_map, hra]; rfl), _, rfl, _, rfl, ra, _, rfl, .of (q1 _ _ (kF.lst hral)), fun w3 nw3 => ?_⟩
    rw [cut_last (by omega)]
    have q2a := same_upd nw3 (o := .lst ((ras.take (ras.length - 1)).map V.ref))
    have q2 := q1.trans q2a
    refine ⟨by show 1 ≤ sizeLine; decide, fun w4 nw4 => ?_⟩
    have q3a := same_upd nw4 (o := .lst [.ref w3])
    have q3 := q2.trans q3a
    refine ⟨d1, w4, _, _, rfl, rfl, q3a _ _ (q2a _ _ upd_same), upd_same, by rw [List.length_map, List.length_take]; exact z1 _ (by show _ + 1 ≤ _; omega), fun d2 nd2 => ?_⟩
    have q4a := same_upd nd2 (o := .lst ((tas.take m).map V.ref ++ [.ref w3]))
    have q4 := q3.trans q4a
    have w3a := q4a _ _ (q3a _ _ (upd_same (H := _) (a := w3) (o := .lst ((ras.take (ras.length - 1)).map V.ref))))
    refine ⟨.ref tb0, rfl, _, rfl, _, _, rfl, rfl, ((m + 1 : Nat) : Int), congrArg V.int i1, tb0, _, rfl, .of (q4 _ _ htF), fun d3 nd3 => ?_⟩
    rw [cut_tail (by omega)]
    have q5a := same_upd nd3 (o := .lst ((tas.drop (m + 1)).map V.ref))
    have q5 := q4.trans q5a
    refine ⟨d2, d3, _, _, rfl, rfl, q5a _ _ upd_same, upd_same, by rw [List.length_append, List.length_map, List.length_map, List.length_take, List.length_drop]; exact z1 _ (by show _ + 1 + _ ≤ _; omega), fun d4 nd4 => ?_⟩
    have q6a := same_upd nd4 (o := .lst (((tas.take m).map V.ref ++ [.ref w3]) ++ (tas.drop (m + 1)).map V.ref))
    have q6 := q5.trans q6a
    have nf2 : NF K (upd (upd (upd (upd (upd (upd HF d1 (.lst ((tas.take m).map V.ref))) w3 (.lst ((ras.take (ras.length - 1)).map V.ref))) w4 (.lst [.ref w3])) d2 (.lst ((tas.take m).map V.ref ++ [.ref w3]))) d3 (.lst ((tas.drop (m + 1)).map V.ref))) d4 (.lst (((tas.take m).map V.ref ++ [.ref w3]) ++ (tas.drop (m + 1)).map V.ref))) (exs rs).length d4 := by
      have wd := wdG _ (kF.trans (K47.lk q6))
      refine ⟨(tas.take m ++ [w3]) ++ tas.drop (m + 1), ((tab.map List.length).take m ++ [size - 1]) ++ (tab.map List.length).drop (m + 1), .of (by rw [upd_same, List.map_append, List.map_append]; rfl), A2.app (A2.app (A2.take m wd) (.cons ⟨_, .of (q6a _ _ (q5a _ _ w3a)), by rw [List.length_map, List.length_take, lras]; omega⟩ .nil)) (A2.drop (m + 1) wd), nf_mem (l := size - 1) ?_ (by omega)⟩
      exact List.mem_append_left _ (List.mem_append_right _ List.mem_cons_self)
    have kG2 := kF.trans (K47.lk q6)
    have tbG2 := tabG_same tbF q6
    have nf1b := nf1.lk (K47.lk q6)
    clear q1 q2a q2 q3a q3 q4a q4 w3a q5a q5 q6a q6
    generalize upd (upd (upd (upd (upd (upd HF d1 (.lst ((tas.take m).map V.ref))) w3 (.lst ((ras.take (ras.length - 1)).map V.ref))) w4 (.lst [.ref w3])) d2 (.lst ((tas.take m).map V.ref ++ [.ref w3]))) d3 (.lst ((tas.drop (m + 1)).map V.ref))) d4 (.lst (((tas.take m).map V.ref ++ [.ref w3]) ++ (tas.drop (m + 1)).map V.ref)) = HG at nf1b nf2 kG2 tbG2
    have htG := kG2.lst htl
    -- the four of them
    refine ⟨.ref tb0, rfl, _, rfl, _, rfl, tb0, _, rfl, .of htG, fun o1 no1 => ?_⟩
    rw [cut_last (by omega)]
    have q1 := same_upd no1 (o := .lst ((tas.take (tas.length - 1)).map V.ref))
    refine ⟨_, rfl, _, rfl, by show 0 ≤ sizeLine; decide, fun o4 no4 => ?_⟩
    have q2a := same_upd no4 (o := .lst [])
    have q2 := q1.trans q2a
    refine ⟨by show 4 ≤ sizeLine; decide, fun O nO => ?_⟩
    have q3a := same_upd nO (o := .lst [.ref o1, .ref c4, .ref d4, .ref o4])
    have q3 := q2.trans q3a
    have kH := kG2.trans (K47.lk q3)
    have tbH := tabG_same tbG2 q3
    have hO := upd_same (H := upd (upd HG o1 (.lst ((tas.take (tas.length - 1)).map V.ref))) o4 (.lst [])) (a := O) (o := .lst [.ref o1, .ref c4, .ref d4, .ref o4])
    have nfs : ∀ o ∈ [o1, c4, d4, o4], NF K (upd (upd (upd HG o1 (.lst ((tas.take (tas.length - 1)).map V.ref))) o4 (.lst [])) O (.lst [.ref o1, .ref c4, .ref d4, .ref o4])) (exs rs).length o := by
      intro o ho
      simp only [List.mem_cons, List.not_mem_nil, or_false] at ho
      rcases ho with rfl | rfl | rfl | rfl
      · refine ⟨tas.take (tas.length - 1), (tab.map List.length).take (tas.length - 1), .of (q3a _ _ (q2a _ _ upd_same)), A2.take _ (wdG _ kH), nf_len ?_⟩
        rw [List.length_take, List.length_map, ltab, ltas]; omega
      · exact nf1b.lk (K47.lk q3)
      · exact nf2.lk (K47.lk q3)
      · exact ⟨[], [], .of (q3a _ _ upd_same), .nil, nf_len (by show 0 ≠ size; omega)⟩
    clear q1 q2a q2 q3a q3
    generalize upd (upd (upd HG o1 (.lst ((tas.take (tas.length - 1)).map V.ref))) o4 (.lst [])) O (.lst [.ref o1, .ref c4, .ref d4, .ref o4]) = HH at nfs hO kH tbH
    refine ⟨O, rfl, ⟨_, .of hO⟩, ?_⟩
    refine for_it (walk_list (xs := [o1, c4, d4, o4].map V.ref)) (fun i σ G => Lk HH G ∧ GxR.TabG G P2 ∧ ∃ (v14 : Option V), σ = [some (.ref a), some (.ref d), some (.int (many : Nat)), some (.ref g), v4, some (.int (size : Nat)), some (.ref tb0), some (.str kept), some (.ref du), some (.ref L), v10, some (.int (m : Nat)), some (.ref c4), some (.ref d4), v14, v15, v16]) ⟨.refl, tbH, _, rfl⟩ (fun i σ G _ hP => .of (hP.1.lst hO)) (fun i x σ G Gx hi hP y => ?_) (fun σ G hP => ?_)
    · obtain ⟨kG3, tG3, v14, rfl⟩ := hP
      obtain ⟨rfl, hxi⟩ := y
      obtain ⟨o, ho, rfl⟩ := row_ref hxi
      obtain ⟨as, ls, f1, f2, f3⟩ := (nfs o (mem_at ho)).lk kG3
      refine ⟨_, rfl, _, rfl, g, o, rs, many, as, ls, rfl, hg6.lk (kH.trans kG3), vg, hmany, f1, f2, tG3, f3, fun HI t kI tbI ht => ?_⟩
      refine ⟨by show 2 ≤ sizeLine; decide, fun u nu => ?_⟩
      have sU := same_upd nu (o := .tup [.bl true, .int 0])
      refine ⟨.tuple [.bool true, .int 0], .tuple [.bool true, .int 0], .tup (.inl (.inl (sU _ _ ht))) (.cons (.bl true) (.cons (.int 0) .nil)), .tup (.inl (.inl upd_same)) (.cons (.bl true) (.cons (.int 0) .nil)), shP, shP, _, rfl, ?_⟩
      rw [eqP]
      exact iteF ⟨kG3.trans (kI.1.trans (K47.lk sU)), tabG_same tbI sU, _, rfl⟩
    · obtain ⟨kG3, tG3, v14, rfl⟩ := hP
      have kZ := kH.trans kG3
      refine ⟨_, rfl, _, rfl, g, tb0, rs, many, tas, tab.map List.length, rfl, hg6.lk kZ, vg, hmany, .of (kZ.lst htl), wdG _ kZ, tG3, fun y => absurd fit y, fun _ => ⟨tab, htb6.lk kZ, rfl, pbT, fun HX L3 zs3 kX tbX nL3 hL3 hZ3 => ?_⟩⟩
      rw [hres] at hZ3
      have kW := kZ.trans kX.1
      refine ⟨.ref du, rfl, dGr res, dGr res, dp_gr ⟨zs3, hL3, hZ3.mono fun _ _ z => z.row⟩, duD _ kW, shd, shd, true, congrArg V.bl eqd, iteT ?_⟩
      refine ⟨_, rfl, _, rfl, by show 2 ≤ sizeLine; decide, fun u nu => ?_⟩
      have kV := kW.trans (K47.lk (same_upd nu (o := .tup [.ref g, .ref tb0])))
      refine ⟨u, dGT rs tab, rfl, dgt _ u (hg6.lk kV) (htb6.lk kV) upd_same, gD.sh, gd0, gDd, gDl, _, rfl, rfl, ?_⟩
      rw [hkept, decide_eq_true rfl]
      exact q _
end
section
/-- the facts of the text, from what stands behind the top -/
theorem all_mk {l : PySem.W.OpenLaw} {w : World} {K : PySem.W.Frag} {h : Heap} {mg : Str → Option Value} {fa : Addr} (X : K.In h) (G : h.Ns mainGlobals mg) (hfa : mg "law" = some (.ref fa))
    {f0 : Addr} {od0 an0 : Option Addr} {sl0 : Array (Option Value)} {oc0 kV0 dc0 pm0 cd0 ct0 : Value}
    {f1 : Addr} {od1 an1 : Option Addr} {sl1 : Array (Option Value)} {oc1 kV1 dc1 pm1 cd1 ct1 : Value}
    {f2 : Addr} {od2 an2 : Option Addr} {sl2 : Array (Option Value)} {oc2 kV2 dc2 pm2 cd2 ct2 : Value}
    {f3 : Addr} {od3 an3 : Option Addr} {sl3 : Array (Option Value)} {oc3 kV3 dc3 pm3 cd3 ct3 : Value}
    {f4 : Addr} {od4 an4 : Option Addr} {sl4 : Array (Option Value)} {oc4 kV4 dc4 pm4 cd4 ct4 : Value}
    {f5 : Addr} {od5 an5 : Option Addr} {sl5 : Array (Option Value)} {oc5 kV5 dc5 pm5 cd5 ct5 : Value}
    {f6 : Addr} {od6 an6 : Option Addr} {sl6 : Array (Option Value)} {oc6 kV6 dc6 pm6 cd6 ct6 : Value}
    {f7 : Addr} {od7 an7 : Option Addr} {sl7 : Array (Option Value)} {oc7 kV7 dc7 pm7 cd7 ct7 : Value}
    {f8 : Addr} {od8 an8 : Option Addr} {sl8 : Array (Option Value)} {oc8 kV8 dc8 pm8 cd8 ct8 : Value}
    {f9 : Addr} {od9 an9 : Option Addr} {sl9 : Array (Option Value)} {oc9 kV9 dc9 pm9 cd9 ct9 : Value}
    {f10 : Addr} {od10 an10 : Option Addr} {sl10 : Array (Option Value)} {oc10 kV10 dc10 pm10 cd10 ct10 : Value}
    {f11 : Addr} {od11 an11 : Option Addr} {sl11 : Array (Option Value)} {oc11 kV11 dc11 pm11 cd11 ct11 : Value}
    {f12 C12 P12 : Addr} {od12 an12 td12 : Option Addr} {sl12 tl12 : Array (Option Value)} {tv12 : Array Value} {oc12 kV12 dc12 pm12 ct12 te12 : Value}
    {f13 : Addr} {od13 an13 : Option Addr} {sl13 : Array (Option Value)} {oc13 kV13 dc13 pm13 cd13 ct13 : Value}
    {f14 : Addr} {od14 an14 : Option Addr} {sl14 : Array (Option Value)} {oc14 kV14 dc14 pm14 cd14 ct14 : Value}
    {f15 : Addr} {od15 an15 : Option Addr} {sl15 : Array (Option Value)} {oc15 kV15 dc15 pm15 cd15 ct15 : Value}
    {f16 : Addr} {od16 an16 : Option Addr} {sl16 : Array (Option Value)} {oc16 kV16 dc16 pm16 cd16 ct16 : Value}
    {f17 : Addr} {od17 an17 : Option Addr} {sl17 : Array (Option Value)} {oc17 kV17 dc17 pm17 cd17 ct17 : Value}
    {f18 : Addr} {od18 an18 : Option Addr} {sl18 : Array (Option Value)} {oc18 kV18 dc18 pm18 cd18 ct18 : Value}
    {f19 : Addr} {od19 an19 : Option Addr} {sl19 : Array (Option Value)} {oc19 kV19 dc19 pm19 cd19 ct19 : Value}
    {f20 : Addr} {od20 an20 : Option Addr} {sl20 : Array (Option Value)} {oc20 kV20 dc20 pm20 cd20 ct20 : Value}
    {f21 : Addr} {od21 an21 : Option Addr} {sl21 : Array (Option Value)} {oc21 kV21 dc21 pm21 cd21 ct21 : Value}
    {f22 : Addr} {od22 an22 : Option Addr} {sl22 : Array (Option Value)} {oc22 kV22 dc22 pm22 cd22 ct22 : Value}
    {f23 : Addr} {od23 an23 : Option Addr} {sl23 : Array (Option Value)} {oc23 kV23 dc23 pm23 cd23 ct23 : Value}
    {f24 : Addr} {od24 an24 : Option Addr} {sl24 : Array (Option Value)} {oc24 kV24 dc24 pm24 cd24 ct24 : Value}
    {f25 : Addr} {od25 an25 : Option Addr} {sl25 : Array (Option Value)} {oc25 kV25 dc25 pm25 cd25 ct25 : Value}
    {f26 : Addr} {od26 an26 : Option Addr} {sl26 : Array (Option Value)} {oc26 kV26 dc26 pm26 cd26 ct26 : Value}
    {CM fI : Addr} {odI anI : Option Addr} {slI : Array (Option Value)} {ocI kVI dcI pmI cdI ctI : Value}
    {e0_C e0_N : Addr} {e0_nm e0_q e0_nk : Str} {e0_tk : Tok} {e0_bs : List Value} {e0_sn : List Str} {e0_sub : List Value} {e0_ab : Bool} {e0_col : Option Bool} {e0_dd : Option Addr} {e0_m0 e0_m1 e0_m3 e0_m5 : Option Value}
    (a0 : PySem.W.nsIn K mainGlobals "trimmed" = some (some (.ref f0))) (l0 : K.lookup f0 = some ⟨oc0, od0, .func (PySem.W.fnOf "trimmed" "trimmed" (defArgs s_trimmed) (defBody s_trimmed) (defScope s_trimmed) .none kV0 dc0 pm0 an0 cd0 ct0), sl0⟩) (c0 : PySem.W.codeIn K cd0 "trimmed" = true) (k0 : PySem.W.keepIn K (.ref f0) = true)
    (a1 : PySem.W.nsIn K mainGlobals "plus" = some (some (.ref f1))) (l1 : K.lookup f1 = some ⟨oc1, od1, .func (PySem.W.fnOf "plus" "plus" (defArgs s_plus) (defBody s_plus) (defScope s_plus) .none kV1 dc1 pm1 an1 cd1 ct1), sl1⟩) (c1 : PySem.W.codeIn K cd1 "plus" = true) (k1 : PySem.W.keepIn K (.ref f1) = true)
    (a2 : PySem.W.nsIn K mainGlobals "times" = some (some (.ref f2))) (l2 : K.lookup f2 = some ⟨oc2, od2, .func (PySem.W.fnOf "times" "times" (defArgs s_times) (defBody s_times) (defScope s_times) .none kV2 dc2 pm2 an2 cd2 ct2), sl2⟩) (c2 : PySem.W.codeIn K cd2 "times" = true) (k2 : PySem.W.keepIn K (.ref f2) = true)
    (a3 : PySem.W.nsIn K mainGlobals "_wording" = some (some (.ref f3))) (l3 : K.lookup f3 = some ⟨oc3, od3, .func (PySem.W.fnOf "_wording" "_wording" (defArgs s_wording) (defBody s_wording) (defScope s_wording) .none kV3 dc3 pm3 an3 cd3 ct3), sl3⟩) (c3 : PySem.W.codeIn K cd3 "_wording" = true) (k3 : PySem.W.keepIn K (.ref f3) = true)
    (a4 : PySem.W.nsIn K mainGlobals "_width" = some (some (.ref f4))) (l4 : K.lookup f4 = some ⟨oc4, od4, .func (PySem.W.fnOf "_width" "_width" (defArgs s_width) (defBody s_width) (defScope s_width) .none kV4 dc4 pm4 an4 cd4 ct4), sl4⟩) (c4 : PySem.W.codeIn K cd4 "_width" = true) (k4 : PySem.W.keepIn K (.ref f4) = true)
    (a5 : PySem.W.nsIn K mainGlobals "_cell" = some (some (.ref f5))) (l5 : K.lookup f5 = some ⟨oc5, od5, .func (PySem.W.fnOf "_cell" "_cell" (defArgs s_cell) (defBody s_cell) (defScope s_cell) .none kV5 dc5 pm5 an5 cd5 ct5), sl5⟩) (c5 : PySem.W.codeIn K cd5 "_cell" = true) (k5 : PySem.W.keepIn K (.ref f5) = true)
    (a6 : PySem.W.nsIn K mainGlobals "product" = some (some (.ref f6))) (l6 : K.lookup f6 = some ⟨oc6, od6, .func (PySem.W.fnOf "product" "product" (defArgs s_product) (defBody s_product) (defScope s_product) .none kV6 dc6 pm6 an6 cd6 ct6), sl6⟩) (c6 : PySem.W.codeIn K cd6 "product" = true) (k6 : PySem.W.keepIn K (.ref f6) = true)
    (a7 : PySem.W.nsIn K mainGlobals "is_exact" = some (some (.ref f7))) (l7 : K.lookup f7 = some ⟨oc7, od7, .func (PySem.W.fnOf "is_exact" "is_exact" (defArgs s_is_exact) (defBody s_is_exact) (defScope s_is_exact) .none kV7 dc7 pm7 an7 cd7 ct7), sl7⟩) (c7 : PySem.W.codeIn K cd7 "is_exact" = true) (k7 : PySem.W.keepIn K (.ref f7) = true)
    (a8 : PySem.W.nsIn K mainGlobals "exact_indexes" = some (some (.ref f8))) (l8 : K.lookup f8 = some ⟨oc8, od8, .func (PySem.W.fnOf "exact_indexes" "exact_indexes" (defArgs s_exact_indexes) (defBody s_exact_indexes) (defScope s_exact_indexes) .none kV8 dc8 pm8 an8 cd8 ct8), sl8⟩) (c8 : PySem.W.codeIn K cd8 "exact_indexes" = true) (k8 : PySem.W.keepIn K (.ref f8) = true)
    (a9 : PySem.W.nsIn K mainGlobals "copied" = some (some (.ref f9))) (l9 : K.lookup f9 = some ⟨oc9, od9, .func (PySem.W.fnOf "copied" "copied" (defArgs s_copied) (defBody s_copied) (defScope s_copied) .none kV9 dc9 pm9 an9 cd9 ct9), sl9⟩) (c9 : PySem.W.codeIn K cd9 "copied" = true) (k9 : PySem.W.keepIn K (.ref f9) = true)
    (a10 : PySem.W.nsIn K mainGlobals "with_exact" = some (some (.ref f10))) (l10 : K.lookup f10 = some ⟨oc10, od10, .func (PySem.W.fnOf "with_exact" "with_exact" (defArgs s_with_exact) (defBody s_with_exact) (defScope s_with_exact) .none kV10 dc10 pm10 an10 cd10 ct10), sl10⟩) (c10 : PySem.W.codeIn K cd10 "with_exact" = true) (k10 : PySem.W.keepIn K (.ref f10) = true)
    (a11 : PySem.W.nsIn K mainGlobals "exact_rows" = some (some (.ref f11))) (l11 : K.lookup f11 = some ⟨oc11, od11, .func (PySem.W.fnOf "exact_rows" "exact_rows" (defArgs s_exact_rows) (defBody s_exact_rows) (defScope s_exact_rows) .none kV11 dc11 pm11 an11 cd11 ct11), sl11⟩) (c11 : PySem.W.codeIn K cd11 "exact_rows" = true) (k11 : PySem.W.keepIn K (.ref f11) = true)
    (a12 : PySem.W.nsIn K mainGlobals "changed" = some (some (.ref f12))) (l12 : K.lookup f12 = some ⟨oc12, od12, .func (PySem.W.fnOf "changed" "changed" (defArgs s_changed) (defBody s_changed) (defScope s_changed) .none kV12 dc12 pm12 an12 (.ref C12) ct12), sl12⟩) (c12 : PySem.W.codeIn K (.ref C12) "changed" = true) (k12 : PySem.W.keepIn K (.ref f12) = true)
    (t12 : K.lookup C12 = some ⟨te12, td12, .fields tv12, tl12⟩) (p12 : tv12[11]? = some (.ref P12)) (n12 : K.lookup P12 = none)
    (a13 : PySem.W.nsIn K mainGlobals "_law_draws" = some (some (.ref f13))) (l13 : K.lookup f13 = some ⟨oc13, od13, .func (PySem.W.fnOf "_law_draws" "_law_draws" (defArgs s_law_draws) (defBody s_law_draws) (defScope s_law_draws) .none kV13 dc13 pm13 an13 cd13 ct13), sl13⟩) (c13 : PySem.W.codeIn K cd13 "_law_draws" = true) (k13 : PySem.W.keepIn K (.ref f13) = true)
    (a14 : PySem.W.nsIn K mainGlobals "_law_mix" = some (some (.ref f14))) (l14 : K.lookup f14 = some ⟨oc14, od14, .func (PySem.W.fnOf "_law_mix" "_law_mix" (defArgs s_law_mix) (defBody s_law_mix) (defScope s_law_mix) .none kV14 dc14 pm14 an14 cd14 ct14), sl14⟩) (c14 : PySem.W.codeIn K cd14 "_law_mix" = true) (k14 : PySem.W.keepIn K (.ref f14) = true)
    (a15 : PySem.W.nsIn K mainGlobals "_law_trimmed" = some (some (.ref f15))) (l15 : K.lookup f15 = some ⟨oc15, od15, .func (PySem.W.fnOf "_law_trimmed" "_law_trimmed" (defArgs s_law_trimmed) (defBody s_law_trimmed) (defScope s_law_trimmed) .none kV15 dc15 pm15 an15 cd15 ct15), sl15⟩) (c15 : PySem.W.codeIn K cd15 "_law_trimmed" = true) (k15 : PySem.W.keepIn K (.ref f15) = true)
    (a16 : PySem.W.nsIn K mainGlobals "_law_plus" = some (some (.ref f16))) (l16 : K.lookup f16 = some ⟨oc16, od16, .func (PySem.W.fnOf "_law_plus" "_law_plus" (defArgs s_law_plus) (defBody s_law_plus) (defScope s_law_plus) .none kV16 dc16 pm16 an16 cd16 ct16), sl16⟩) (c16 : PySem.W.codeIn K cd16 "_law_plus" = true) (k16 : PySem.W.keepIn K (.ref f16) = true)
    (a17 : PySem.W.nsIn K mainGlobals "_law_times" = some (some (.ref f17))) (l17 : K.lookup f17 = some ⟨oc17, od17, .func (PySem.W.fnOf "_law_times" "_law_times" (defArgs s_law_times) (defBody s_law_times) (defScope s_law_times) .none kV17 dc17 pm17 an17 cd17 ct17), sl17⟩) (c17 : PySem.W.codeIn K cd17 "_law_times" = true) (k17 : PySem.W.keepIn K (.ref f17) = true)
    (a18 : PySem.W.nsIn K mainGlobals "_law_number" = some (some (.ref f18))) (l18 : K.lookup f18 = some ⟨oc18, od18, .func (PySem.W.fnOf "_law_number" "_law_number" (defArgs s_law_number) (defBody s_law_number) (defScope s_law_number) .none kV18 dc18 pm18 an18 cd18 ct18), sl18⟩) (c18 : PySem.W.codeIn K cd18 "_law_number" = true) (k18 : PySem.W.keepIn K (.ref f18) = true)
    (a19 : PySem.W.nsIn K mainGlobals "_law_element" = some (some (.ref f19))) (l19 : K.lookup f19 = some ⟨oc19, od19, .func (PySem.W.fnOf "_law_element" "_law_element" (defArgs s_law_element) (defBody s_law_element) (defScope s_law_element) .none kV19 dc19 pm19 an19 cd19 ct19), sl19⟩) (c19 : PySem.W.codeIn K cd19 "_law_element" = true) (k19 : PySem.W.keepIn K (.ref f19) = true)
    (a20 : PySem.W.nsIn K mainGlobals "_law_likely" = some (some (.ref f20))) (l20 : K.lookup f20 = some ⟨oc20, od20, .func (PySem.W.fnOf "_law_likely" "_law_likely" (defArgs s_law_likely) (defBody s_law_likely) (defScope s_law_likely) .none kV20 dc20 pm20 an20 cd20 ct20), sl20⟩) (c20 : PySem.W.codeIn K cd20 "_law_likely" = true) (k20 : PySem.W.keepIn K (.ref f20) = true)
    (a21 : PySem.W.nsIn K mainGlobals "_law_orders" = some (some (.ref f21))) (l21 : K.lookup f21 = some ⟨oc21, od21, .func (PySem.W.fnOf "_law_orders" "_law_orders" (defArgs s_law_orders) (defBody s_law_orders) (defScope s_law_orders) .none kV21 dc21 pm21 an21 cd21 ct21), sl21⟩) (c21 : PySem.W.codeIn K cd21 "_law_orders" = true) (k21 : PySem.W.keepIn K (.ref f21) = true)
    (a22 : PySem.W.nsIn K mainGlobals "_law_grid" = some (some (.ref f22))) (l22 : K.lookup f22 = some ⟨oc22, od22, .func (PySem.W.fnOf "_law_grid" "_law_grid" (defArgs s_law_grid) (defBody s_law_grid) (defScope s_law_grid) .none kV22 dc22 pm22 an22 cd22 ct22), sl22⟩) (c22 : PySem.W.codeIn K cd22 "_law_grid" = true) (k22 : PySem.W.keepIn K (.ref f22) = true)
    (a23 : PySem.W.nsIn K mainGlobals "_law_table" = some (some (.ref f23))) (l23 : K.lookup f23 = some ⟨oc23, od23, .func (PySem.W.fnOf "_law_table" "_law_table" (defArgs s_law_table) (defBody s_law_table) (defScope s_law_table) .none kV23 dc23 pm23 an23 cd23 ct23), sl23⟩) (c23 : PySem.W.codeIn K cd23 "_law_table" = true) (k23 : PySem.W.keepIn K (.ref f23) = true)
    (a24 : PySem.W.nsIn K mainGlobals "_law_due" = some (some (.ref f24))) (l24 : K.lookup f24 = some ⟨oc24, od24, .func (PySem.W.fnOf "_law_due" "_law_due" (defArgs s_law_due) (defBody s_law_due) (defScope s_law_due) .none kV24 dc24 pm24 an24 cd24 ct24), sl24⟩) (c24 : PySem.W.codeIn K cd24 "_law_due" = true) (k24 : PySem.W.keepIn K (.ref f24) = true)
    (a25 : PySem.W.nsIn K mainGlobals "_law_refused" = some (some (.ref f25))) (l25 : K.lookup f25 = some ⟨oc25, od25, .func (PySem.W.fnOf "_law_refused" "_law_refused" (defArgs s_law_refused) (defBody s_law_refused) (defScope s_law_refused) .none kV25 dc25 pm25 an25 cd25 ct25), sl25⟩) (c25 : PySem.W.codeIn K cd25 "_law_refused" = true) (k25 : PySem.W.keepIn K (.ref f25) = true)
    (a26 : PySem.W.nsIn K mainGlobals "law" = some (some (.ref f26))) (l26 : K.lookup f26 = some ⟨oc26, od26, .func (PySem.W.fnOf "law" "law" (defArgs s_law) (defBody s_law) (defScope s_law) .none kV26 dc26 pm26 an26 cd26 ct26), sl26⟩) (c26 : PySem.W.codeIn K cd26 "law" = true) (k26 : PySem.W.keepIn K (.ref f26) = true)
    (z_abs : PySem.W.nsIn K mainGlobals "abs" = some none)
    (z_all : PySem.W.nsIn K mainGlobals "all" = some none)
    (z_enumerate : PySem.W.nsIn K mainGlobals "enumerate" = some none)
    (z_int : PySem.W.nsIn K mainGlobals "int" = some none)
    (z_isinstance : PySem.W.nsIn K mainGlobals "isinstance" = some none)
    (z_len : PySem.W.nsIn K mainGlobals "len" = some none)
    (z_list : PySem.W.nsIn K mainGlobals "list" = some none)
    (z_max : PySem.W.nsIn K mainGlobals "max" = some none)
    (z_min : PySem.W.nsIn K mainGlobals "min" = some none)
    (z_range : PySem.W.nsIn K mainGlobals "range" = some none)
    (z_repr : PySem.W.nsIn K mainGlobals "repr" = some none)
    (z_set : PySem.W.nsIn K mainGlobals "set" = some none)
    (z_sorted : PySem.W.nsIn K mainGlobals "sorted" = some none)
    (z_sum : PySem.W.nsIn K mainGlobals "sum" = some none)
    (z_tuple : PySem.W.nsIn K mainGlobals "tuple" = some none)
    (z_zip : PySem.W.nsIn K mainGlobals "zip" = some none)
    (aM : PySem.W.nsIn K mainGlobals "ModelError" = some (some (.ref CM)))
    (zV : PySem.W.nsIn K mainGlobals "ValueError" = some none)
    (vV : PySem.W.findCls K (.type "ValueError") (.type "type") "__init__" = some (.val (.builtin "ValueError.__init__")))
    (iM : PySem.W.isClsIn K CM = true)
    (tM : PySem.W.typeIn K (.ref CM) = some (.type "type"))
    (bM : PySem.W.subIn K (.ref CM) (.type "BaseException") = some true)
    (iI : PySem.W.findIn K (.ref CM) "__init__" = some (some (.ref fI)))
    (lI : K.lookup fI = some ⟨ocI, odI, .func (PySem.W.fnOf "__init__" "ModelError.__init__" (defArgs s_init) (defBody s_init) (defScope s_init) .none kVI dcI pmI anI cdI ctI), slI⟩)
    (cI : PySem.W.codeIn K cdI "ModelError.__init__" = true)
    (kI : PySem.W.keepIn K (.ref fI) = true)
    (tI : PySem.W.typeIn K (.ref fI) = some (.type "function"))
    (xsp : PySem.W.specialIn K (.builtin "object.__class__") "__get__" = some (some (.builtin "getset_descriptor.__get__")))
    (xtk : PySem.W.takesIn K (.builtin "object.__class__") = some true)
    (e0_a : PySem.W.nsIn K mainGlobals "WrongSize" = some (some (.ref e0_C)))
    (e0_x : K.lookup e0_C = some (excClassObj e0_nm e0_q e0_C e0_N e0_bs [.ref CM, .type "ValueError", .type "Exception", .type "BaseException", .type "object"] true e0_sn e0_sub e0_ab e0_col e0_dd e0_m0 e0_m1 (some (.str e0_nk e0_tk)) e0_m3 e0_m5 "ValueError.__new__"))
    (e0_sz : e0_nk.length ≤ 1000)
    (e0_sa : PySem.W.findIn K (.ref e0_C) "__setattr__" = some (some (.builtin "object.__setattr__")))
    (e0_ga : PySem.W.findIn K (.ref e0_C) "__getattribute__" = some (some (.builtin "BaseException.__getattribute__")))
    (e0_gg : PySem.W.findIn K (.ref e0_C) "__getattr__" = some none)
    (e0_no : PySem.W.findIn K (.ref e0_C) "at" = some none)
    (e0_in : PySem.W.findIn K (.ref e0_C) "__init__" = some (some (.ref fI)))
    (e0_be : PySem.W.subIn K (.ref e0_C) (.type "BaseException") = some true)
    (e0_ty : PySem.W.typeIn K (.ref e0_C) = some (.type "type"))
    (e0_ke : PySem.W.keepIn K (.ref e0_C) = true)
    (e0_hd : PySem.W.hasDictIn K e0_C = true)
    (e0_cl : PySem.W.isClsIn K e0_C = true)
    (e0_at : PySem.W.findIn K (.ref e0_C) "__class__" = some (some (.builtin "object.__class__")))
    (e0_mr : PySem.W.mroIn K e0_C (.type "object") = some true)
    (e0_rd : PySem.W.readsIn K e0_C (.type "type") = true)
    (e0_fc : PySem.W.findCls K (.ref e0_C) (.type "type") "__name__" = some (.get (.builtin "getset_descriptor.__get__") (.builtin "type.__name__") (.ref e0_C) (.type "type")))
    (e0_sM : PySem.W.subIn K (.ref e0_C) (.ref CM) = some true)
    (bare : ∀ nm ∈ (["changed"] : List Str), LG.Bare mg h nm)
    : ∃ (fd : FuncData) (cs : List (Addr × Addr)) (sp : Sp), (∀ p ∈ cs, h.get? p.2 = some { cls := .none, data := .fields #[] }) ∧ (∀ p ∈ cs, K.lookup p.2 = none) ∧ (∀ p ∈ cs, PySem.W.CodeHd h p.1 p.2) ∧ (∀ (s : Shared) (u : Value), BindsTo s fd ⟨[u], []⟩ [("script", u)]) ∧
        (∀ (H : Hp) (a : Addr) (ns : List Int), ns.length ≤ 63 → (∀ p ∈ cs, H p.2 = some (.tbl #[])) → SqL K H a (ns.map V.int) → sp [.ref a] H (fun v _ => v = .bl true) fun _ _ _ => False) ∧
        ∀ base : Heap, K.In base → base.Ns mainGlobals mg → (∀ p ∈ cs, GxR.TabB base mg p.1 p.2) → LG.FnG l.prog w K mg base CX0 8 fa fd ["script"] sp := by
  have b12 : h.get? P12 = some { cls := .none, data := .fields #[] } ∧ PySem.W.CodeHd h C12 P12 := by
    obtain ⟨b, c, Q, o, fd, m1, m2, m3, m4, m5, m6⟩ := bare "changed" (by simp)
    cases m1.symm.trans (PySem.W.mg_of X G a12)
    cases m2.symm.trans (X _ _ l12)
    cases m3
    cases m4
    have m5c := m5
    obtain ⟨o2, vs, _, _, _, _, _, _, _, e1, _, e3, e4, _⟩ := m5c
    cases e1.symm.trans (X _ _ t12)
    cases e3
    cases e4.symm.trans p12
    exact ⟨m6, m5⟩
  have e := hfa.symm.trans (PySem.W.mg_of X G a26)
  cases e
  let T : Txt K mg := {
    trimmed := ⟨_, _, fun_mk (st := s_trimmed) l0 c0 k0, (fun_mk (st := s_trimmed) l0 c0 k0).binds (ps := ["numbers"]) (fun _ _ _ _ _ _ us hl => match us, hl with | [_], _ => rfl), PySem.W.mg_of X G a0⟩
    plus := ⟨_, _, fun_mk (st := s_plus) l1 c1 k1, (fun_mk (st := s_plus) l1 c1 k1).binds (ps := ["one", "two"]) (fun _ _ _ _ _ _ us hl => match us, hl with | [_, _], _ => rfl), PySem.W.mg_of X G a1⟩
    times := ⟨_, _, fun_mk (st := s_times) l2 c2 k2, (fun_mk (st := s_times) l2 c2 k2).binds (ps := ["one", "two"]) (fun _ _ _ _ _ _ us hl => match us, hl with | [_, _], _ => rfl), PySem.W.mg_of X G a2⟩
    wording := ⟨_, _, fun_mk (st := s_wording) l3 c3 k3, (fun_mk (st := s_wording) l3 c3 k3).binds (ps := ["name", "at"]) (fun _ _ _ _ _ _ us hl => match us, hl with | [_, _], _ => rfl), PySem.W.mg_of X G a3⟩
    width := ⟨_, _, fun_mk (st := s_width) l4 c4 k4, (fun_mk (st := s_width) l4 c4 k4).binds (ps := ["table"]) (fun _ _ _ _ _ _ us hl => match us, hl with | [_], _ => rfl), PySem.W.mg_of X G a4⟩
    cell := ⟨_, _, fun_mk (st := s_cell) l5 c5 k5, (fun_mk (st := s_cell) l5 c5 k5).binds (ps := ["row", "two", "j"]) (fun _ _ _ _ _ _ us hl => match us, hl with | [_, _, _], _ => rfl), PySem.W.mg_of X G a5⟩
    product := ⟨_, _, fun_mk (st := s_product) l6 c6 k6, (fun_mk (st := s_product) l6 c6 k6).binds (ps := ["one", "two"]) (fun _ _ _ _ _ _ us hl => match us, hl with | [_, _], _ => rfl), PySem.W.mg_of X G a6⟩
    is_exact := ⟨_, _, fun_mk (st := s_is_exact) l7 c7 k7, (fun_mk (st := s_is_exact) l7 c7 k7).binds (ps := ["told"]) (fun _ _ _ _ _ _ us hl => match us, hl with | [_], _ => rfl), PySem.W.mg_of X G a7⟩
    exact_indexes := ⟨_, _, fun_mk (st := s_exact_indexes) l8 c8 k8, (fun_mk (st := s_exact_indexes) l8 c8 k8).binds (ps := ["grid"]) (fun _ _ _ _ _ _ us hl => match us, hl with | [_], _ => rfl), PySem.W.mg_of X G a8⟩
    copied := ⟨_, _, fun_mk (st := s_copied) l9 c9 k9, (fun_mk (st := s_copied) l9 c9 k9).binds (ps := ["told"]) (fun _ _ _ _ _ _ us hl => match us, hl with | [_], _ => rfl), PySem.W.mg_of X G a9⟩
    with_exact := ⟨_, _, fun_mk (st := s_with_exact) l10 c10 k10, (fun_mk (st := s_with_exact) l10 c10 k10).binds (ps := ["grid", "table"]) (fun _ _ _ _ _ _ us hl => match us, hl with | [_, _], _ => rfl), PySem.W.mg_of X G a10⟩
    exact_rows := ⟨_, _, fun_mk (st := s_exact_rows) l11 c11 k11, (fun_mk (st := s_exact_rows) l11 c11 k11).binds (ps := ["grid"]) (fun _ _ _ _ _ _ us hl => match us, hl with | [_], _ => rfl), PySem.W.mg_of X G a11⟩
    changed := ⟨_, C12, _, ⟨_, _, _, _, _, _, _, _, _, rfl, l12, c12⟩, k12, (fun_mk (st := s_changed) l12 c12 k12).binds (ps := ["grid", "changes"]) (fun _ _ _ _ _ _ us hl => match us, hl with | [_, _], _ => rfl), PySem.W.mg_of X G a12⟩
    law_draws := ⟨_, _, fun_mk (st := s_law_draws) l13 c13 k13, (fun_mk (st := s_law_draws) l13 c13 k13).binds (ps := ["script"]) (fun _ _ _ _ _ _ us hl => match us, hl with | [_], _ => rfl), PySem.W.mg_of X G a13⟩
    law_mix := ⟨_, _, fun_mk (st := s_law_mix) l14 c14 k14, (fun_mk (st := s_law_mix) l14 c14 k14).binds (ps := ["draws", "k", "many"]) (fun _ _ _ _ _ _ us hl => match us, hl with | [_, _, _], _ => rfl), PySem.W.mg_of X G a14⟩
    law_trimmed := ⟨_, _, fun_mk (st := s_law_trimmed) l15 c15 k15, (fun_mk (st := s_law_trimmed) l15 c15 k15).binds (ps := ["numbers"]) (fun _ _ _ _ _ _ us hl => match us, hl with | [_], _ => rfl), PySem.W.mg_of X G a15⟩
    law_plus := ⟨_, _, fun_mk (st := s_law_plus) l16 c16 k16, (fun_mk (st := s_law_plus) l16 c16 k16).binds (ps := ["one", "two"]) (fun _ _ _ _ _ _ us hl => match us, hl with | [_, _], _ => rfl), PySem.W.mg_of X G a16⟩
    law_times := ⟨_, _, fun_mk (st := s_law_times) l17 c17 k17, (fun_mk (st := s_law_times) l17 c17 k17).binds (ps := ["one", "two"]) (fun _ _ _ _ _ _ us hl => match us, hl with | [_, _], _ => rfl), PySem.W.mg_of X G a17⟩
    law_number := ⟨_, _, fun_mk (st := s_law_number) l18 c18 k18, (fun_mk (st := s_law_number) l18 c18 k18).binds (ps := ["draws", "k"]) (fun _ _ _ _ _ _ us hl => match us, hl with | [_, _], _ => rfl), PySem.W.mg_of X G a18⟩
    law_element := ⟨_, _, fun_mk (st := s_law_element) l19 c19 k19, (fun_mk (st := s_law_element) l19 c19 k19).binds (ps := ["draws", "k", "shares"]) (fun _ _ _ _ _ _ us hl => match us, hl with | [_, _, _], _ => rfl), PySem.W.mg_of X G a19⟩
    law_likely := ⟨_, _, fun_mk (st := s_law_likely) l20 c20 k20, (fun_mk (st := s_law_likely) l20 c20 k20).binds (ps := ["draws", "k", "row"]) (fun _ _ _ _ _ _ us hl => match us, hl with | [_, _, _], _ => rfl), PySem.W.mg_of X G a20⟩
    law_orders := ⟨_, _, fun_mk (st := s_law_orders) l21 c21 k21, (fun_mk (st := s_law_orders) l21 c21 k21).binds (ps := ["draws", "k", "shares"]) (fun _ _ _ _ _ _ us hl => match us, hl with | [_, _, _], _ => rfl), PySem.W.mg_of X G a21⟩
    law_grid := ⟨_, _, fun_mk (st := s_law_grid) l22 c22 k22, (fun_mk (st := s_law_grid) l22 c22 k22).binds (ps := ["draws", "k", "many"]) (fun _ _ _ _ _ _ us hl => match us, hl with | [_, _, _], _ => rfl), PySem.W.mg_of X G a22⟩
    law_table := ⟨_, _, fun_mk (st := s_law_table) l23 c23 k23, (fun_mk (st := s_law_table) l23 c23 k23).binds (ps := ["draws", "k", "many"]) (fun _ _ _ _ _ _ us hl => match us, hl with | [_, _, _], _ => rfl), PySem.W.mg_of X G a23⟩
    law_due := ⟨_, _, fun_mk (st := s_law_due) l24 c24 k24, (fun_mk (st := s_law_due) l24 c24 k24).binds (ps := ["grid", "table"]) (fun _ _ _ _ _ _ us hl => match us, hl with | [_, _], _ => rfl), PySem.W.mg_of X G a24⟩
    law_refused := ⟨_, _, fun_mk (st := s_law_refused) l25 c25 k25, (fun_mk (st := s_law_refused) l25 c25 k25).binds (ps := ["grid", "table"]) (fun _ _ _ _ _ _ us hl => match us, hl with | [_, _], _ => rfl), PySem.W.mg_of X G a25⟩
    law := ⟨_, _, fun_mk (st := s_law) l26 c26 k26, (fun_mk (st := s_law) l26 c26 k26).binds (ps := ["script"]) (fun _ _ _ _ _ _ us hl => match us, hl with | [_], _ => rfl), PySem.W.mg_of X G a26⟩
    m_abs := PySem.W.mg_none_of X G z_abs
    m_all := PySem.W.mg_none_of X G z_all
    m_enumerate := PySem.W.mg_none_of X G z_enumerate
    m_int := PySem.W.mg_none_of X G z_int
    m_isinstance := PySem.W.mg_none_of X G z_isinstance
    m_len := PySem.W.mg_none_of X G z_len
    m_list := PySem.W.mg_none_of X G z_list
    m_max := PySem.W.mg_none_of X G z_max
    m_min := PySem.W.mg_none_of X G z_min
    m_range := PySem.W.mg_none_of X G z_range
    m_repr := PySem.W.mg_none_of X G z_repr
    m_set := PySem.W.mg_none_of X G z_set
    m_sorted := PySem.W.mg_none_of X G z_sorted
    m_sum := PySem.W.mg_none_of X G z_sum
    m_tuple := PySem.W.mg_none_of X G z_tuple
    m_zip := PySem.W.mg_none_of X G z_zip
  }
  let E : Errs K mg := {
    e0 := ⟨CM, fI, _, fun_mk (st := s_init) lI cI kI, (fun_mk (st := s_init) lI cI kI).binds (ps := ["self", "at"]) (fun _ _ _ _ _ _ us hl => match us, hl with | [_, _], _ => rfl), tI, PySem.W.mg_of X G aM, PySem.W.mg_none_of X G zV, vV⟩
    WrongSize := { C := e0_C, nm := e0_nk, named := ⟨⟨e0_cl, e0_ga, e0_gg, e0_be, e0_at, xsp, xtk, e0_mr⟩, e0_rd, e0_fc, e0_ty, ⟨_, _, e0_x, rfl⟩, e0_sz⟩, oex := ⟨⟨_, _, _, _, _, _, _, _, _, _, _, _, _, _, _, e0_x, LX.refs_one _⟩, e0_sa, e0_be, e0_ty, e0_ke⟩, noAt := e0_no, iC := e0_in, g := PySem.W.mg_of X G e0_a, exm := LX.exm_is bM iM tM e0_sM, kit := LX.kit_self _ _, xf := ⟨e0_ga, e0_gg, e0_be, e0_hd⟩ }
  }
  refine ⟨PySem.W.fnOf "law" "law" (defArgs s_law) (defBody s_law) (defScope s_law) .none kV26 dc26 pm26 an26 cd26 ct26, [(C12, P12)], sp_law K P12, ?_, ?_, ?_, fun s v => .of_eq rfl, fun H a ns hl ht hS => ?_, fun base _ _ tb => ok_law T E (tb (C12, P12) (by simp))⟩
  · intro p hp; simp only [List.mem_cons, List.not_mem_nil, or_false] at hp; subst hp
    · exact b12.1
  · intro p hp; simp only [List.mem_cons, List.not_mem_nil, or_false] at hp; subst hp
    · exact n12
  · intro p hp; simp only [List.mem_cons, List.not_mem_nil, or_false] at hp; subst hp
    · exact b12.2
  · exact ⟨a, ns, rfl, hS, hl, ⟨#[], ht (C12, P12) (by simp), trivial⟩, fun _ => rfl⟩
end
end K47

open PySem PySem.W PyProof.Rows in
set_option maxRecDepth 100000 in
set_option maxHeartbeats 0 in
theorem PySem.Challenge.cw_unsaidsizes_k47_grids_changed_holds : PySem.Challenge.rw_unsaidsizes_k47_grids_changed.Holds := by
  w_on; o_law; k_head; (case hw => w_witness2)
  k_fill
  refine LG.walkGT (l := PySem.Challenge.rw_unsaidsizes_k47_grids_changed) (n := 63) (k := 8) (x := "script") ["changed"] rfl (by decide) rfl ⟨rfl, by decide, by decide⟩ (by kernel_rfl) (fun w h Y => PySem.W.kIn_of Y) ?F
  case F =>
    intro w mg fa h KX G hmg bare
    refine' K47.all_mk KX G hmg ?a0 ?l0 ?c0 ?k0 ?a1 ?l1 ?c1 ?k1 ?a2 ?l2 ?c2 ?k2 ?a3 ?l3 ?c3 ?k3 ?a4 ?l4 ?c4 ?k4 ?a5 ?l5 ?c5 ?k5 ?a6 ?l6 ?c6 ?k6 ?a7 ?l7 ?c7 ?k7 ?a8 ?l8 ?c8 ?k8 ?a9 ?l9 ?c9 ?k9 ?a10 ?l10 ?c10 ?k10 ?a11 ?l11 ?c11 ?k11 ?a12 ?l12 ?c12 ?k12 ?t12 ?p12 ?n12 ?a13 ?l13 ?c13 ?k13 ?a14 ?l14 ?c14 ?k14 ?a15 ?l15 ?c15 ?k15 ?a16 ?l16 ?c16 ?k16 ?a17 ?l17 ?c17 ?k17 ?a18 ?l18 ?c18 ?k18 ?a19 ?l19 ?c19 ?k19 ?a20 ?l20 ?c20 ?k20 ?a21 ?l21 ?c21 ?k21 ?a22 ?l22 ?c22 ?k22 ?a23 ?l23 ?c23 ?k23 ?a24 ?l24 ?c24 ?k24 ?a25 ?l25 ?c25 ?k25 ?a26 ?l26 ?c26 ?k26 ?z_abs ?z_all ?z_enumerate ?z_int ?z_isinstance ?z_len ?z_list ?z_max ?z_min ?z_range ?z_repr ?z_set ?z_sorted ?z_sum ?z_tuple ?z_zip ?aM ?zV ?vV ?iM ?tM ?bM ?iI ?lI ?cI ?kI ?tI ?xsp ?xtk ?e0_a ?e0_x ?e0_sz ?e0_sa ?e0_ga ?e0_gg ?e0_no ?e0_in ?e0_be ?e0_ty ?e0_ke ?e0_hd ?e0_cl ?e0_at ?e0_mr ?e0_rd ?e0_fc ?e0_sM bare
    (case a0 => k_is)
    (case l0 => k_is)
    (case c0 => k_is)
    (case k0 => k_is)
    (case a1 => k_is)
    (case l1 => k_is)
    (case c1 => k_is)
    (case k1 => k_is)
    (case a2 => k_is)
    (case l2 => k_is)
    (case c2 => k_is)
    (case k2 => k_is)
    (case a3 => k_is)
    (case l3 => k_is)
    (case c3 => k_is)
    (case k3 => k_is)
    (case a4 => k_is)
    (case l4 => k_is)
    (case c4 => k_is)
    (case k4 => k_is)
    (case a5 => k_is)
    (case l5 => k_is)
    (case c5 => k_is)
    (case k5 => k_is)
    (case a6 => k_is)
    (case l6 => k_is)
    (case c6 => k_is)
    (case k6 => k_is)
    (case a7 => k_is)
    (case l7 => k_is)
    (case c7 => k_is)
    (case k7 => k_is)
    (case a8 => k_is)
    (case l8 => k_is)
    (case c8 => k_is)
    (case k8 => k_is)
    (case a9 => k_is)
    (case l9 => k_is)
    (case c9 => k_is)
    (case k9 => k_is)
    (case a10 => k_is)
    (case l10 => k_is)
    (case c10 => k_is)
    (case k10 => k_is)
    (case a11 => k_is)
    (case l11 => k_is)
    (case c11 => k_is)
    (case k11 => k_is)
    (case a12 => k_is)
    (case l12 => k_is)
    (case c12 => k_is)
    (case k12 => k_is)
    (case t12 => k_is)
    (case p12 => rfl)
    (case n12 => first | kernel_rfl | rfl)
    (case a13 => k_is)
    (case l13 => k_is)
    (case c13 => k_is)
    (case k13 => k_is)
    (case a14 => k_is)
    (case l14 => k_is)
    (case c14 => k_is)
    (case k14 => k_is)
    (case a15 => k_is)
    (case l15 => k_is)
    (case c15 => k_is)
    (case k15 => k_is)
    (case a16 => k_is)
    (case l16 => k_is)
    (case c16 => k_is)
    (case k16 => k_is)
    (case a17 => k_is)
    (case l17 => k_is)
    (case c17 => k_is)
    (case k17 => k_is)
    (case a18 => k_is)
    (case l18 => k_is)
    (case c18 => k_is)
    (case k18 => k_is)
    (case a19 => k_is)
    (case l19 => k_is)
    (case c19 => k_is)
    (case k19 => k_is)
    (case a20 => k_is)
    (case l20 => k_is)
    (case c20 => k_is)
    (case k20 => k_is)
    (case a21 => k_is)
    (case l21 => k_is)
    (case c21 => k_is)
    (case k21 => k_is)
    (case a22 => k_is)
    (case l22 => k_is)
    (case c22 => k_is)
    (case k22 => k_is)
    (case a23 => k_is)
    (case l23 => k_is)
    (case c23 => k_is)
    (case k23 => k_is)
    (case a24 => k_is)
    (case l24 => k_is)
    (case c24 => k_is)
    (case k24 => k_is)
    (case a25 => k_is)
    (case l25 => k_is)
    (case c25 => k_is)
    (case k25 => k_is)
    (case a26 => k_is)
    (case l26 => k_is)
    (case c26 => k_is)
    (case k26 => k_is)
    (case z_abs => k_is)
    (case z_all => k_is)
    (case z_enumerate => k_is)
    (case z_int => k_is)
    (case z_isinstance => k_is)
    (case z_len => k_is)
    (case z_list => k_is)
    (case z_max => k_is)
    (case z_min => k_is)
    (case z_range => k_is)
    (case z_repr => k_is)
    (case z_set => k_is)
    (case z_sorted => k_is)
    (case z_sum => k_is)
    (case z_tuple => k_is)
    (case z_zip => k_is)
    (case aM => k_is)
    (case zV => k_is)
    (case vV => k_is)
    (case iM => k_is)
    (case tM => k_is)
    (case bM => k_is)
    (case iI => k_is)
    (case lI => k_is)
    (case cI => k_is)
    (case kI => k_is)
    (case tI => k_is)
    (case xsp => k_is)
    (case xtk => k_is)
    (case e0_a => k_is)
    (case e0_x => k_is)
    (case e0_sz => decide +kernel)
    (case e0_sa => k_is)
    (case e0_ga => k_is)
    (case e0_gg => k_is)
    (case e0_no => k_is)
    (case e0_in => k_is)
    (case e0_be => k_is)
    (case e0_ty => k_is)
    (case e0_ke => k_is)
    (case e0_hd => k_is)
    (case e0_cl => k_is)
    (case e0_at => k_is)
    (case e0_mr => k_is)
    (case e0_rd => k_is)
    (case e0_fc => k_is)
    (case e0_sM => k_is)
