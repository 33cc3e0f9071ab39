import PyProof.Rows.All
import Wide.All
import OpenK.AllK
import Wide.FinOn
import KE.KNest
import PyProof.ReprRoads
import PyProof.StrLawsRepr
import PyProof.FitsInt
import PyProof.StrBlock2
import HandS.Base
import HandS.Call
import HandS.List
import HandS.Comp
import HandS.Nested
import HandS.AnyAll
import HandS.TryOnly
import HandS.Ends
import HandS.EndBits
import HandS.Iter
import HandS.Wide
import HandS.WideBits
import HandS.Words
import HandS.WordsList
import HandS.IsInst
import HandS.TupLe
import HandS.SetBool
import HandS.Deep
import HandS.Walk
import HandS.Set
import HandS.Strs
import PyProof.ListOps
import PyProof.Rows.SetFrom
import PyProof.SumAny
import KE.KTypeName
import KE.KExcIs
import HandS.Gcd
import HandS.WordsExc
import HandS.Exc
import HandS.ExcOwn
import HandS.ExcInit
import HandS.ExcField
import HandS.FStr
import PySem.Challenge.RW_unsaidsizes_k01_tables_and_products
set_option Elab.async false
set_option linter.all false
set_option maxRecDepth 100000
set_option maxHeartbeats 4000000
-- G
/-! calls under which no text of a list is being made (for repr of lists) -/
namespace LG
open PySem PySem.Spec PyProof.Rows L2
/-- as FnOk, for callers of which it is known that no guard stands -/
structure FnG (P : Program) (w : World) (K : PySem.W.Frag) (mg : Str → Option Value) (base : Heap) (CX : CXT) (k : Nat) (f : Addr) (fd : FuncData) (ps : List Str) (sp : Sp) : Prop where
  len : ∀ vs H Q E, sp vs H Q E → vs.length = ps.length
  run : ∀ (A : Around) (ou : List Env) (s : Shared) (H : Hp) (ar : Args) (us : List Value) (vs : List V) (Q : VK) (E : XK), Room k A → A.guards = some [] → Env0 P w K mg base A ou s H →
    BindsTo s fd ar (ps.zip us) → Vals vs us → sp vs H Q E → codeAny (model P w) A (.call (.ref f) ar) (CR CX ou P w H s Q E) s
section
variable {P : Program} {w : World} {K : PySem.W.Frag} {mg : Str → Option Value} {base : Heap} {CX : CXT} {k : Nat} {f : Addr} {fd : FuncData} {ps : List Str} {sp : Sp}
theorem deeper_guards {A : Around} (e : Env) (h : A.guards = some []) : (A.deeper e).guards = some [] := h
theorem g_of_ok (F : FnOk P w K mg base CX k f fd ps sp) : FnG P w K mg base CX k f fd ps sp := ⟨F.len, fun A ou s H ar us vs Q E hr _ => F.run A ou s H ar us vs Q E hr⟩

/-- a def's body keeps its promise, under known guards -/
theorem fnG_of {nm qu : Str} {pa : Arguments} {bo : List Stmt} {sc : Scope} {dv kv dc pm cd ct oc : Value} {an od : Option Addr} {sl : Array (Option Value)} {N : List Str}
    (hf : K.lookup f = some ⟨oc, od, .func (PySem.W.fnOf nm qu pa bo sc dv kv dc pm an cd ct), sl⟩) (hq : PySem.W.codeIn K cd qu = true) (S : FnScope N ps sc) (ln : ∀ vs H Q E, sp vs H Q E → vs.length = ps.length)
    (hb : ∀ (A : Around) (ou : List Env) (s : Shared) (H : Hp) (vs : List V) (Q : VK) (E : XK), Room k (A.deeper (envOfC qu sc s.heap.objs.size f cd)) → A.guards = some [] → sp vs H Q E →
      ∃ t, PSs (cxOf CX P w K mg base N qu sc f cd A ou s H E) bo t ∧ t { nx := fun _ G => Q .non G, rt := Q } (L2.start N vs) H) :
    FnG P w K mg base CX (k + 1) f (PySem.W.fnOf nm qu pa bo sc dv kv dc pm an cd ct) ps sp := by
  refine ⟨ln, fun A ou s H ar us vs Q E room gd en bd rel want => ?_⟩
  have there : K.In s.heap := en.mod.kin.keeps fun b o z => (en.bs b o z).1
  have nl : s.heap.NoLimit := en.mod.nolimit.keeps fun b o z => (en.bs b o z).1
  refine codeAny_call_function room.depth (there _ _ hf) rfl S.co S.gen rfl (PySem.W.codeRec_of there hq) (bd _ _ _ _ ?_)
  refine wpAny_newFunctionEnv_cells S.kind (fun y hy => ?_) fun env eenv s1 x => ?_
  · obtain ⟨n, v⟩ := y
    exact (S.par n (List.of_mem_zip hy).1).imp id fun q => ⟨q, PySem.W.cellsFrom_some _ _ _ (.inl q)⟩
  subst eenv
  refine ⟨nl.keeps x.toInCall.keep, codeAny_func ?_⟩
  obtain ⟨t, ht, hw⟩ := hb A ou s H vs Q E (room.deeper _) gd want
  have J0 := inv_start (CX := CX) (E := E) S room.hd en (ln _ _ _ _ want) rel x
  refine wpAny_mono (ht.run [] s1 (L2.start N vs) H _ J0 hw) (fun fl s' hs => ?_) fun e s' hs => hs
  cases fl with
  | brk => exact False.elim hs.choose_spec.choose_spec.2
  | cont => exact False.elim hs.choose_spec.choose_spec.2
  | ret u =>
    obtain ⟨v, _, G, J, rv, q⟩ := hs
    exact ⟨v, G, J.os, J.bare, J.base, J.hok, rv, q⟩
  | next =>
    obtain ⟨_, G, J, q⟩ := hs
    exact ⟨V.non, G, J.os, J.bare, J.base, J.hok, rfl, q⟩
/-- .. by the text -/
theorem fun_okG {x qual : Str} {st : Stmt} {N : List Str} (F : Fun K x qual st f fd) (S : FnScope N ps (defScope st)) (ln : ∀ vs H Q E, sp vs H Q E → vs.length = ps.length)
    (hb : ∀ (cd : Value) (A : Around) (ou : List Env) (s : Shared) (H : Hp) (vs : List V) (Q : VK) (E : XK), Room k (A.deeper (envOfC qual (defScope st) s.heap.objs.size f cd)) → A.guards = some [] → sp vs H Q E →
      ∃ t, PSs (cxOf CX0 P w K mg base N qual (defScope st) f cd A ou s H E).nox (defBody st) t ∧ t { nx := fun _ G => Q .non G, rt := Q } (L2.start N vs) H) : FnG P w K mg base CX0 (k + 1) f fd ps sp := by
  obtain ⟨oc, od, kV, doc, pm, an, cd, ct, osl, rfl, lk, hc⟩ := F.ex
  refine fnG_of lk hc S ln fun A ou s H vs Q E hr hg want => ?_
  obtain ⟨t, h, q⟩ := hb cd A ou s H vs Q E hr hg want
  exact ⟨t, h.nox, q⟩
end
section
variable {X : Cx} {CX : CXT} {k : Nat} {f : Addr} {fd : FuncData} {ps : List Str} {sp : Sp} {dvs : List V} {ds : List Value} {E : XK} {x : Str} {p pos : Pos} {e : Expr} {es : List Expr} {t : TA}
theorem pe_callG (F : FnG X.prog X.w X.K X.mg X.base CX k f fd ps sp) (hr : Room k X.A) (gd : X.A.guards = some []) (hg : Gl X x) (hm : X.mg x = some (.ref f)) (hk : PySem.W.keepIn X.K (.ref f) = true) (hb : Binds X.K fd ps ds) (hd : Vals dvs ds) (hx : Passes CX X E)
    (ha : PA X (e :: es) t) (hdb : (x == ("__debug__" : Str)) = false := by decide) (he : starEach (e :: es) X.env = (false, eval e X.env) :: starEach es X.env := by rfl) (hpl : (backTo pos (starEach es X.env)).any (·.1) = false := by rfl) :
    PE X (.Call (.Name x p) (e :: es) [] pos) (tCall sp dvs E t) := by
  refine ⟨fun pins s σ H Q I h => wpAny_Call_Name_kw (ld_glob I hg hm ?_ hdb)⟩
  refine PySem.W.callWith_K (h₀ := X.base) I.ok.mod.kin hk (thn (ha.run pos pins s σ H _ I h) fun us s1 ⟨vs, H1, J, r, q⟩ => ⟨J.kIn, ?_⟩) he hpl
  have r2 : Vals (vs ++ dvs) (us ++ ds) := r.append hd
  have ll : (us ++ ds).length = ps.length := by
    rw [← r2.length]
    exact F.len _ _ _ _ q
  refine wpAny_call (codeAny_mono (F.run X.A X.stack s1 H1 ⟨us, []⟩ (us ++ ds) (vs ++ dvs) Q E hr gd J.env0 (hb s1 us J.kIn ll) r2 q) fun r s' z => ?_)
  cases r with
  | error er => exact hx pins σ H1 s1 er s' J z
  | ok fl =>
    cases fl with
    | ret u => exact J.after z
    | next => exact False.elim z
    | brk => exact False.elim z
    | cont => exact False.elim z
/-- repr of nested data -/
theorem call_reprD (gd : X.A.guards = some []) (hu : X.A.units + 64 < cLine) : CallR X (.builtin "repr") (fun xs H Q => ∃ (a : Addr) (d : PyData), xs = [.ref a] ∧ Dp X.K H (.ref a) d ∧ d.showable = true ∧ d.hasDict = false ∧ d.depth ≤ 60 ∧ d.shown.length ≤ sizeLine ∧ Q (.str d.shown) H) := by
  intro pins s σ H xs us Q I r h
  obtain ⟨a, d, rfl, hd, h1, h2, h3, h4, q⟩ := h
  obtain ⟨u, rfl, e⟩ := vals1 r
  cases (show u = Value.ref a from e)
  obtain ⟨as, rd⟩ := Dp.reads I d (.ref a) (.ref a) hd rfl
  refine PySem.repr_of_reads' rd h1 (fun z => by rw [h2] at z; cases z) gd (by omega) (fun _ _ z => z) (fun h' u tk k => ?_) h4
  exact ⟨.str _, H, I.kept (t' := tk) k, ⟨u, rfl⟩, q⟩
end

/-! the law's own call -/
section
variable {P : Program} {w : World} {K : PySem.W.Frag} {mg mb : Str → Option Value} {k : Nat} {fa a : Addr} {fd : FuncData} {x : Str} {sp : Sp} {s₁ : Shared} {vs : List Value} {ns : List Int}
/-- from one abstract heap, in which the script alone may stand -/
theorem enter (KX : K.In s₁.heap) (gl : s₁.heap.Ns mainGlobals mg) (bl : s₁.heap.Ns builtinsNs mb) (bb : ∀ y : Str, y ≠ "__name__" → mb y = bootBuiltins y) (nl : s₁.heap.NoLimit) (g0 : s₁.gens = #[])
    (at_ : s₁.heap.get? a = some { cls := .type "list", data := .seq vs.toArray }) (room : Room k callerA) (bind : ∀ (s : Shared) (u : Value), BindsTo s fd ⟨[u], []⟩ [(x, u)])
    (F : ∀ base : Heap, K.In base → base.Ns mainGlobals mg → FnG P w K mg base CX0 k fa fd [x] sp) {H : Hp} (only : Only H) (ok : HOk P w H s₁.heap) (alone : ∀ b, H b ≠ none → b = a) (notK : H a ≠ none → K.lookup a = none)
    (want : sp [.ref a] H (fun v _ => v = .bl true) fun _ _ _ => False) :
    codeAny (model P w) callerA (.call (.ref fa) ⟨[.ref a], []⟩) (fun r s' => r = .ok (.ret (.bool true)) ∧ OldK s₁.heap s'.heap ∧ s'.os = s₁.os ∧ AllBare s'.gens) s₁ := by
  have free : ∀ {b : Addr} {o : Obj}, s₁.heap.get? b = some o → (∀ it n, o.data ≠ .seq it n) → H b = none := fun {b o} z nd => by
    cases q : H b with
    | none => rfl
    | some u =>
      obtain rfl := alone b (by rw [q]; exact fun y => nomatch y)
      rw [at_] at z
      cases z
      exact absurd rfl (nd vs.toArray _)
  have nsOf : ∀ {b : Addr} {m : Str → Option Value}, s₁.heap.Ns b m → (hidT s₁.heap H).Ns b m := fun {b m} ⟨o, es, ep, z, d, r⟩ =>
    ⟨o, es, ep, hidT_get z (free z fun it n y => by rw [d] at y; exact nomatch y), d, r⟩
  have inB : K.In (hidT s₁.heap H) := fun b o z => by
    refine hidT_get (KX b o z) ?_
    cases q : H b with
    | none => rfl
    | some u =>
      obtain rfl := alone b (by rw [q]; exact fun y => nomatch y)
      rw [notK (by rw [q]; exact fun y => nomatch y)] at z
      cases z
  have md : Mod K mg (hidT s₁.heap H) := ⟨inB, nsOf gl, ⟨mb, nsOf bl, bb⟩, let ⟨mc, y1, y2⟩ := nl; ⟨mc, nsOf y1, y2⟩⟩
  have en : Env0 P w K mg (hidT s₁.heap H) callerA [] s₁ H := ⟨rfl, md, fun b o z => of_hidT z, Nat.le_of_eq (hidT_size _ _), trivial, fun b z => absurd (show b ∈ ([] : List Addr) from z) (List.not_mem_nil), ok, .of_eq g0⟩
  refine codeAny_mono ((F _ inB (nsOf gl)).run callerA [] s₁ H ⟨[.ref a], []⟩ [.ref a] [.ref a] _ _ room rfl en (bind s₁ (.ref a)) (.cons rfl .nil) want) fun r s' h => ?_
  cases r with
  | error e => exact False.elim h
  | ok fl =>
    cases fl with
    | next => exact False.elim h
    | brk => exact False.elim h
    | cont => exact False.elim h
    | ret u =>
      obtain ⟨v, G, e1, e2, un, okG, rel, q⟩ := h
      obtain rfl : v = V.bl true := q
      obtain rfl : u = Value.bool true := rel
      refine ⟨rfl, OldK.of_keep fun b o z => ?_, e1, e2⟩
      cases q : H b with
      | none => exact un.keep b o z q (fun y => nomatch y) (fun y => nomatch y)
      | some u =>
        rcases only b with y | ⟨ob, xs, y⟩
        · rw [q] at y
          cases y
        · have z1 := (ok b _ y).1
          have z2 := (okG b _ (un.frzs b ob _ y)).1
          rw [z] at z1
          cases z1
          exact z2

theorem enter_all (KX : K.In s₁.heap) (gl : s₁.heap.Ns mainGlobals mg) (bl : s₁.heap.Ns builtinsNs mb) (bb : ∀ y : Str, y ≠ "__name__" → mb y = bootBuiltins y) (nl : s₁.heap.NoLimit) (g0 : s₁.gens = #[])
    (at_ : s₁.heap.get? a = some { cls := .type "list", data := .seq vs.toArray }) (ia : IntsAre vs ns) (small : ns.length ≤ sizeLine) (room : Room k callerA) (bind : ∀ (s : Shared) (u : Value), BindsTo s fd ⟨[u], []⟩ [(x, u)])
    (F : ∀ base : Heap, K.In base → base.Ns mainGlobals mg → FnG P w K mg base CX0 k fa fd [x] sp) (want : ∀ H : Hp, Only H → SqL K H a (ns.map V.int) → sp [.ref a] H (fun v _ => v = .bl true) fun _ _ _ => False) :
    codeAny (model P w) callerA (.call (.ref fa) ⟨[.ref a], []⟩) (fun r s' => r = .ok (.ret (.bool true)) ∧ OldK s₁.heap s'.heap ∧ s'.os = s₁.os ∧ AllBare s'.gens) s₁ := by
  have rel := vals_ints ia
  cases hk : K.lookup a with
  | some o =>
    have z := KX a o hk
    rw [at_] at z
    cases z
    have only : Only (fun _ => none) := fun _ => .inl rfl
    have len := ia.length
    exact enter KX gl bl bb nl g0 at_ room bind F only (fun b u z => by cases z) (fun b z => absurd rfl z) (fun z => absurd rfl z)
      (want _ only (.inr ⟨_, vs.toArray, _, hk, rfl, rfl, rfl, by rw [List.size_toArray, len]; exact small, by simpa using rel⟩))
  | none =>
    let ob : Obj := { cls := .type "list", data := .seq vs.toArray }
    let H : Hp := fun b => if b = a then some (.frz ob (.lst (ns.map V.int))) else none
    have hit : H a = some (.frz ob (.lst (ns.map V.int))) := if_pos rfl
    have one : ∀ b, H b ≠ none → b = a := fun b z => by
      by_cases e : b = a
      · exact e
      · exact absurd (if_neg e) z
    have only : Only H := fun b => by
      by_cases e : b = a
      · exact .inr ⟨ob, ns.map V.int, if_pos e⟩
      · exact .inl (if_neg e)
    refine enter KX gl bl bb nl g0 at_ room bind F only (fun b u z => ?_) one (fun _ => hk) (want H only (.inl (.inr ⟨ob, hit⟩)))
    obtain rfl := one b (by rw [z]; exact fun y => nomatch y)
    rw [hit] at z
    cases z
    exact ⟨at_, by rw [List.length_map]; exact small, vs, _, rel, at_⟩
end
/-- what k_head leaves, from the law's promise -/
theorem walkG {l : PySem.W.OpenLaw} {n k : Nat} {q : Program} {loose : List Str} {XP : (Str → Option Value) → Heap → Prop} {YP : World → Heap → Prop} {d : DefRec} {K : Params → PySem.W.Frag} {sp : PySem.W.Frag → Sp} {x : Str}
    (hn : l.most = some n) (hz : n ≤ sizeLine) (hdf : d.params.defaults = []) (room : Room k callerA) (hY : ∀ (w : World) (h : Heap), YP w h → (K w.params).In h)
    (F : ∀ (w : World) (mg : Str → Option Value) (fa : Addr) (h : Heap), (K w.params).In h → h.Ns mainGlobals mg → mg d.name = some (.ref fa) →
      ∃ fd : FuncData, (∀ (s : Shared) (u : Value), BindsTo s fd ⟨[u], []⟩ [(x, u)]) ∧ ∀ base : Heap, (K w.params).In base → base.Ns mainGlobals mg → FnG l.prog w (K w.params) mg base CX0 k fa fd [x] (sp (K w.params)))
    (want : ∀ (K : PySem.W.Frag) (H : Hp) (a : Addr) (ns : List Int), ns.length ≤ n → Only H → SqL K H a (ns.map V.int) → sp K [.ref a] H (fun v _ => v = .bl true) fun _ _ _ => False) :
    PySem.W.WalkO q loose XP YP l.row.toRowW d [] (fun f vs => PySem.call f vs) := by
  refine Att.attach_call hn hdf fun w s0 s1 mg mb fa o pm cd doc a vs ns G Y ho hd hcd hmg hobj ia len g0 => ?_
  obtain ⟨fd, bi, FF⟩ := F w mg fa _ (hY w _ Y) G.T.g hmg
  exact enter_all (hY w _ Y) G.T.g G.T.b G.T.builtins G.T.nolimit g0 hobj ia (Nat.le_trans len hz) room bi FF fun H only hs => want _ H a ns len only hs
end LG
-- GL
/-! elements of generator expressions that call nothing of the text: values by names, under whatever frames -/
namespace LE
open PySem PySem.Spec PyProof.Rows L2
/-- where such an element is reckoned: the names that it sees, what stands as the def that holds it had it -/
structure Site (X : Cx) (sc : Scope) (H : Hp) (Γ : List (Str × V)) (ce : Env) (t : Shared) : Prop where
  fn : sc.kind = .function
  eqs : ce.scope = sc
  gl : ce.globals = mainGlobals
  bl : ce.builtins = builtinsNs
  mod : Mod X.K X.mg X.base
  bs : ∀ b o, X.base.get? b = some o → t.heap.get? b = some o
  obj : ∀ b u, H b = some u → (∀ q, u ≠ .tbl q) → ObjOk X.prog X.w H t.heap b u
  var : ∀ y v, Γ.lookup y = some v → ∃ u, RelV v u ∧ ((sc.names.lookup y = some .local ∧ ∃ m, t.heap.Ns ce.locals m ∧ m y = some u) ∨ (sc.names.lookup y = some .free ∧ ∃ c, ce.cells.lookup y = some c ∧ t.heap.IsCell c (some u)))
section
variable {X : Cx} {sc : Scope} {H : Hp} {Γ : List (Str × V)} {ce : Env} {t t' : Shared}
theorem Site.keeps (S : Site X sc H Γ ce t) (k : Keeps t t') : Site X sc H Γ ce t' := by
  obtain ⟨h', n, rfl, kk⟩ := k
  refine ⟨S.fn, S.eqs, S.gl, S.bl, S.mod, fun b o e => kk _ _ (S.bs b o e), fun b u e n => (S.obj b u e n).stay (fun c v _ y => kk c v y) (fun _ y => y) fun _ _ y => y, fun y v e => ?_⟩
  obtain ⟨u, r, l⟩ := S.var y v e
  refine ⟨u, r, l.imp (fun ⟨a, m, hn, hm⟩ => ⟨a, m, hn.keeps kk, hm⟩) fun ⟨a, c, hc, o, ho, hd⟩ => ⟨a, c, hc, o, kk _ _ ho, hd⟩⟩
theorem Site.list {p : Addr} {xs : List V} (S : Site X sc H Γ ce t) (h : SqL X.K H p xs) : ∃ its : List Value, Vals xs its ∧ PlainL t.heap p its.toArray ∧ xs.length ≤ sizeLine := by
  rcases h with (h | ⟨o, h⟩) | ⟨o, its, n, hk, hc, hd, hs, hz, r⟩
  · obtain ⟨z, its, n, r, e⟩ := S.obj p _ h fun _ y => nomatch y
    exact ⟨its, r, ⟨_, n, e, rfl, rfl, rfl⟩, z⟩
  · obtain ⟨_, z, its, n, r, e⟩ := S.obj p _ h fun _ y => nomatch y
    exact ⟨its, r, ⟨_, n, e, rfl, rfl, rfl⟩, z⟩
  · refine ⟨its.toList, r, ⟨o, n, S.bs _ _ (S.mod.kin p o hk), hc, hd, by simpa using hs⟩, ?_⟩
    have e := r.length
    simp only [Array.length_toList] at e
    omega
end
/-- e is v there, and nothing is changed -/
def PU (X : Cx) (sc : Scope) (H : Hp) (Γ : List (Str × V)) (e : Expr) (v : V) : Prop :=
  ∀ (ce : Env) (B : Around) (t : Shared) (F R : Value → Shared → Prop), Site X sc H Γ ce t → (∀ u t', RelV v u → Keeps t t' → R u t') → wpAny (model X.prog X.w) B (eval e ce) R F t
theorem kt (s : Shared) (k : Nat) : Keeps s { s with toks := k } := ⟨s.heap, k, rfl, fun _ _ e => e⟩
theorem k0 (s : Shared) : Keeps s s := kt s s.toks
theorem Keeps.on {a b c : Shared} (h : Keeps a b) (h' : Keeps b c) : Keeps a c := by
  obtain ⟨x, n, rfl, k⟩ := h
  obtain ⟨y, m, rfl, k'⟩ := h'
  exact ⟨y, m, rfl, fun i o e => k' i o (k i o e)⟩
section
variable {X : Cx} {sc : Scope} {H : Hp} {Γ : List (Str × V)} {a b : Expr} {pos : Pos}
theorem pu_var {y : Str} {v : V} (h : Γ.lookup y = some v) (hd : (y == ("__debug__" : Str)) = false := by decide) (hcd : (y == ("__classdict__" : Str)) = false := by decide) : PU X sc H Γ (.Name y pos) v := by
  intro ce B t F R S q
  obtain ⟨u, r, l⟩ := S.var y v h
  have fk : ce.scope.kind = .function := by rw [S.eqs]; exact S.fn
  rcases l with ⟨hl, m, hn, hm⟩ | ⟨hl, c, hc, ho⟩
  · exact wpAny_Name (wpAny_loadName_local fk (show ce.scope.names.lookup y = some .local by rw [S.eqs]; exact hl) hn hm (q u t r (k0 t))) hd
  · exact wpAny_Name (wpAny_loadName_free fk (show ce.scope.names.lookup y = some .free by rw [S.eqs]; exact hl) hc ho (q u t r (k0 t)) hcd) hd
theorem pu_int {i : Int} {j : Nat} : PU X sc H Γ (.Constant (.int i) j pos) (.int i) := fun ce B t F R S q => wpAny_Constant_int (q _ _ ⟨_, rfl⟩ (kt t _))
/-- two ints are compared -/
theorem pu_cmp {op : CmpOp} {g : Int → Int → Bool} {i j : Int} (rule : ∀ (B : Around) (i j : Int) (t u : Tok) (s : Shared) (Q : Value → Shared → Prop) (E : Value → Shared → Prop), Q (.bool (g i j)) s → wpAny (model X.prog X.w) B (compareOp op (.int i t) (.int j u)) Q E s)
    (ha : PU X sc H Γ a (.int i)) (hb : PU X sc H Γ b (.int j)) (hm : behindInMarks op b = false := by rfl) : PU X sc H Γ (.Compare a [op] [b] pos) (.bl (g i j)) := by
  intro ce B t F R S q
  refine wpAny_Compare1 (ha ce B t F _ S fun u t1 r1 k1 => hb ce B t1 F _ (S.keeps k1) fun w t2 r2 k2 => ?_) hm
  obtain ⟨_, rfl⟩ := r1
  obtain ⟨_, rfl⟩ := r2
  exact rule _ _ _ _ _ _ _ _ (q _ _ rfl (Keeps.on k1 k2))
theorem pu_lt {i j : Int} (ha : PU X sc H Γ a (.int i)) (hb : PU X sc H Γ b (.int j)) : PU X sc H Γ (.Compare a [.Lt] [b] pos) (.bl (decide (i < j))) := pu_cmp (g := fun i j => decide (i < j)) (fun _ _ _ _ _ _ _ _ q => lt_int q) ha hb (nomark _)
theorem pu_eqI {i j : Int} (ha : PU X sc H Γ a (.int i)) (hb : PU X sc H Γ b (.int j)) : PU X sc H Γ (.Compare a [.Eq] [b] pos) (.bl (decide (i = j))) := by
  intro ce B t F R S q
  refine wpAny_Compare1 (ha ce B t F _ S fun u t1 r1 k1 => hb ce B t1 F _ (S.keeps k1) fun w t2 r2 k2 => ?_) (nomark _)
  obtain ⟨_, rfl⟩ := r1
  obtain ⟨_, rfl⟩ := r2
  exact eq_int (q _ _ (by show _ = _; congr 1) (Keeps.on k1 k2))
theorem pu_sub {i j : Int} (ha : PU X sc H Γ a (.int i)) (hb : PU X sc H Γ b (.int j)) : PU X sc H Γ (.BinOp a .Sub b pos) (.int (i - j)) := by
  intro ce B t F R S q
  refine wpAny_BinOp (ha ce B t F _ S fun u t1 r1 k1 => hb ce B t1 F _ (S.keeps k1) fun w t2 r2 k2 => ?_)
  obtain ⟨_, rfl⟩ := r1
  obtain ⟨_, rfl⟩ := r2
  exact sub_int (q _ _ ⟨_, rfl⟩ (Keeps.on (Keeps.on k1 k2) (kt t2 _)))
theorem pu_non {j : Nat} : PU X sc H Γ (.Constant .none j pos) .non := fun ce B t F R S q => Constant_none (q _ _ rfl (k0 t))
/-- a is not None -/
theorem pu_notN {v : V} {j : Nat} {p : Pos} (ha : PU X sc H Γ a v) : PU X sc H Γ (.Compare a [.IsNot] [.Constant .none j p] pos) (.bl (!decide (v = .non))) := by
  intro ce B t F R S q
  refine wpAny_Compare1 (ha ce B t F _ S fun u t1 r1 k1 => Constant_none (isnot_none_gen (q _ _ ?_ k1))) rfl
  cases v <;> first
    | (cases r1; rfl)
    | (obtain ⟨t, rfl⟩ := r1; rfl)
theorem pu_one {op : BoolOp} {v : V} (ha : PU X sc H Γ a v) : PU X sc H Γ (.BoolOp op [a] pos) v := fun ce B t F R S q => BoolOp_one (ha ce B t F R S q)
theorem pu_and {rest : List Expr} {c r : Bool} (ha : PU X sc H Γ a (.bl c)) (hb : c = true → PU X sc H Γ (.BoolOp .And (b :: rest) pos) (.bl r)) : PU X sc H Γ (.BoolOp .And (a :: b :: rest) pos) (.bl (c && r)) := by
  intro ce B t F R S q
  refine BoolOp_and (ha ce B t F _ S fun u t1 r1 k1 => ?_)
  cases r1
  refine wpAny_truthy_bool ?_
  cases c with
  | true => exact hb rfl ce B t1 F R (S.keeps k1) fun u t2 r2 k2 => q u t2 r2 (Keeps.on k1 k2)
  | false => exact q _ _ rfl k1
/-- an item of a list, by a place from 0 on -/
theorem pu_ix {p : Addr} {xs : List V} {i : Nat} {v : V} (ha : PU X sc H Γ a (.ref p)) (hb : PU X sc H Γ b (.int (i : Int))) (hl : SqL X.K H p xs) (hi : xs[i]? = some v) (hs : PlainIx b := by exact fun _ _ => rfl) : PU X sc H Γ (.Subscript a b pos) v := by
  intro ce B t F R S q
  refine Subscript_ (ha ce B t F _ S fun u t1 r1 k1 => hb ce B t1 F _ (S.keeps k1) fun w t2 r2 k2 => ?_)
  cases r1
  obtain ⟨_, rfl⟩ := r2
  have S2 := (S.keeps k1).keeps k2
  obtain ⟨its, r, pl, hz⟩ := S2.list hl
  obtain ⟨x, ex, rx⟩ := r.get hi
  have hn := line63
  have hlt : i < xs.length := (List.getElem?_eq_some_iff.mp hi).1
  exact item_listR pl.isList (by omega) (by omega) (by simpa using ex) (q _ _ rx (Keeps.on k1 k2)) (hs _ _)
/-- len of a list -/
theorem pu_len {p : Addr} {xs : List V} {np : Pos} (ha : PU X sc H Γ a (.ref p)) (hl : SqL X.K H p xs) (hg : sc.names.lookup ("len" : Str) = some .globalImplicit) (hm : X.mg "len" = none)
    (he : ∀ ce : Env, starEach [a] ce = (false, eval a ce) :: starEach [] ce := by exact fun _ => rfl) : PU X sc H Γ (.Call (.Name "len" np) [a] [] pos) (.int xs.length) := by
  intro ce B t F R S q
  obtain ⟨mb, h1, h2⟩ := S.mod.blt
  refine wpAny_Call_Name_kw (Calls.Name_function_global (by rw [S.eqs]; exact S.fn) (show ce.scope.names.lookup ("len" : Str) = some .globalImplicit by rw [S.eqs]; exact hg)
    (Calls.loadGlobal_builtin (by rw [S.gl]; exact S.mod.glob.keeps S.bs) hm (by rw [S.bl]; exact h1.keeps S.bs) ((h2 "len" (by decide)).trans boot_len) ?_) (by decide))
  refine PyProof.Rows.callWith_builtin1 ?_ (he ce) rfl
  rw [he ce]
  refine Calls.spliced_cons (ha ce B t F _ S fun u t1 r1 k1 => Calls.spliced_nil ?_)
  cases r1
  obtain ⟨its, r, pl, hz⟩ := (S.keeps k1).list hl
  have hn := line63
  have e := r.length
  exact Calls.call_len_list pl.isList (by simp only [List.size_toArray] <;> omega) (q _ _ ⟨_, by rw [List.size_toArray, e]⟩ (Keeps.on k1 (kt t1 _)))
end
end LE
-- GA
/-! any and all of a generator expression over a list, its element reckoned by GL -/
namespace LE
open PySem PySem.Spec PyProof.Rows L2
open GxR (TabB TabG Tabbed GenS)
theorem pair_of_lookup {α : Type} : ∀ {l : List (Str × α)} {y : Str} {v : α}, l.lookup y = some v → (y, v) ∈ l
  | (k, w) :: r, y, v, h => by
    rw [List.lookup_cons] at h
    cases e : y == k with
    | true =>
      rw [e] at h
      have e2 : y = k := by simpa using e
      cases h
      rw [e2]
      exact List.mem_cons_self
    | false =>
      rw [e] at h
      exact List.mem_cons_of_mem _ (pair_of_lookup h)
/-- what is asked of the expression's scope, to be seen by looking -/
structure GOK (ds sc : Scope) (x : Str) : Prop where
  kind : sc.kind = .function
  co : sc.isCoroutine = false
  cell : ∀ y ∈ sc.names, y.2 ≠ .cell
  dot : sc.names.lookup (".0" : Str) = some NameKind.local
  loc : sc.names.lookup x = some .local
  kin : ∀ y ∈ sc.names, y.2 = .free → ds.names.lookup y.1 = some .cell ∨ ds.names.lookup y.1 = some .free
instance {ds sc : Scope} {x : Str} : Decidable (GOK ds sc x) :=
  decidable_of_iff (sc.kind = .function ∧ sc.isCoroutine = false ∧ (∀ y ∈ sc.names, y.2 ≠ .cell) ∧ sc.names.lookup (".0" : Str) = some NameKind.local ∧ sc.names.lookup x = some .local ∧ ∀ y ∈ sc.names, y.2 = .free → ds.names.lookup y.1 = some .cell ∨ ds.names.lookup y.1 = some .free)
    ⟨fun ⟨a, b, c, d, e, f⟩ => ⟨a, b, c, d, e, f⟩, fun ⟨a, b, c, d, e, f⟩ => ⟨a, b, c, d, e, f⟩⟩
def Gsc (X : Cx) (sc : Scope) (x : Str) : Prop := ∃ ds, X.env.scope = ds ∧ GOK ds sc x
theorem Gsc.gens {X : Cx} {sc : Scope} {x : Str} (g : Gsc X sc x) (ok : X.Ok) : GenS X.env sc x := by
  obtain ⟨ds, rfl, h⟩ := g
  exact ⟨h.kind, h.co, h.cell, h.dot, h.loc, fun y hy e => ok.has _ (h.kin y hy e)⟩
/-- the names of the def that the element sees, and what they hold -/
def Seen (X : Cx) (σ : L2.St) (sc : Scope) (Γ : List (Str × V)) : Prop :=
  ∀ y v, Γ.lookup y = some v → ∃ i : Nat, X.N[i]? = some y ∧ σ[i]? = some (some v) ∧ (X.env.scope.names.lookup y = some .cell ∨ X.env.scope.names.lookup y = some .free) ∧ sc.names.lookup y = some .free
theorem seen_nil {X : Cx} {σ : L2.St} {sc : Scope} : Seen X σ sc [] := fun _ _ h => nomatch h
theorem seen_cons {X : Cx} {σ : L2.St} {sc : Scope} {Γ : List (Str × V)} {y : Str} {v : V} (i : Nat) (hN : X.N[i]? = some y) (hσ : σ[i]? = some (some v)) (hk : X.env.scope.names.lookup y = some .cell ∨ X.env.scope.names.lookup y = some .free) (hf : sc.names.lookup y = some .free)
    (r : Seen X σ sc Γ) : Seen X σ sc ((y, v) :: Γ) := fun z w h => by
  rw [List.lookup_cons] at h
  cases e : z == y with
  | true =>
    rw [e] at h
    cases h
    rw [show z = y by simpa using e]
    exact ⟨i, hN, hσ, hk, hf⟩
  | false =>
    rw [e] at h
    exact r z w h
/-- a generator that is ready, of n turns, the j-th one true as tr says -/
def Rdy (X : Cx) (pins : List (Addr × Obj)) (σ : L2.St) (H1 : Hp) (P : Addr) (n : Nat) (tr : Nat → Bool) (g : Addr) (s5 : Shared) : Prop :=
  ∃ (fp wr : List Addr) (G : Array GenState → Array GenState → Prop) (F : Nat → Value → Prop) (St : Nat → Shared → Prop),
    WalksS X.prog X.w X.A.in1 g fp wr G n F St ∧ St 0 s5 ∧ TruthOf X.prog X.w X.A.in1 F tr ∧ ∀ s', Moved wr G s5 s' → ∃ H2, Tabbed P H1 H2 ∧ Inv X pins σ H2 s'
section
variable {X : Cx} {pins : List (Addr × Obj)} {σ : L2.St} {H : Hp} {s : Shared}
/-- the expression's code object: found, or made and put behind the table -/
theorem code_step {c P : Addr} {pos : Pos} {q : Str} {sc : Scope} {ps : Array Value} {R : Value → Shared → Prop} {E : Value → Shared → Prop} {A : Around} {M : Model} {t : Shared} (hcode : X.env.code = .ref c) (cd : PySem.W.CodeHd t.heap c P)
    (hP : t.heap.get? P = some { cls := .none, data := .fields ps }) (ht : TriplesOk ps.toList)
    (go : ∀ (code : Value) (h3 : Heap) (tk : Nat) (more : Array Value), Heap.ExtBut P t.heap h3 → t.heap.objs.size ≤ h3.objs.size → h3.get? P = some { cls := .none, data := .fields (ps ++ more) } → TriplesOk (ps ++ more).toList → R code { t with heap := h3, toks := tk }) :
    wpAny M A (genexprCode X.env pos q sc) R E t := by
  cases e : codeAmong pos ps.toList with
  | some v =>
    refine PySem.wpAny_genexprCode_hit hcode (cd.code hP ht) e ?_
    have z := go v t.heap t.toks #[] (Heap.ExtBut.refl _ _) (Nat.le_refl _) (by rw [Array.append_empty]; exact hP) (by rw [Array.append_empty]; exact ht)
    exact z
  | none =>
    refine PySem.wpAny_genexprCodeX hcode (cd.code hP ht) (cd.tab hP) e fun d h3 tk x ge lt ic _ it _ => go _ h3 tk _ x (Nat.le_trans ge (Nat.le_of_lt lt)) it.2 ?_
    obtain ⟨_, _, _, _, _, _, _, _, _, _, _, _, _, _, _, _, _, _, _, tr, _⟩ := ic
    exact tr
/-- .. for x in a list -/
theorem gen_list {c P : Addr} {elt iter : Expr} {x : Str} {px gpos : Pos} {sc : Scope} {te : TE} {k : Nat} {Q' : Value → Shared → Prop} {R : Nat → (Nat → Bool) → Hp → Prop}
    (hr : Room k X.A) (TB : TabB X.base X.mg c P) (hcode : X.env.code = .ref c) (S : GenS X.env sc x) (hi : PE X iter te) (hs : ∀ v, genFold iter X.env v = pure v) (I : Inv X pins σ H s)
    (h : te σ H fun v H1 => ∃ (a : Addr) (xs : List V) (tr : Nat → Bool) (Γ : List (Str × V)), v = .ref a ∧ SqL X.K H1 a xs ∧ TabG H1 P ∧ Seen X σ sc Γ ∧ (∀ j w, xs[j]? = some w → PU X sc H1 ((x, w) :: Γ) elt (.bl (tr j))) ∧ R xs.length tr H1)
    (hQ : ∀ n tr H1 g s5, R n tr H1 → Rdy X pins σ H1 P n tr g s5 → Q' (.ref g) s5) :
    wpAny (model X.prog X.w) X.A (eval (.GeneratorExp elt [⟨.Name x px, iter, [], 0⟩] sc gpos) X.env) Q' X.xe s := by
  refine wpAny_GeneratorExp_walksQ hr.hd S.co (closure_ok S.free) S.cell S.dot S.loc S.kind (by have := hr.dp; omega) ?_ hs
  refine thn (hi.run pins s σ H _ I h) fun u s1 ⟨v, H1, I1, r1, a, xs, tr, Γ, ev, hl, ⟨ps, hP, ht⟩, sn, hel, hR⟩ => ?_
  subst ev
  cases (show u = Value.ref a from r1)
  obtain ⟨its, rv, pl, hz⟩ := I1.list hl
  have nlen := rv.length
  refine wpAny_pyIter_list pl.isList ?_
  -- the iterator stands behind all else
  have kp : ∀ b o, s1.heap.get? b = some o → (s1.heap.push { cls := .type "list_iterator", data := .fields #[.ref a, .int 0 0] }).get? b = some o := fun b o e => Heap.get?_push_of_some _ e
  have oP : s1.heap.get? P = some { cls := .none, data := .fields ps } := I1.hok P _ hP
  have nl2 : (s1.heap.push { cls := .type "list_iterator", data := .fields #[.ref a, .int 0 0] }).NoLimit := I1.nolimit.push _
  have hsz2 : (s1.heap.push { cls := .type "list_iterator", data := .fields #[.ref a, .int 0 0] }).objs.size = s1.heap.objs.size + 1 := Heap.size_push ..
  have itA : (s1.heap.push { cls := .type "list_iterator", data := .fields #[.ref a, .int 0 0] }).IsListIter s1.heap.objs.size a 0 := ⟨_, Heap.get?_push_size _ rfl, rfl, rfl⟩
  have hal : a < s1.heap.objs.size := by
    obtain ⟨o, e, _⟩ := pl.isList
    exact Heap.lt_size e
  refine ⟨nl2, code_step (ps := ps) hcode (TB.code.keeps fun b o e => kp b o (I1.bk b o e)) (kp _ _ oP) ht fun code h3 tk more ex ge hP3 ht3 => ?_⟩
  have ge : s1.heap.objs.size + 1 ≤ h3.objs.size := by
    rw [← hsz2]
    exact ge
  obtain ⟨bm, ob, e1, e2, e3, e4, e5, e6, e7, e8⟩ := TB.bm
  have k3 : ∀ b o, b ≠ P → s1.heap.get? b = some o → h3.get? b = some o := fun b o n e => ex b o n (kp b o e)
  refine wpAny_builtinsFor (m := X.mg) (by rw [I1.ok.glob]; exact ((I1.mod.glob.keeps I1.bk).keeps kp).extBut ex TB.gP) e1 e2 (k3 _ _ e4 (I1.bk _ _ e5)) e6 e7 e8 ?_
  have aP : a ≠ P := fun z => by
    obtain ⟨o, e, d, n, e'⟩ := pl.isList
    rw [z, oP] at e
    cases e
    cases e'
  have iP : s1.heap.objs.size ≠ P := fun z => by
    have := Heap.lt_size oP
    rw [← z] at this
    exact Nat.lt_irrefl _ this
  have cP : cStatics ≠ P := fun z => by
    obtain ⟨_, ⟨o, es, ep, ho, hd, _⟩, _⟩ := I1.nolimit
    rw [z, oP] at ho
    cases ho
    cases hd
  have cl : cStatics < s1.heap.objs.size := let ⟨_, q, _⟩ := I1.nolimit; q.lt
  refine ⟨s1.heap.objs.size, [s1.heap.objs.size, a], [s1.heap.objs.size], its.toArray.size, fun i v => its.toArray[i]? = some v, fun i h => h.IsListIter s1.heap.objs.size a i ∧ h.IsList a its.toArray, fun _ => true, fun i y => y = .bool (tr i), rfl,
    fun A' hA => Walks.list hA _ _ (Nat.ne_of_lt hal) _, ⟨itA.at fun o e => ex _ o iP e, ?_⟩, fun b hb => ?_, nl2.extBut ex cP, fun z => ?_, fun href hk => ⟨fun A' E' i v t m _ _ _ _ _ => ?_, fun A' E' i v t m hA hv _ hn hm kk => ?_⟩, fun g h5 tk5 gs bare lt5 sz5 k5 W at5 => ?_⟩
  · obtain ⟨o, e, r⟩ := pl.isList
    exact ⟨o, k3 a o aP e, r⟩
  · show b < h3.objs.size
    rcases List.mem_cons.mp hb with z | z
    · rw [z]
      exact Nat.lt_of_lt_of_le (Nat.lt_succ_self _) ge
    · rw [List.mem_singleton.mp z]
      exact Nat.lt_of_lt_of_le (Nat.lt_succ_of_lt hal) ge
  · have z2 := List.mem_singleton.mp z
    rw [z2] at cl
    exact Nat.lt_irrefl _ cl
  · rw [List.forIn_nil]
    exact wpAny_pure ⟨rfl, k0 t⟩
  · -- one element
    have up : ∀ b o, b ≠ P → s1.heap.get? b = some o → t.heap.get? b = some o := fun b o n e => by
      have lb := Heap.lt_size e
      refine kk b (List.mem_range.mpr (show b < h3.objs.size from Nat.lt_of_lt_of_le (Nat.lt_succ_of_lt lb) ge)) (fun y => ?_) o (hk b o (k3 b o n e))
      rw [List.mem_singleton.mp y] at lb
      exact Nat.lt_irrefl _ lb
    have hv' : its[i]? = some v := by simpa using hv
    obtain ⟨w, ew, rw'⟩ : ∃ w, xs[i]? = some w ∧ RelV w v := by
      have lt : i < xs.length := by
        rw [nlen]
        exact (List.getElem?_eq_some_iff.mp hv').1
      obtain ⟨y, ey, ry⟩ := rv.get (List.getElem?_eq_getElem lt)
      rw [hv'] at ey
      cases ey
      exact ⟨_, List.getElem?_eq_getElem lt, ry⟩
    refine hel i w ew _ A' t E' _ ?_ fun u t' ru ku => ⟨ru, ku⟩
    refine ⟨S.kind, rfl, I1.ok.glob, rfl, I1.mod, fun b o e => up b o (fun z => ?_) (I1.bk b o e), fun b o e n => (I1.hok b o e).stay (fun d y hd ey => up d y (fun z => ?_) ey) (fun _ y => y) fun _ _ y => y, fun y v' e => ?_⟩
    · have := (I1.bs b o e).2
      rw [z, hP] at this
      cases this
    · rcases hd with q | q
      · rw [← q, z, hP] at e
        exact n ps (Option.some.inj e).symm
      · rw [z, hP] at q
        cases q
    · rw [List.lookup_cons] at e
      cases b : y == x with
      | true =>
        rw [b] at e
        have e' : y = x := by simpa using b
        cases e
        exact ⟨v, rw', .inl ⟨by rw [e']; exact S.loc, m, hn, by rw [e']; exact hm⟩⟩
      | false =>
        rw [b] at e
        obtain ⟨j, hN, hσ, hv2, hf⟩ := sn y v' e
        obtain ⟨m1, _, hl1⟩ := I1.loc
        obtain ⟨u, ru, lk⟩ := hl1 j y v' hN hσ (.inr hv2)
        rcases lk with ⟨q1, _⟩ | ⟨_, cc, hc, hcell⟩
        · have q1' : X.env.scope.names.lookup y = some .local := q1
          rcases hv2 with q2 | q2 <;> (rw [q1'] at q2; cases q2)
        · obtain ⟨oc, ec, dc⟩ := hcell
          refine ⟨u, ru, .inr ⟨hf, cc, NdefX.clo_has S.free (pair_of_lookup hf) hc, oc, up cc oc (fun z => ?_) ec, dc⟩⟩
          rw [z, oP] at ec
          cases ec
          cases dc
  · -- behind its making
    simp only [GxR.passing_true, List.length_range] at W
    have en : its.toArray.size = xs.length := by rw [List.size_toArray, nlen]
    refine hQ its.toArray.size tr H1 g _ (by rw [en]; exact hR) ⟨_, _, _, _, _, W.in4_1, at5, fun j y sj Qj Ej hy hq => ?_, fun s' mv => ?_⟩
    · obtain ⟨i, hij, rfl⟩ := hy
      obtain ⟨_, ej⟩ := List.getElem?_eq_some_iff.mp hij
      rw [List.getElem_range] at ej
      rw [← ej]
      exact wpAny_truthy_bool hq
    · have out : ∀ b o, s1.heap.get? b = some o → b ∉ h3.objs.size :: [s1.heap.objs.size] := fun b o e y => by
        have lb := Heap.lt_size e
        rcases List.mem_cons.mp y with z | z
        · rw [z] at lb
          have : (h3.objs.size : Nat) < s1.heap.objs.size := lb
          omega
        · rw [List.mem_singleton.mp z] at lb
          exact Nat.lt_irrefl _ lb
      have J := GxR.inv_tab (more := more) (h' := s'.heap) (g' := s'.gens) (d' := s'.drawn) (t' := s'.toks) I1 hP (fun b o n e => mv.heap b o (out b o e) (k5 b o (k3 b o n e))) (mv.heap P _ (out P _ oP) (k5 P _ hP3)) (AllBare.movedS (I1.bare.push bare) mv)
      rw [GxR.sh_eta s1 s' mv.os] at J
      exact ⟨_, ⟨⟨_, upd_same, ht3⟩, fun b n => upd_ne n⟩, J⟩
/-- any(test for x in a list), all(..) -/
def tGenL (X : Cx) (P : Addr) (x : Str) (sc : Scope) (elt : Expr) (fold : Nat → (Nat → Bool) → Bool) (te : TE) : TE := fun σ H Q => te σ H fun v H1 => ∃ (a : Addr) (xs : List V) (tr : Nat → Bool) (Γ : List (Str × V)), v = .ref a ∧ SqL X.K H1 a xs ∧ TabG H1 P ∧
  Seen X σ sc Γ ∧ (∀ j w, xs[j]? = some w → PU X sc H1 ((x, w) :: Γ) elt (.bl (tr j))) ∧ ∀ H2, Tabbed P H1 H2 → Q (.bl (fold xs.length tr)) H2
def anyTo (n : Nat) (tr : Nat → Bool) : Bool := (List.range n).any tr
def allTo (n : Nat) (tr : Nat → Bool) : Bool := (List.range n).all tr
section
variable {c P : Addr} {elt iter : Expr} {x : Str} {px p pos gpos : Pos} {sc : Scope} {te : TE} {k : Nat}
theorem pe_anyL (hr : Room k X.A) (hg : Gl X "any") (hm : X.mg "any" = none) (TB : TabB X.base X.mg c P) (hcode : X.env.code = .ref c) (S : Gsc X sc x) (hi : PE X iter te) (hs : ∀ v, genFold iter X.env v = pure v)
    (he : starEach [.GeneratorExp elt [⟨.Name x px, iter, [], 0⟩] sc gpos] X.env = (false, eval (.GeneratorExp elt [⟨.Name x px, iter, [], 0⟩] sc gpos) X.env) :: starEach [] X.env := by rfl) :
    PE X (.Call (.Name "any" p) [.GeneratorExp elt [⟨.Name x px, iter, [], 0⟩] sc gpos] [] pos) (tGenL X P x sc elt anyTo te) := by
  refine ⟨fun pins s σ H Q I h => wpAny_Call_Name_kw (ld_blt I hg hm boot_any (PyProof.Rows.callWith_builtin1 ?_ he (by rfl)))⟩
  rw [he]
  refine Calls.spliced_cons (gen_list (R := fun n tr H1 => ∀ H2, Tabbed P H1 H2 → Q (.bl (anyTo n tr)) H2) hr TB hcode (S.gens I.ok) hi hs I h fun n tr H1 g s5 hR ⟨fp, wr, G, F, sq, W, h0, tt, aft⟩ => Calls.spliced_nil ?_)
  refine call_any_walkS (W.self 0 _ _ _ h0 ⟨g, fp, wr, G, _, F, sq, _, rfl, W, h0, tt, fun s' mv => ?_⟩)
  obtain ⟨H2, T, J⟩ := aft s' mv
  exact ⟨.bl _, H2, J, rfl, hR H2 T⟩
theorem pe_allL (hr : Room k X.A) (hg : Gl X "all") (hm : X.mg "all" = none) (TB : TabB X.base X.mg c P) (hcode : X.env.code = .ref c) (S : Gsc X sc x) (hi : PE X iter te) (hs : ∀ v, genFold iter X.env v = pure v)
    (he : starEach [.GeneratorExp elt [⟨.Name x px, iter, [], 0⟩] sc gpos] X.env = (false, eval (.GeneratorExp elt [⟨.Name x px, iter, [], 0⟩] sc gpos) X.env) :: starEach [] X.env := by rfl) :
    PE X (.Call (.Name "all" p) [.GeneratorExp elt [⟨.Name x px, iter, [], 0⟩] sc gpos] [] pos) (tGenL X P x sc elt allTo te) := by
  refine ⟨fun pins s σ H Q I h => wpAny_Call_Name_kw (ld_blt I hg hm (by decide +kernel : bootBuiltins "all" = some (.builtin "all")) (PyProof.Rows.callWith_builtin1 ?_ he (by rfl)))⟩
  rw [he]
  refine Calls.spliced_cons (gen_list (R := fun n tr H1 => ∀ H2, Tabbed P H1 H2 → Q (.bl (allTo n tr)) H2) hr TB hcode (S.gens I.ok) hi hs I h fun n tr H1 g s5 hR ⟨fp, wr, G, F, sq, W, h0, tt, aft⟩ => Calls.spliced_nil ?_)
  refine call_all_walkS (W.self 0 _ _ _ h0 ⟨g, fp, wr, G, _, F, sq, _, rfl, W, h0, tt, fun s' mv => ?_⟩)
  obtain ⟨H2, T, J⟩ := aft s' mv
  exact ⟨.bl _, H2, J, rfl, hR H2 T⟩
end
end
end LE
-- GB
/-! any and all of a generator expression over enumerate(a list) -/
namespace LE
open PySem PySem.Spec PyProof.Rows L2
open GxR (TabB TabG Tabbed GenS)
section
variable {X : Cx} {pins : List (Addr × Obj)} {σ : L2.St} {H : Hp} {s : Shared}
/-- what the element sees, from what stands where the generator is made -/
theorem site_of {P : Addr} {ps : Array Value} {sc : Scope} {x : Str} {Γ L : List (Str × V)} {ce : Env} {s1 t : Shared} {H1 : Hp} {m : Str → Option Value} (S : GenS X.env sc x) (I1 : Inv X pins σ H1 s1) (hP : H1 P = some (.tbl ps)) (sn : Seen X σ sc Γ)
    (up : ∀ b o, b ≠ P → s1.heap.get? b = some o → t.heap.get? b = some o) (es : ce.scope = sc) (eg : ce.globals = mainGlobals) (eb : ce.builtins = builtinsNs) (ec : ce.cells = cloFrom X.env.cells sc.names [])
    (hn : t.heap.Ns ce.locals m) (loc : ∀ y v, L.lookup y = some v → sc.names.lookup y = some .local ∧ ∃ u, RelV v u ∧ m y = some u) : Site X sc H1 (L ++ Γ) ce t := by
  have oP : s1.heap.get? P = some { cls := .none, data := .fields ps } := I1.hok P _ hP
  refine ⟨S.kind, es, eg, eb, I1.mod, fun b o e => up b o (fun z => ?_) (I1.bk b o e), fun b o e n => (I1.hok b o e).stay (fun d y hd ey => up d y (fun z => ?_) ey) (fun _ y => y) fun _ _ y => y, fun y v e => ?_⟩
  · have := (I1.bs b o e).2
    rw [z, hP] at this
    cases this
  · rcases hd with q | q
    · rw [← q, z, hP] at e
      exact n ps (Option.some.inj e).symm
    · rw [z, hP] at q
      cases q
  · have split : ∀ L : List (Str × V), (L ++ Γ).lookup y = some v → L.lookup y = some v ∨ Γ.lookup y = some v := fun L => by
      induction L with
      | nil => exact fun z => .inr z
      | cons p r ih =>
        intro z
        rw [List.cons_append, List.lookup_cons] at z
        rw [List.lookup_cons]
        cases q : y == p.1 with
        | true =>
          rw [q] at z
          exact .inl z
        | false =>
          rw [q] at z
          exact ih z
    rcases split L e with e | e
    · obtain ⟨hl, u, ru, hm⟩ := loc y v e
      exact ⟨u, ru, .inl ⟨hl, m, hn, hm⟩⟩
    · obtain ⟨j, hN, hσ, hv2, hf⟩ := sn y v e
      obtain ⟨m1, _, hl1⟩ := I1.loc
      obtain ⟨u, ru, lk⟩ := hl1 j y v hN hσ (.inr hv2)
      rcases lk with ⟨q1, _⟩ | ⟨_, cc, hc, hcell⟩
      · have q1' : X.env.scope.names.lookup y = some .local := q1
        rcases hv2 with q2 | q2 <;> (rw [q1'] at q2; cases q2)
      · obtain ⟨oc, e1, dc⟩ := hcell
        refine ⟨u, ru, .inr ⟨hf, cc, by rw [ec]; exact NdefX.clo_has S.free (pair_of_lookup hf) hc, oc, up cc oc (fun z => ?_) e1, dc⟩⟩
        rw [z, oP] at e1
        cases e1
        cases dc
theorem gen_enum {c P : Addr} {elt e : Expr} {xa xb : Str} {pa pb pt ep np gpos : Pos} {kt : Nat} {sc : Scope} {ta : TA} {k : Nat} {Q' : Value → Shared → Prop} {R : Nat → (Nat → Bool) → Hp → Prop}
    (hr : Room k X.A) (TB : TabB X.base X.mg c P) (hcode : X.env.code = .ref c) (S : GenS X.env sc xa) (hb : sc.names.lookup xb = some .local) (hab : xa ≠ xb) (hg : Gl X "enumerate") (hm : X.mg "enumerate" = none) (hi : PA X [e] ta)
    (hst : starEach [e] X.env = [(false, eval e X.env)]) (hs : ∀ v, genFold (.Call (.Name "enumerate" np) [e] [] ep) X.env v = pure v) (I : Inv X pins σ H s)
    (h : ta σ H fun vs H1 => ∃ (a : Addr) (xs : List V) (tr : Nat → Bool) (Γ : List (Str × V)), vs = [.ref a] ∧ SqL X.K H1 a xs ∧ TabG H1 P ∧ Seen X σ sc Γ ∧ (∀ j w, xs[j]? = some w → PU X sc H1 ([(xb, w), (xa, .int (j : Int))] ++ Γ) elt (.bl (tr j))) ∧ R xs.length tr H1)
    (hQ : ∀ n tr H1 g s5, R n tr H1 → Rdy X pins σ H1 P n tr g s5 → Q' (.ref g) s5) :
    wpAny (model X.prog X.w) X.A (eval (.GeneratorExp elt [⟨.Tuple [.Name xa pa, .Name xb pb] kt pt, .Call (.Name "enumerate" np) [e] [] ep, [], 0⟩] sc gpos) X.env) Q' X.xe s := by
  refine wpAny_GeneratorExp_walksQT hr.hd S.co (closure_ok S.free) S.cell S.dot S.loc hb hab S.kind (by have := hr.dp; omega) ?_ hs
  refine Call_ (ld_blt I hg hm boot_enumerate (PyProof.Rows.callWith_type1 (thn (hi.run ep pins s σ H _ I h) fun us s1 ⟨vs, H1, I1, r1, a, xs, tr, Γ, ev, hl, ⟨ps, hP, ht⟩, sn, hel, hR⟩ => ?_) hst rfl))
  subst ev
  obtain ⟨u, rfl, r2⟩ := vals1 r1
  cases (show u = Value.ref a from r2)
  obtain ⟨its, rv, pl, hz⟩ := I1.list hl
  have nlen := rv.length
  have oP : s1.heap.get? P = some { cls := .none, data := .fields ps } := I1.hok P _ hP
  have hal : a < s1.heap.objs.size := by
    obtain ⟨o, q, _⟩ := pl.isList
    exact Heap.lt_size q
  refine call_enumerate_list pl.isList fun h2 en2 it2 sz2 kp => wpAny_pyIter_enum en2 ?_
  have nl2 : h2.NoLimit := I1.nolimit.keeps kp
  refine ⟨nl2, code_step (ps := ps) hcode (TB.code.keeps fun b o q => kp b o (I1.bk b o q)) (kp _ _ oP) ht fun code h3 tk more ex ge hP3 ht3 => ?_⟩
  have ge : s1.heap.objs.size + 2 ≤ h3.objs.size := by
    rw [← sz2]
    exact ge
  obtain ⟨bm, ob, e1, e2, e3, e4, e5, e6, e7, e8⟩ := TB.bm
  have k3 : ∀ b o, b ≠ P → s1.heap.get? b = some o → h3.get? b = some o := fun b o n q => ex b o n (kp b o q)
  refine wpAny_builtinsFor (m := X.mg) (by rw [I1.ok.glob]; exact ((I1.mod.glob.keeps I1.bk).keeps kp).extBut ex TB.gP) e1 e2 (k3 _ _ e4 (I1.bk _ _ e5)) e6 e7 e8 ?_
  have aP : a ≠ P := fun z => by
    obtain ⟨o, q, d, n, q'⟩ := pl.isList
    rw [z, oP] at q
    cases q
    cases q'
  have Plt : P < s1.heap.objs.size := Heap.lt_size oP
  have nP : ∀ b : Addr, s1.heap.objs.size ≤ b → b ≠ P := fun b q z => by
    rw [z] at q
    exact absurd (Nat.lt_of_lt_of_le Plt q) (Nat.lt_irrefl _)
  have cP : cStatics ≠ P := fun z => by
    obtain ⟨_, ⟨o, es, q, ho, hd, _⟩, _⟩ := I1.nolimit
    rw [z, oP] at ho
    cases ho
    cases hd
  have cl : cStatics < s1.heap.objs.size := let ⟨_, q, _⟩ := I1.nolimit; q.lt
  have young : ∀ b, b ∈ [s1.heap.objs.size + 1, s1.heap.objs.size] → s1.heap.objs.size ≤ b := fun b q => by
    rcases List.mem_cons.mp q with z | z
    · rw [z]; exact Nat.le_succ _
    · rw [List.mem_singleton.mp z]; exact Nat.le_refl _
  refine ⟨s1.heap.objs.size + 1, [s1.heap.objs.size + 1, s1.heap.objs.size, a], [s1.heap.objs.size + 1, s1.heap.objs.size], its.toArray.size, fun i vals => ∃ t x, its.toArray[i]? = some x ∧ vals = #[.int i t, x], _, _, fun _ => true, fun i y => y = .bool (tr i), rfl,
    fun A' hA => (WalksT.enumerate hA _ _ _ (Nat.succ_ne_self _) (Nat.ne_of_lt (Nat.lt_succ_of_lt hal)) (Nat.ne_of_lt hal) its.toArray).toU, fun i vals ⟨t, x, _, q⟩ => ⟨_, _, q⟩, ⟨⟨.none, ex _ _ (nP _ (Nat.le_succ _)) en2⟩, it2.at fun o q => ex _ o (nP _ (Nat.le_refl _)) q, ?_⟩, fun b hb2 => ?_, nl2.extBut ex cP, fun z => ?_,
    fun href hk => ⟨fun A' E' i va vb t m _ _ _ _ _ _ => ?_, fun A' E' i va vb t m hA hv _ hn hm1 hm2 kk => ?_⟩, fun g h5 tk5 gs bare lt5 sz5 k5 W at5 => ?_⟩
  · obtain ⟨o, q, r⟩ := pl.isList
    exact ⟨o, k3 a o aP q, r⟩
  · show b < h3.objs.size
    rcases List.mem_cons.mp hb2 with z | z
    · rw [z]
      exact Nat.lt_of_lt_of_le (Nat.lt_succ_self _) ge
    · rcases List.mem_cons.mp z with z | z
      · rw [z]
        exact Nat.lt_of_lt_of_le (Nat.lt_succ_of_lt (Nat.lt_succ_self _)) ge
      · rw [List.mem_singleton.mp z]
        exact Nat.lt_of_lt_of_le (Nat.lt_succ_of_lt (Nat.lt_succ_of_lt hal)) ge
  · exact absurd (Nat.lt_of_lt_of_le cl (young _ z)) (Nat.lt_irrefl _)
  · rw [List.forIn_nil]
    exact wpAny_pure ⟨rfl, k0 t⟩
  · have up : ∀ b o, b ≠ P → s1.heap.get? b = some o → t.heap.get? b = some o := fun b o n q => by
      have lb := Heap.lt_size q
      exact kk b (List.mem_range.mpr (show b < h3.objs.size from Nat.lt_of_lt_of_le (Nat.lt_succ_of_lt (Nat.lt_succ_of_lt lb)) ge)) (fun y => absurd (Nat.lt_of_lt_of_le lb (young _ y)) (Nat.lt_irrefl _)) o (hk b o (k3 b o n q))
    obtain ⟨tk', x, hx, ev⟩ := hv
    have ev' : va = .int i tk' ∧ vb = x := by simpa using ev
    obtain ⟨rfl, rfl⟩ := ev'
    have hv' : its[i]? = some vb := by simpa using hx
    obtain ⟨w, ew, rw'⟩ : ∃ w, xs[i]? = some w ∧ RelV w vb := by
      have lt : i < xs.length := by
        rw [nlen]
        exact (List.getElem?_eq_some_iff.mp hv').1
      obtain ⟨y, ey, ry⟩ := rv.get (List.getElem?_eq_getElem lt)
      rw [hv'] at ey
      cases ey
      exact ⟨_, List.getElem?_eq_getElem lt, ry⟩
    refine hel i w ew _ A' t E' _ (site_of S I1 hP sn up rfl I1.ok.glob rfl rfl hn fun y v q => ?_) fun u t' ru ku => ⟨ru, ku⟩
    rw [List.lookup_cons] at q
    cases b1 : y == xb with
    | true =>
      rw [b1] at q
      cases q
      rw [show y = xb by simpa using b1]
      exact ⟨hb, vb, rw', hm2⟩
    | false =>
      rw [b1, List.lookup_cons] at q
      cases b2 : y == xa with
      | true =>
        rw [b2] at q
        cases q
        rw [show y = xa by simpa using b2]
        exact ⟨S.loc, _, ⟨_, rfl⟩, hm1⟩
      | false =>
        rw [b2] at q
        cases q
  · simp only [GxR.passing_true, List.length_range] at W
    have en : its.toArray.size = xs.length := by rw [List.size_toArray, nlen]
    refine hQ its.toArray.size tr H1 g _ (by rw [en]; exact hR) ⟨_, _, _, _, _, W.in4_1, at5, fun j y sj Qj Ej hy hq => ?_, fun s' mv => ?_⟩
    · obtain ⟨i, hij, rfl⟩ := hy
      obtain ⟨_, ej⟩ := List.getElem?_eq_some_iff.mp hij
      rw [List.getElem_range] at ej
      rw [← ej]
      exact wpAny_truthy_bool hq
    · have out : ∀ b o, s1.heap.get? b = some o → b ∉ h3.objs.size :: [s1.heap.objs.size + 1, s1.heap.objs.size] := fun b o q y => by
        have lb := Heap.lt_size q
        rcases List.mem_cons.mp y with z | z
        · rw [z] at lb
          exact absurd (Nat.lt_of_le_of_lt (Nat.le_trans (Nat.le_succ _) (Nat.le_trans (Nat.le_succ _) ge)) lb) (Nat.lt_irrefl _)
        · exact absurd (Nat.lt_of_lt_of_le lb (young _ z)) (Nat.lt_irrefl _)
      have J := GxR.inv_tab (more := more) (h' := s'.heap) (g' := s'.gens) (d' := s'.drawn) (t' := s'.toks) I1 hP (fun b o n q => mv.heap b o (out b o q) (k5 b o (k3 b o n q))) (mv.heap P _ (out P _ oP) (k5 P _ hP3)) (AllBare.movedS (I1.bare.push bare) mv)
      rw [GxR.sh_eta s1 s' mv.os] at J
      exact ⟨_, ⟨⟨_, upd_same, ht3⟩, fun b n => upd_ne n⟩, J⟩
def tGenE (X : Cx) (P : Addr) (xa xb : Str) (sc : Scope) (elt : Expr) (fold : Nat → (Nat → Bool) → Bool) (ta : TA) : TE := fun σ H Q => ta σ H fun vs H1 => ∃ (a : Addr) (xs : List V) (tr : Nat → Bool) (Γ : List (Str × V)), vs = [.ref a] ∧ SqL X.K H1 a xs ∧ TabG H1 P ∧
  Seen X σ sc Γ ∧ (∀ j w, xs[j]? = some w → PU X sc H1 ([(xb, w), (xa, .int (j : Int))] ++ Γ) elt (.bl (tr j))) ∧ ∀ H2, Tabbed P H1 H2 → Q (.bl (fold xs.length tr)) H2
section
variable {c P : Addr} {elt e : Expr} {xa xb : Str} {pa pb pt ep np p pos gpos : Pos} {kt : Nat} {sc : Scope} {ta : TA} {k : Nat}
theorem pe_anyE (hr : Room k X.A) (hg : Gl X "any") (hm : X.mg "any" = none) (TB : TabB X.base X.mg c P) (hcode : X.env.code = .ref c) (S : Gsc X sc xa) (hb : sc.names.lookup xb = some .local) (hab : xa ≠ xb) (hge : Gl X "enumerate") (hme : X.mg "enumerate" = none)
    (hi : PA X [e] ta) (hst : starEach [e] X.env = [(false, eval e X.env)]) (hs : ∀ v, genFold (.Call (.Name "enumerate" np) [e] [] ep) X.env v = pure v)
    (he : starEach [.GeneratorExp elt [⟨.Tuple [.Name xa pa, .Name xb pb] kt pt, .Call (.Name "enumerate" np) [e] [] ep, [], 0⟩] sc gpos] X.env = (false, eval (.GeneratorExp elt [⟨.Tuple [.Name xa pa, .Name xb pb] kt pt, .Call (.Name "enumerate" np) [e] [] ep, [], 0⟩] sc gpos) X.env) :: starEach [] X.env := by rfl) :
    PE X (.Call (.Name "any" p) [.GeneratorExp elt [⟨.Tuple [.Name xa pa, .Name xb pb] kt pt, .Call (.Name "enumerate" np) [e] [] ep, [], 0⟩] sc gpos] [] pos) (tGenE X P xa xb sc elt anyTo ta) := by
  refine ⟨fun pins s σ H Q I h => wpAny_Call_Name_kw (ld_blt I hg hm boot_any (PyProof.Rows.callWith_builtin1 ?_ he (by rfl)))⟩
  rw [he]
  refine Calls.spliced_cons (gen_enum (R := fun n tr H1 => ∀ H2, Tabbed P H1 H2 → Q (.bl (anyTo n tr)) H2) hr TB hcode (S.gens I.ok) hb hab hge hme hi hst hs I h fun n tr H1 g s5 hR ⟨fp, wr, G, F, sq, W, h0, tt, aft⟩ => Calls.spliced_nil ?_)
  refine call_any_walkS (W.self 0 _ _ _ h0 ⟨g, fp, wr, G, _, F, sq, _, rfl, W, h0, tt, fun s' mv => ?_⟩)
  obtain ⟨H2, T, J⟩ := aft s' mv
  exact ⟨.bl _, H2, J, rfl, hR H2 T⟩
end
end
end LE
-- GT
/-! the law's own call under known guards, with the tables of the code objects that hold generator expressions -/
namespace LG
open PySem PySem.Spec PyProof.Rows L2
open GxR (TabB)
section
variable {P : Program} {w : World} {K : PySem.W.Frag} {mg mb : Str → Option Value} {k : Nat} {fa a : Addr} {fd : FuncData} {x : Str} {sp : Sp} {s₁ : Shared} {vs : List Value} {ns : List Int} {cs : List (Addr × Addr)}
/-- the abstract heap at the start: the script (if it is no written thing), the tables, nothing else -/
structure Begin (K : PySem.W.Frag) (cs : List (Addr × Addr)) (a : Addr) (H : Hp) : Prop where
  tab : ∀ p ∈ cs, H p.2 = some (.tbl #[])
  only : ∀ b u, H b = some u → (b ∈ cs.map (·.2) ∧ u = .tbl #[]) ∨ (b = a ∧ K.lookup a = none ∧ ∃ o xs, u = .frz o (.lst xs))
theorem enterT (KX : K.In s₁.heap) (gl : s₁.heap.Ns mainGlobals mg) (bl : s₁.heap.Ns builtinsNs mb) (bb : ∀ y : Str, y ≠ "__name__" → mb y = bootBuiltins y) (nl : s₁.heap.NoLimit) (g0 : s₁.gens = #[])
    (tb : ∀ p ∈ cs, s₁.heap.get? p.2 = some { cls := .none, data := .fields #[] }) (nk : ∀ p ∈ cs, K.lookup p.2 = none) (hd : ∀ p ∈ cs, PySem.W.CodeHd s₁.heap p.1 p.2)
    (bmn : ∃ (bm : Addr) (ob : Obj), mg "__builtins__" = some (.ref bm) ∧ bm ≠ builtinsNs ∧ s₁.heap.get? bm = some ob ∧ ob.cls = .type "module" ∧ ob.dict = some builtinsNs ∧ ob.data = .plain)
    (at_ : s₁.heap.get? a = some { cls := .type "list", data := .seq vs.toArray }) (room : Room k callerA) (bind : ∀ (s : Shared) (u : Value), BindsTo s fd ⟨[u], []⟩ [(x, u)])
    (F : ∀ base : Heap, K.In base → base.Ns mainGlobals mg → (∀ p ∈ cs, TabB base mg p.1 p.2) → FnG P w K mg base CX0 k fa fd [x] sp) {H : Hp} (bg : Begin K cs a H) (ok : HOk P w H s₁.heap)
    (want : sp [.ref a] H (fun v _ => v = .bl true) fun _ _ _ => False) :
    codeAny (model P w) callerA (.call (.ref fa) ⟨[.ref a], []⟩) (fun r s' => r = .ok (.ret (.bool true)) ∧ OldK s₁.heap s'.heap ∧ s'.os = s₁.os ∧ AllBare s'.gens) s₁ := by
  have tbm : ∀ b, b ∈ cs.map (·.2) → s₁.heap.get? b = some { cls := .none, data := .fields #[] } := fun b z => by
    obtain ⟨p, hp, rfl⟩ := List.mem_map.mp z
    exact tb p hp
  -- what is no list and no table is not told of
  have free : ∀ {b : Addr} {o : Obj}, s₁.heap.get? b = some o → (∀ it n, o.data ≠ .seq it n) → o.data ≠ .fields #[] → H b = none := fun {b o} z nd nf => by
    cases q : H b with
    | none => rfl
    | some u =>
      rcases bg.only b u q with ⟨m, _⟩ | ⟨rfl, _⟩
      · rw [tbm b m] at z
        cases z
        exact absurd rfl nf
      · rw [at_] at z
        cases z
        exact absurd rfl (nd vs.toArray _)
  have dic : ∀ {b : Addr} {o : Obj} {es : Array DictEntry} {ep : Nat}, s₁.heap.get? b = some o → o.data = .dict es ep → H b = none := fun {b o es ep} z d => free z (fun it n y => by rw [d] at y; exact nomatch y) fun y => by rw [d] at y; exact nomatch y
  have nsOf : ∀ {b : Addr} {m : Str → Option Value}, s₁.heap.Ns b m → (hidT s₁.heap H).Ns b m := fun {b m} ⟨o, es, ep, z, d, r⟩ => ⟨o, es, ep, hidT_get z (dic z d), d, r⟩
  have inB : K.In (hidT s₁.heap H) := fun b o z => by
    refine hidT_get (KX b o z) ?_
    cases q : H b with
    | none => rfl
    | some u =>
      rcases bg.only b u q with ⟨m, _⟩ | ⟨rfl, nl, _⟩
      · obtain ⟨p, hp, rfl⟩ := List.mem_map.mp m
        rw [nk p hp] at z
        cases z
      · rw [nl] at z
        cases z
  have md : Mod K mg (hidT s₁.heap H) := ⟨inB, nsOf gl, ⟨mb, nsOf bl, bb⟩, let ⟨mc, y1, y2⟩ := nl; ⟨mc, nsOf y1, y2⟩⟩
  have tabs : ∀ p ∈ cs, TabB (hidT s₁.heap H) mg p.1 p.2 := fun p hp => by
    have hP := tb p hp
    refine ⟨?_, ?_, fun z => ?_⟩
    · obtain ⟨o, us, f, tf, fl, tg, i, t, tt, z, c1, c2, c3, r⟩ := hd p hp
      refine ⟨o, us, f, tf, fl, tg, i, t, tt, hidT_get z (free z (fun it n y => by rw [c2] at y; exact nomatch y) fun y => ?_), c1, c2, c3, r⟩
      rw [c2] at y
      cases y
      simp at c3
    · obtain ⟨bm, ob, b1, b2, b3, b4, b5, b6⟩ := bmn
      refine ⟨bm, ob, b1, b2, fun z => ?_, fun z => ?_, hidT_get b3 (free b3 (fun it n y => by rw [b6] at y; exact nomatch y) fun y => by rw [b6] at y; exact nomatch y), b4, b5, b6⟩
      · obtain ⟨o, es, ep, e, d, _⟩ := gl
        rw [z, e] at b3
        cases b3
        rw [d] at b6
        exact nomatch b6
      · rw [z, hP] at b3
        cases b3
        exact nomatch b6
    · obtain ⟨o, es, ep, e, d, _⟩ := gl
      rw [z, hP] at e
      cases e
      exact nomatch d
  have en : Env0 P w K mg (hidT s₁.heap H) callerA [] s₁ H := ⟨rfl, md, fun b o z => of_hidT z, Nat.le_of_eq (hidT_size _ _), trivial, fun b z => absurd (show b ∈ ([] : List Addr) from z) (List.not_mem_nil), ok, .of_eq g0⟩
  refine codeAny_mono ((F _ inB (nsOf gl) tabs).run callerA [] s₁ H ⟨[.ref a], []⟩ [.ref a] [.ref a] _ _ room rfl en (bind s₁ (.ref a)) (.cons rfl .nil) want) fun r s' h => ?_
  cases r with
  | error e => exact False.elim h
  | ok fl =>
    cases fl with
    | next => exact False.elim h
    | brk => exact False.elim h
    | cont => exact False.elim h
    | ret u =>
      obtain ⟨v, G, e1, e2, un, okG, rel, q⟩ := h
      obtain rfl : v = V.bl true := q
      obtain rfl : u = Value.bool true := rel
      -- a table may have grown, all else stands
      have grow : ∀ p ∈ cs, ∃ more : Array Value, s'.heap.get? p.2 = some { cls := .none, data := .fields more } := fun p hp => by
        obtain ⟨more, z⟩ := un.tbls p.2 #[] (bg.tab p hp)
        exact ⟨_, okG p.2 _ z⟩
      have stay : ∀ b o, b ∉ cs.map (·.2) → s₁.heap.get? b = some o → s'.heap.get? b = some o := fun b o nb z => by
        cases q : H b with
        | none => exact un.keep b o z q (fun y => nomatch y) (fun y => nomatch y)
        | some u =>
          rcases bg.only b u q with ⟨m, _⟩ | ⟨_, _, ob, xs, rfl⟩
          · exact absurd m nb
          · have z1 := (ok b _ q).1
            have z2 := (okG b _ (un.frzs b ob _ q)).1
            rw [z] at z1
            cases z1
            exact z2
      refine ⟨rfl, ⟨fun b o z => ?_, fun b o z => ?_⟩, e1, e2⟩
      · by_cases m : b ∈ cs.map (·.2)
        · obtain ⟨p, hp, rfl⟩ := List.mem_map.mp m
          obtain ⟨more, hm⟩ := grow p hp
          rw [tb p hp] at z
          cases z
          exact .inr (.inl ⟨((hd p hp).tab (tb p hp)).isCodeTable, rfl, #[], more, rfl, by rw [Array.empty_append]; exact hm⟩)
        · exact .inl (stay b o m z)
      · by_cases m : b ∈ cs.map (·.2)
        · obtain ⟨p, hp, rfl⟩ := List.mem_map.mp m
          obtain ⟨more, hm⟩ := grow p hp
          exact ⟨_, hm⟩
        · exact ⟨o, stay b o m z⟩
theorem enterT_all (KX : K.In s₁.heap) (gl : s₁.heap.Ns mainGlobals mg) (bl : s₁.heap.Ns builtinsNs mb) (bb : ∀ y : Str, y ≠ "__name__" → mb y = bootBuiltins y) (nl : s₁.heap.NoLimit) (g0 : s₁.gens = #[])
    (tb : ∀ p ∈ cs, s₁.heap.get? p.2 = some { cls := .none, data := .fields #[] }) (nk : ∀ p ∈ cs, K.lookup p.2 = none) (hd : ∀ p ∈ cs, PySem.W.CodeHd s₁.heap p.1 p.2)
    (bmn : ∃ (bm : Addr) (ob : Obj), mg "__builtins__" = some (.ref bm) ∧ bm ≠ builtinsNs ∧ s₁.heap.get? bm = some ob ∧ ob.cls = .type "module" ∧ ob.dict = some builtinsNs ∧ ob.data = .plain)
    (at_ : s₁.heap.get? a = some { cls := .type "list", data := .seq vs.toArray }) (ia : IntsAre vs ns) (small : ns.length ≤ sizeLine) (room : Room k callerA) (bind : ∀ (s : Shared) (u : Value), BindsTo s fd ⟨[u], []⟩ [(x, u)])
    (F : ∀ base : Heap, K.In base → base.Ns mainGlobals mg → (∀ p ∈ cs, TabB base mg p.1 p.2) → FnG P w K mg base CX0 k fa fd [x] sp)
    (want : ∀ H : Hp, (∀ p ∈ cs, H p.2 = some (.tbl #[])) → SqL K H a (ns.map V.int) → sp [.ref a] H (fun v _ => v = .bl true) fun _ _ _ => False) :
    codeAny (model P w) callerA (.call (.ref fa) ⟨[.ref a], []⟩) (fun r s' => r = .ok (.ret (.bool true)) ∧ OldK s₁.heap s'.heap ∧ s'.os = s₁.os ∧ AllBare s'.gens) s₁ := by
  have rel := vals_ints ia
  have len := ia.length
  have tbm : ∀ b, b ∈ cs.map (·.2) → s₁.heap.get? b = some { cls := .none, data := .fields #[] } := fun b z => by
    obtain ⟨p, hp, rfl⟩ := List.mem_map.mp z
    exact tb p hp
  have an : a ∉ cs.map (·.2) := fun z => by
    have e := tbm a z
    rw [at_] at e
    exact nomatch congrArg Obj.data (Option.some.inj e)
  have mem : ∀ p ∈ cs, p.2 ∈ cs.map (·.2) := fun p hp => List.mem_map.mpr ⟨p, hp, rfl⟩
  cases hk : K.lookup a with
  | some o =>
    have z := KX a o hk
    rw [at_] at z
    cases z
    let H : Hp := fun b => if b ∈ cs.map (·.2) then some (.tbl #[]) else none
    have e1 : ∀ b, b ∈ cs.map (·.2) → H b = some (.tbl #[]) := fun b m => if_pos m
    have e2 : ∀ b u, H b = some u → b ∈ cs.map (·.2) ∧ u = .tbl #[] := fun b u z => by
      by_cases m : b ∈ cs.map (·.2)
      · rw [e1 b m] at z
        cases z
        exact ⟨m, rfl⟩
      · rw [show H b = none from if_neg m] at z
        cases z
    refine enterT KX gl bl bb nl g0 tb nk hd bmn at_ room bind F (H := H) ⟨fun p hp => e1 _ (mem p hp), fun b u z => .inl (e2 b u z)⟩ (fun b u z => ?_)
      (want H (fun p hp => e1 _ (mem p hp)) (.inr ⟨_, vs.toArray, _, hk, rfl, rfl, rfl, by rw [List.size_toArray, len]; exact small, by simpa using rel⟩))
    obtain ⟨m, rfl⟩ := e2 b u z
    exact tbm b m
  | none =>
    let ob : Obj := { cls := .type "list", data := .seq vs.toArray }
    let H : Hp := fun b => if b = a then some (.frz ob (.lst (ns.map V.int))) else if b ∈ cs.map (·.2) then some (.tbl #[]) else none
    have hit : H a = some (.frz ob (.lst (ns.map V.int))) := if_pos rfl
    have e1 : ∀ b, b ∈ cs.map (·.2) → H b = some (.tbl #[]) := fun b m => (if_neg (fun z => an (by rw [← z]; exact m))).trans (if_pos m)
    have e2 : ∀ b u, H b = some u → (b ∈ cs.map (·.2) ∧ u = .tbl #[]) ∨ (b = a ∧ u = .frz ob (.lst (ns.map V.int))) := fun b u z => by
      by_cases i : b = a
      · rw [i, hit] at z
        cases z
        exact .inr ⟨i, rfl⟩
      · by_cases m : b ∈ cs.map (·.2)
        · rw [e1 b m] at z
          cases z
          exact .inl ⟨m, rfl⟩
        · rw [show H b = none from (if_neg i).trans (if_neg m)] at z
          cases z
    refine enterT KX gl bl bb nl g0 tb nk hd bmn at_ room bind F (H := H) ⟨fun p hp => e1 _ (mem p hp), fun b u z => (e2 b u z).imp id fun ⟨i, e⟩ => ⟨i, hk, ob, _, e⟩⟩ (fun b u z => ?_) (want H (fun p hp => e1 _ (mem p hp)) (.inl (.inr ⟨ob, hit⟩)))
    rcases e2 b u z with ⟨m, rfl⟩ | ⟨rfl, rfl⟩
    · exact tbm b m
    · exact ⟨at_, by rw [List.length_map]; exact small, vs, _, rel, at_⟩
end
/-- a def of the text whose code object's table is empty at the law's start -/
def Bare (mg : Str → Option Value) (h : Heap) (nm : Str) : Prop := ∃ (a c P : Addr) (o : Obj) (fd : FuncData), mg nm = some (.ref a) ∧ h.get? a = some o ∧ o.data = .func fd ∧ fd.code = .ref c ∧ PySem.W.CodeHd h c P ∧ h.get? P = some { cls := .none, data := .fields #[] }
/-- what k_head leaves, from the law's promise; nms: the defs that hold generator expressions -/
theorem walkGT {l : PySem.W.OpenLaw} {n k : Nat} {q : Program} {loose : List Str} {XP : (Str → Option Value) → Heap → Prop} {YP : World → Heap → Prop} {d : DefRec} {K : Params → PySem.W.Frag} {x : Str} (nms : List Str)
    (hn : l.most = some n) (hz : n ≤ sizeLine) (hdf : d.params.defaults = []) (room : Room k callerA) (hrec : (nms.all fun nm => (recsOf q).any fun e => e.name == nm) = true) (hY : ∀ (w : World) (h : Heap), YP w h → (K w.params).In h)
    (F : ∀ (w : World) (mg : Str → Option Value) (fa : Addr) (h : Heap), (K w.params).In h → h.Ns mainGlobals mg → mg d.name = some (.ref fa) → (∀ nm ∈ nms, Bare mg h nm) →
      ∃ (fd : FuncData) (cs : List (Addr × Addr)) (sp : Sp), (∀ p ∈ cs, h.get? p.2 = some { cls := .none, data := .fields #[] }) ∧ (∀ p ∈ cs, (K w.params).lookup p.2 = none) ∧ (∀ p ∈ cs, PySem.W.CodeHd h p.1 p.2) ∧ (∀ (s : Shared) (u : Value), BindsTo s fd ⟨[u], []⟩ [(x, u)]) ∧
        (∀ (H : Hp) (a : Addr) (ns : List Int), ns.length ≤ n → (∀ p ∈ cs, H p.2 = some (.tbl #[])) → SqL (K w.params) H a (ns.map V.int) → sp [.ref a] H (fun v _ => v = .bl true) fun _ _ _ => False) ∧
        ∀ base : Heap, (K w.params).In base → base.Ns mainGlobals mg → (∀ p ∈ cs, TabB base mg p.1 p.2) → FnG l.prog w (K w.params) mg base CX0 k fa fd [x] sp) :
    PySem.W.WalkO q loose XP YP l.row.toRowW d [] (fun f vs => PySem.call f vs) := by
  refine Att.attach_call hn hdf fun w s0 s1 mg mb fa o pm cd doc a vs ns G Y ho hd hcd hmg hobj ia len g0 => ?_
  obtain ⟨fd, cs, sp, t1, t2, t3, bi, wt, FF⟩ := F w mg fa _ (hY w _ Y) G.T.g hmg fun nm hnm => by
    obtain ⟨e, he, en⟩ := List.any_eq_true.mp (List.all_eq_true.mp hrec nm hnm)
    obtain ⟨b, o2, fd2, c2, P2, h1, h2, h3, h4, h5, h6⟩ := G.T.tab e he
    rw [beq_iff_eq.mp en] at h1
    exact ⟨b, c2, P2, o2, fd2, h1, h2, h3, h4, PySem.W.CodeHd.of h5 h6, h6.2⟩
  exact enterT_all (hY w _ Y) G.T.g G.T.b G.T.builtins G.T.nolimit g0 t1 t2 t3 G.T.bmain hobj ia (Nat.le_trans len hz) room bi FF fun H ht hs => wt H a ns len ht hs
end LG
-- SL
/-! sum(a list of lists, a list); set(a list of ints) -/
namespace LM
open PySem PySem.Spec PyProof.Rows L2
section
variable {prog : Program} {w : World} {A : Around} {R : Result → Shared → Prop}
abbrev lob (xs : Array Value) (n : Nat) : Obj := { cls := .type "list", dict := none, data := .seq xs n, slots := #[] }
/-- what stands while the lists are put together: h0 is the heap ahead, acc holds what is put together -/
structure Mid (h0 : Heap) (I S l : Addr) (items : Array Value) (i : Nat) (acc : Addr) (p : Array Value) (m : Nat) (h : Heap) : Prop where
  keep : ∀ b o, h0.get? b = some o → h.get? b = some o
  it : h.IsListIter I l i
  st : ∃ c, h.get? S = some (lob #[.ref acc] c)
  ac : h.get? acc = some (lob p m)
  aI : acc ≠ I
  aS : acc ≠ S
theorem loop (hh : A.handled = none) {b0 : Addr} {h0 : Heap} {I S l : Addr} {items : Array Value} {c : Nat → Addr} {ys : Nat → Array Value} {nn : Nat → Nat} {pre : Nat → Array Value} (hl : h0.IsList l items) (lI : l ≠ I) (gI : h0.objs.size ≤ I) (nI : h0.get? I = none) (nS : h0.get? S = none) (IS : I ≠ S)
    (hi : ∀ j, j < items.size → items[j]? = some (.ref (c j)) ∧ h0.get? (c j) = some (lob (ys j) (nn j))) (hp : ∀ j, j < items.size → pre (j + 1) = pre j ++ ys j) (hz : ∀ j, j ≤ items.size → (pre j).size ≤ sizeLine) :
    ∀ (k i : Nat) (s : Shared) (acc : Addr) (m : Nat), items.size - i = k → i ≤ items.size → Mid h0 I S l items i acc (pre i) m s.heap → (i = 0 ∧ acc = b0) ∨ h0.objs.size ≤ acc →
      (∀ h' tk acc' m', (∀ b o, h0.get? b = some o → h'.get? b = some o) → h'.get? acc' = some (lob (pre items.size) m') → (items.size = 0 ∧ acc' = b0) ∨ h0.objs.size ≤ acc' → R (.ok (.ret (.ref acc'))) { s with heap := h', toks := tk }) →
      codeAny (model prog w) A (.builtin "sum.loop" ⟨[.ref I, .ref S, rawInt 2, rawInt 0], []⟩) R s := by
  have ne0 : ∀ {b : Addr} {o : Obj} {x : Addr}, h0.get? b = some o → h0.get? x = none → b ≠ x := fun e n z => by
    rw [z, n] at e
    cases e
  intro k
  induction k with
  | zero =>
    intro i s acc m hk hle M fr hR
    obtain rfl : i = items.size := by omega
    obtain ⟨cc, hS⟩ := M.st
    refine codeAny_builtin F.entry_sum_loop ?_; rw [Around.under_plainId F.plain_sum_loop _]
    show wpAny _ A.in1 (seqItems? (.ref S) >>= _) _ _ s; refine wpAny_bind (wpAny_seqItems hS rfl ?_)
    show wpAny _ A.in1 (tryCatch (pyNext (.ref I)) _ >>= _) _ _ s; refine wpAny_bind (wpAny_tryCatch ((Walks.list (A := A.in1) hh I l lI items).done s _ _ ⟨M.it, hl.at fun o e => M.keep _ o e⟩ fun h' tk kk => ?_))
    exact wpAny_pure (hR h' tk acc m (fun b o e => kk b o (fun z => ne0 e nI (List.mem_singleton.mp z)) (M.keep b o e)) (kk _ _ (fun z => M.aI (List.mem_singleton.mp z)) M.ac) fr)
  | succ k ih =>
    intro i s acc m hk hle M fr hR
    have hlt : i < items.size := by omega
    obtain ⟨cc, hS⟩ := M.st
    refine codeAny_builtin F.entry_sum_loop ?_; rw [Around.under_plainId F.plain_sum_loop _]
    show wpAny _ A.in1 (seqItems? (.ref S) >>= _) _ _ s; refine wpAny_bind (wpAny_seqItems hS rfl ?_)
    show wpAny _ A.in1 (tryCatch (pyNext (.ref I)) _ >>= _) _ _ s
    refine wpAny_bind (wpAny_tryCatch ((Walks.list (A := A.in1) hh I l lI items).item i s _ _ hlt ⟨M.it, hl.at fun o e => M.keep _ o e⟩ fun v h1 tk1 hv st1 kk => ?_))
    obtain ⟨e1, e2⟩ := hi i hlt
    rw [e1] at hv
    cases hv
    have sub : ∀ {b : Addr}, b ≠ I → b ∉ [I] := fun n z => n (List.mem_singleton.mp z)
    have k1 : ∀ b o, h0.get? b = some o → h1.get? b = some o := fun b o e => kk b o (sub (ne0 e nI)) (M.keep b o e)
    have S1 := kk S _ (sub (Ne.symm IS)) hS
    have A1 := kk acc _ (sub M.aI) M.ac
    have lt : ∀ {b : Addr} {o : Obj}, h1.get? b = some o → b ≠ h1.objs.size := fun e => Nat.ne_of_lt (Heap.lt_size e)
    show wpAny _ A.in1 ((holding [Value.ref (c i)] (binaryOp .Add (.ref acc) (.ref (c i)))).attempt >>= _) _ _ _
    refine wpAny_bind (wpAny_attempt (wpAny_holding (PySem.P.add_list A1 (k1 _ _ e2) ?_ (by have := hz (i + 1) hlt; rw [hp i hlt, Array.size_append] at this; exact this))))
    -- the new list takes the elder one's place
    have S2 : (h1.push (lob (pre i ++ ys i) 0)).get? S = some (lob #[.ref acc] cc) := Heap.get?_push_of_some _ S1
    show wpAny _ A.in1 (updateSeq S (fun _ => #[Value.ref h1.objs.size]) >>= _) _ _ _; refine wpAny_bind (wpAny_updateSeq S2 rfl ?_)
    have S3 := Heap.get?_update_self (Obj.mapSeq fun _ => #[Value.ref h1.objs.size]) S2 rfl
    refine wpAny_bind (wpAny_letGo ?_); refine wpAny_bind (wpAny_updateSeq S3 rfl ?_)
    have S4 := Heap.get?_update_self (Obj.mapSeq fun _ => #[Value.ref h1.objs.size]) S3 rfl
    have k4 : ∀ b o, b ≠ S → h1.get? b = some o → (((h1.push (lob (pre i ++ ys i) 0)).update S (Obj.mapSeq fun _ => #[Value.ref h1.objs.size])).update S (Obj.mapSeq fun _ => #[Value.ref h1.objs.size])).get? b = some o := fun b o n e =>
      (Heap.get?_update_other _ _ (Ne.symm n)).trans ((Heap.get?_update_other _ _ (Ne.symm n)).trans (Heap.get?_push_of_some _ e))
    have aS : h1.objs.size ≠ S := fun z => lt S1 z.symm
    have aI : h1.objs.size ≠ I := fun z => by
      obtain ⟨o, e, _⟩ := st1.1
      exact lt e z.symm
    refine wpAny_pure ⟨plainId_quiet F.plain_sum_loop _, ih (i + 1) _ h1.objs.size 0 (by omega) hlt ⟨fun b o e => k4 b o (ne0 e nS) (k1 b o e), st1.1.at fun o e => k4 I o IS e, ⟨_, S4⟩, ?_, aI, aS⟩ (.inr ?_) fun h' tk acc' m' q1 q2 q3 => hR h' tk acc' m' q1 q2 q3⟩
    rotate_left
    · obtain ⟨o, e, _⟩ := st1.1
      exact Nat.le_of_lt (Nat.lt_of_le_of_lt gI (Heap.lt_size e))
    rw [hp i hlt]
    exact (Heap.get?_update_other _ _ (Ne.symm aS)).trans ((Heap.get?_update_other _ _ (Ne.symm aS)).trans (Heap.get?_push_size _ rfl))
theorem args2 (a b : Value) : argsOk "sum" ⟨[a, b], []⟩ := by unfold argsOk; kernel_rfl
theorem sum_lists {E : Value → Shared → Prop} {Q : Value → Shared → Prop} {s : Shared} (hh : A.handled = none) {l b : Addr} {items bs : Array Value} {nb : Nat} {c : Nat → Addr} {ys : Nat → Array Value} {nn : Nat → Nat} {pre : Nat → Array Value} (hl : s.heap.IsList l items) (hb : s.heap.get? b = some (lob bs nb))
    (hi : ∀ j, j < items.size → items[j]? = some (.ref (c j)) ∧ s.heap.get? (c j) = some (lob (ys j) (nn j))) (h0 : pre 0 = bs) (hp : ∀ j, j < items.size → pre (j + 1) = pre j ++ ys j) (hz : ∀ j, j ≤ items.size → (pre j).size ≤ sizeLine)
    (hQ : ∀ h' tk acc m, (∀ b o, s.heap.get? b = some o → h'.get? b = some o) → h'.get? acc = some (lob (pre items.size) m) → (items.size = 0 ∧ acc = b) ∨ s.heap.objs.size ≤ acc → Q (.ref acc) { s with heap := h', toks := tk }) :
    wpAny (model prog w) A (call (.builtin "sum") [.ref l, .ref b]) Q E s := by
  refine call_function_tree F.kind_sum F.plain_sum F.entry_sum (args2 _ _) ?_
  unfold Builtin.«sum»
  simp only [List.length_cons, List.length_nil]; rw [if_neg (by decide)]
  refine wpAny_bind (wpAny_of_eq (show Builtin.Builtins.bindParams "sum" ["start"] 0 ⟨[.ref b], []⟩ = pure [some (.ref b)] from rfl) ?_)
  refine wpAny_bind (wpAny_pyIter_list hl ?_)
  refine wpAny_bind (wpAny_pure ?_)
  have ob : (s.heap.push { cls := .type "list_iterator", data := .fields #[.ref l, .int 0 0] }).get? b = some (lob bs nb) := Heap.get?_push_of_some _ hb
  have ty : Shared.TypeIs { s with heap := s.heap.push { cls := .type "list_iterator", data := .fields #[.ref l, .int 0 0] } } (.ref b) "list" := ⟨_, ob, rfl⟩
  simp only [List.forIn_cons, List.forIn_nil]
  refine wpAny_bind (wpAny_bind (wpAny_bind (wpAny_isInstance (T := "list") (b := false) ty F.sub_list_str ?_))); simp only [Bool.false_eq_true, if_false]
  refine wpAny_pure (wpAny_bind (wpAny_bind (wpAny_isInstance (T := "list") (b := false) ty F.sub_list_bytes ?_))); simp only [Bool.false_eq_true, if_false]
  refine wpAny_pure (wpAny_bind (wpAny_bind (wpAny_isInstance (T := "list") (b := false) ty (by rw [isSubtype_type]; kernel_rfl) ?_))); simp only [Bool.false_eq_true, if_false]
  refine wpAny_pure (wpAny_pure ?_)
  refine wpAny_bind (wpAny_newObj_type ?_)
  have hsz : (s.heap.push { cls := .type "list_iterator", data := .fields #[.ref l, .int 0 0] }).objs.size = s.heap.objs.size + 1 := Heap.size_push ..
  have non : ∀ x, s.heap.objs.size ≤ x → s.heap.get? x = none := fun x hx => by
    cases e : s.heap.get? x with
    | none => rfl
    | some o => exact absurd (Nat.lt_of_lt_of_le (Heap.lt_size e) hx) (Nat.lt_irrefl _)
  have ll : l < s.heap.objs.size := by
    obtain ⟨o, e, _⟩ := hl
    exact Heap.lt_size e
  refine wpAny_pure ⟨plainId_quiet F.plain_sum_loop _, loop (R := _) (b0 := b) (h0 := s.heap) (I := s.heap.objs.size) (c := c) (ys := ys) (nn := nn) (pre := pre) hh hl (Nat.ne_of_lt ll) (Nat.le_refl _) (non _ (Nat.le_refl _)) (non _ (by show s.heap.objs.size ≤ _; rw [hsz]; exact Nat.le_succ _)) (by show s.heap.objs.size ≠ _; rw [hsz]; exact Nat.ne_of_lt (Nat.lt_succ_self _)) hi hp hz
    items.size 0 _ b nb (Nat.sub_zero _) (Nat.zero_le _) ⟨fun x o e => Heap.get?_push_of_some _ (Heap.get?_push_of_some _ e), ⟨_, Heap.get?_push_of_some _ (Heap.get?_push_size _ rfl), rfl, rfl⟩, ⟨0, Heap.get?_push_size _ rfl⟩, ?_, ?_, ?_⟩ (.inl ⟨rfl, rfl⟩) fun h' tk acc m q1 q2 q3 => hQ h' tk acc m q1 q2 q3⟩
  · rw [h0]
    exact Heap.get?_push_of_some _ ob
  · exact Nat.ne_of_lt (Heap.lt_size hb)
  · show b ≠ _
    rw [hsz]
    exact Nat.ne_of_lt (Nat.lt_succ_of_lt (Heap.lt_size hb))
end
section
variable {X : Cx}
/-- the lists of xs, one behind the other -/
def Lists (H : Hp) (xs : List V) (yss : List (List V)) : Prop := xs.length = yss.length ∧ ∀ (j : Nat) (zs : List V), yss[j]? = some zs → ∃ c : Addr, xs[j]? = some (V.ref c) ∧ H c = some (.lst zs)
def preA (b : Array Value) (ys : Nat → Array Value) : Nat → Array Value
  | 0 => b
  | j + 1 => preA b ys j ++ ys j
theorem vals_pre {bs : List V} {b : Array Value} {ys : Nat → Array Value} {yss : List (List V)} (hb : Vals bs b.toList) (h : ∀ j zs, yss[j]? = some zs → Vals zs (ys j).toList) : ∀ j, j ≤ yss.length → Vals (bs ++ (yss.take j).flatten) (preA b ys j).toList
  | 0, _ => by
    rw [List.take_zero, List.flatten_nil, List.append_nil]
    exact hb
  | j + 1, hj => by
    obtain ⟨zs, e⟩ : ∃ zs, yss[j]? = some zs := ⟨yss[j], List.getElem?_eq_getElem hj⟩
    rw [List.take_add_one, e]
    show Vals (bs ++ (yss.take j ++ [zs]).flatten) (preA b ys j ++ ys j).toList
    rw [List.flatten_append, ← List.append_assoc, Array.toList_append]
    refine (vals_pre hb h j (by omega)).append ?_
    rw [show [zs].flatten = zs by simp]
    exact h j zs e
theorem cr_sumL (hc : X.calm = true) : CallR X (.builtin "sum") (fun vs H Q => ∃ (a b : Addr) (xs bs : List V) (yss : List (List V)), vs = [.ref a, .ref b] ∧ SqL X.K H a xs ∧ H b = some (.lst bs) ∧ Lists H xs yss ∧ bs.length + yss.flatten.length ≤ sizeLine ∧
    (xs = [] → Q (.ref b) H) ∧ ∀ p, H p = none → Q (.ref p) (upd H p (.lst (bs ++ yss.flatten)))) := by
  intro pins s σ H vs us Q I r h
  obtain ⟨a, b, xs, bs, yss, rfl, ha, hb, ⟨ln, hL⟩, hz, q0, q1⟩ := h
  obtain ⟨u, v, rfl, e1, e2⟩ := vals2 r
  cases (show u = Value.ref a from e1)
  cases (show v = Value.ref b from e2)
  obtain ⟨its, rv, pl, _⟩ := I.list ha
  obtain ⟨_, bits, nb, rb, lb, eb⟩ := I.lstM hb
  have nlen := rv.length
  -- the items' lists as they stand
  have ex : ∀ j : Nat, ∃ p : Addr × Array Value × Nat, ∀ zs : List V, yss[j]? = some zs → xs[j]? = some (.ref p.1) ∧ Vals zs p.2.1.toList ∧ zs.length = p.2.1.size ∧ s.heap.get? p.1 = some (lob p.2.1 p.2.2) := fun j => by
    cases e : yss[j]? with
    | none => exact ⟨(0, #[], 0), fun zs z => nomatch z⟩
    | some zs =>
      obtain ⟨c, hx, hc⟩ := hL j zs e
      obtain ⟨_, zi, n, rz, lz, ez⟩ := I.lstM hc
      exact ⟨(c, zi.toArray, n), fun z2 q => by cases q; exact ⟨hx, rz, by rw [List.size_toArray]; exact lz, ez⟩⟩
  let f := fun j => Classical.choose (ex j)
  have hf : ∀ (j : Nat) (zs : List V), yss[j]? = some zs → xs[j]? = some (.ref (f j).1) ∧ Vals zs (f j).2.1.toList ∧ zs.length = (f j).2.1.size ∧ s.heap.get? (f j).1 = some (lob (f j).2.1 (f j).2.2) := fun j => Classical.choose_spec (ex j)
  have sz : its.toArray.size = yss.length := by rw [List.size_toArray, ← nlen, ln]
  have vp := vals_pre (b := bits.toArray) (ys := fun j => (f j).2.1) (yss := yss) rb fun j zs e => (hf j zs e).2.1
  have pz : ∀ j, j ≤ its.toArray.size → (preA bits.toArray (fun j => (f j).2.1) j).size ≤ sizeLine := fun j hj => by
    have l := (vp j (by omega)).length
    rw [List.length_append] at l
    have e3 : (preA bits.toArray (fun j => (f j).2.1) j).toList.length = (preA bits.toArray (fun j => (f j).2.1) j).size := Array.length_toList
    have : (yss.take j).flatten.length ≤ yss.flatten.length := by
      have e := congrArg (fun l : List (List V) => l.flatten.length) (List.take_append_drop j yss)
      simp only [List.flatten_append, List.length_append] at e
      omega
    omega
  refine sum_lists (c := fun j => (f j).1) (ys := fun j => (f j).2.1) (nn := fun j => (f j).2.2) (pre := preA bits.toArray fun j => (f j).2.1) (I.ok.hd hc) pl.isList eb (fun j hj => ?_) rfl (fun j _ => rfl) pz fun h' tk acc m keep at_ fr => ?_
  · obtain ⟨zs, e⟩ : ∃ zs, yss[j]? = some zs := ⟨yss[j]'(by omega), List.getElem?_eq_getElem (by omega)⟩
    obtain ⟨hx, _, _, hg⟩ := hf j zs e
    obtain ⟨y, ey, ry⟩ := rv.get hx
    cases (show y = Value.ref (f j).1 from ry)
    exact ⟨by simpa using ey, hg⟩
  · rcases fr with ⟨z, rfl⟩ | z
    · have : xs = [] := List.length_eq_zero_iff.mp (by rw [nlen]; simpa using z)
      exact ⟨.ref acc, H, I.kept (t' := tk) keep, rfl, q0 this⟩
    · have vals := vp yss.length (Nat.le_refl _)
      rw [List.take_length] at vals
      have at2 : h'.get? acc = some (lob (preA bits.toArray (fun j => (f j).2.1) yss.length) m) := by rw [← sz]; exact at_
      have J := I.laid (t' := tk) (o := .lst (bs ++ yss.flatten)) keep z ⟨by rw [List.length_append]; exact hz, _, m, vals, at2⟩
      exact ⟨.ref acc, _, J, rfl, q1 acc (I.hok.fresh z)⟩
/-- set(a list of whole numbers): nothing else is in it -/
theorem call_setL (hc : X.calm = true) : CallR X (.type "set") (fun vs H Q => ∃ (a : Addr) (ns : List Int), vs = [.ref a] ∧ SqL X.K H a (ns.map V.int) ∧ ns.length ≤ 40 ∧ ∀ p S n, H p = none → (∀ k, S k = true → k ∈ ns) → n ≤ ns.length → Q (.ref p) (upd H p (.set S n))) := by
  intro pins s σ H vs us Q I r h
  obtain ⟨a, ns, rfl, ha, hz, q⟩ := h
  obtain ⟨u, rfl, e1⟩ := vals1 r
  cases (show u = Value.ref a from e1)
  obtain ⟨its, rv, pl, _⟩ := I.list ha
  have il := rv.length
  rw [List.length_map] at il
  refine call_set_list (ns := ns) (I.ok.hd hc) pl.isList (by simpa using rv.ints) (by rw [List.size_toArray]; exact Nat.lt_of_le_of_lt (by omega) (by decide : 41 < scanBound)) fun h' tk hs keep => ?_
  have eN : its.toArray.size = ns.length := by rw [List.size_toArray, il]
  rw [eN] at hs
  have J := I.laid (t' := tk) (a := s.heap.objs.size) (o := .set _ _) (fun b o e => keep b o (Heap.lt_size e) e) (Nat.le_refl _) hs
  refine ⟨.ref s.heap.objs.size, _, J, rfl, q _ _ _ (I.hok.fresh (Nat.le_refl _)) (fun k hk => ?_) (firstMet_length_le _ _)⟩
  have hk : (firstMet (fun i => ns.getD i 0) ns.length).any (· == k) = true := hk
  rw [firstMet_any, List.any_map, List.any_eq_true] at hk
  obtain ⟨j, hj, e⟩ := hk
  have hj := List.mem_range.mp hj
  have e2 : ns.getD j 0 = k := by simpa using e
  rw [← e2, List.getD_eq_getElem?_getD, List.getElem?_eq_getElem hj]
  exact List.getElem_mem hj
end
end LM
-- SR
/-! set(a list of whole numbers), made so that it may be gone through in its order -/
namespace LM
open PySem PySem.Spec PyProof.Rows L2
section
variable {P : Program} {w : World} {A : Around} {E : Value → Shared → Prop}
/-- turn by turn -/
theorem fill_turns {R : Result → Shared → Prop} {it D : Addr} {fp wr : List Addr} {G : Array GenState → Array GenState → Prop} {ns : List Int} {n : Nat} {Pv : Nat → Value → Prop} {St : Nat → Shared → Prop}
    (W : WalksS P w A.in1 it fp wr G n Pv St) (hn : n = ns.length) (val : ∀ i v, Pv i v → ∃ t, v = .int (ns.getD i 0) t) (off : D ∉ fp) (room : ns.length + 1 < scanBound) :
    ∀ (left i : Nat) (u : Shared), ns.length = i + left → St i u → (∃ S m, SetR w u.heap D S m ∧ (∀ k, S k = true → k ∈ ns) ∧ m ≤ i) →
      (∀ u' S m, Moved (D :: wr) G u u' → SetR w u'.heap D S m → (∀ k, S k = true → k ∈ ns) → m ≤ ns.length → R (.ok (.ret .none)) u') →
      codeAny (model P w) A (.builtin "set.update.loop" ⟨[.ref D, .ref it], []⟩) R u := by
  subst hn
  have offw : D ∉ wr := fun z => off (W.sub _ z)
  have more : ∀ b ∈ wr, b ∈ D :: wr := fun b z => List.mem_cons_of_mem _ z
  intro left
  induction left with
  | zero =>
    intro i u el st ⟨S, m, sr, hS, hm⟩ fin
    obtain rfl : i = ns.length := by omega
    refine codeAny_builtin F.entry_set_update_loop ?_
    rw [Around.under_plainId F.plain_set_update_loop _]
    show wpAny _ A.in1 (pyNext (.ref it) >>= _) _ _ u
    refine wpAny_bind (W.done u _ _ st fun u' mv => ?_)
    show wpAny _ A.in1 (ret Value.none) _ _ u'
    exact wpAny_pure (fin u' S m (mv.mono more) (sr.at fun o e => mv.heap D o offw e) hS hm)
  | succ left ih =>
    intro i u el st ⟨S, m, sr, hS, hm⟩ fin
    refine codeAny_builtin F.entry_set_update_loop ?_
    rw [Around.under_plainId F.plain_set_update_loop _]
    show wpAny _ A.in1 (pyNext (.ref it) >>= _) _ _ u
    refine wpAny_bind (W.item i u _ _ (by omega) st fun v u1 hv st1 mv => ?_)
    obtain ⟨t, rfl⟩ := val i v hv
    have sr1 : SetR w u1.heap D S m := sr.at fun o e => mv.heap D o offw e
    show wpAny _ A.in1 (holding [Value.int (ns.getD i 0) t] (setAdd D (.int (ns.getD i 0) t)) >>= _) _ _ u1
    refine wpAny_bind (wpAny_holding ?_)
    unfold setAdd
    refine wpAny_holding (wpAny_bind ((intKind P w).pyHash (k := ns.getD i 0) (intKind_is _ _ _ _) ?_))
    refine setR_add_hashed (s := { u1 with toks := u1.toks + 1 }) sr1 (by omega) fun h2 sb sr2 => ?_
    have inn : ns.getD i 0 ∈ ns := by
      rw [List.getD_eq_getElem?_getD, List.getElem?_eq_getElem (by omega)]
      exact List.getElem_mem _
    refine wpAny_pure ⟨plainId_quiet F.plain_set_update_loop _, ih (i + 1) _ (by omega) (W.frame _ u1 _ _ st1 (Nat.le_succ _) fun b hb o e => ?_) ⟨_, _, sr2, fun k hk => ?_, ?_⟩ fun u3 S3 m3 mv3 sr3 hS3 hm3 => ?_⟩
    · rw [sb.2 b fun z : b = D => off (by rw [← z]; exact hb)]
      exact e
    · rcases Bool.or_eq_true _ _ |>.mp hk with z | z
      · exact hS k z
      · rw [of_decide_eq_true z]
        exact inn
    · split <;> omega
    · refine fin u3 S3 m3 (Moved.trans W.gtrans ((mv.mono more).then_heap (Nat.le_succ _) fun b o hb e => ?_) mv3) sr3 hS3 hm3
      rw [sb.2 b fun z : b = D => hb (by rw [z]; exact List.mem_cons_self)]
      exact e
theorem made_led (a : Value) {u : Shared} {Q1 : Value → Shared → Prop}
    (go : Q1 (.ref u.heap.objs.size) { u with heap := u.heap.push { cls := .type "set", dict := none, data := .set #[] 0 (.fresh 0 0 (!w.params.followText "set-order")) } }) :
    codeAny (model P w) A (.call (.builtin "set.__new__") ⟨[.type "set", a], []⟩) (wants Q1 E) u := by
  refine codeAny_of_tree (show wpAny _ A.in1 (do checkBuiltinCall "set.__new__" ⟨[.type "set", a], []⟩; again (.builtin "set.__new__" ⟨[.type "set", a], []⟩)) _ _ u from ?_)
  refine wpAny_bind (wpAny_of_eq (F.newCall_set_1 a) (wpAny_pure ⟨plainId_quiet F.plain_set_new _, codeAny_builtin F.entry_set_new ?_⟩))
  rw [Around.under_plainId F.plain_set_new _]
  unfold Builtin.«set.__new__» Builtin.Frozenset.newClass
  have selfsub := sub_set_self
  obtain ⟨x1, x2, x3, x4, x5⟩ := u
  dsimp only
  wp_walk
  refine wpAny_askSetting (wpAny_pure ?_)
  dsimp only
  simp only [newObj]
  exact wpAny_bind (wpAny_alloc (wpAny_pure (wpAny_pure go)))
theorem set_ints {u : Shared} {l : Addr} {its : Array Value} {ns : List Int} {Q : Value → Shared → Prop} (calm : A.handled = none) (hl : u.heap.IsList l its) (hin : IntsAre its.toList ns) (room : ns.length + 1 < scanBound)
    (go : ∀ (h2 : Heap) (tk : Nat) (S : Int → Bool) (m : Nat), SetR w h2 u.heap.objs.size S m → (∀ k, S k = true → k ∈ ns) → m ≤ ns.length → (∀ b o, b < u.heap.objs.size → u.heap.get? b = some o → h2.get? b = some o) → Q (.ref u.heap.objs.size) { u with heap := h2, toks := tk }) :
    wpAny (model P w) A (call (.type "set") [.ref l]) Q E u := by
  obtain ⟨cc, tt, mro_is⟩ := F.called_set.mro
  have made_is := F.called_set.made
  have sub_is := F.called_set.sub
  have sz : its.size = ns.length := by
    have := hin.length
    simpa using this
  refine wpAny_call (codeAny_of_tree (show wpAny _ _ (callAny (.type "set") _) _ _ _ from ?_))
  refine wpAny_pure ⟨Code.quiet_builtin _ (by decide +kernel), codeAny_builtin F.entry_type_call ?_⟩
  rw [Around.under_plain (weight_type_call_type "set" [.ref l] []) rfl]
  have c1 := F.called_set.notType
  have c2 := F.called_set.canCreate
  have c3 := F.typeCall_set_1 (.ref l)
  repeat (any_goals (first | assumption | wp_step))
  refine codeAny_mono (made_led (E := E) (.ref l) (Q1 := fun x u1 => x = .ref u.heap.objs.size ∧ u1 = { u with heap := u.heap.push { cls := .type "set", dict := none, data := .set #[] 0 (.fresh 0 0 (!w.params.followText "set-order")) } }) ⟨rfl, rfl⟩) fun r1 u1 h1 => ?_
  cases r1 with
  | error e => exact h1
  | ok fl =>
    cases fl with
    | ret x =>
      obtain ⟨rfl, rfl⟩ := h1
      have sr0 : SetR w (u.heap.push { cls := .type "set", dict := none, data := .set #[] 0 (.fresh 0 0 (!w.params.followText "set-order")) }) u.heap.objs.size (fun _ => false) 0 := setR_fresh w
      have ty0 : Shared.TypeIs { u with heap := u.heap.push { cls := .type "set", dict := none, data := .set #[] 0 (.fresh 0 0 (!w.params.followText "set-order")) } } (.ref u.heap.objs.size) "set" := ⟨_, Heap.get?_push_size _ rfl, rfl⟩
      generalize hob : ({ cls := .type "set", dict := none, data := .set #[] 0 (.fresh 0 0 (!w.params.followText "set-order")) } : Obj) = ob at sr0 ty0
      have getS : (u.heap.push ob).get? u.heap.objs.size = some { cls := .type "set", dict := none, data := .set #[] 0 (.fresh 0 0 (!w.params.followText "set-order")) } := by
        rw [hob]
        exact Heap.get?_push_size _ (by rw [← hob]; rfl)
      have i1 := F.called_set.init.lookup
      have i2 := F.called_set.init.bind (.ref u.heap.objs.size)
      repeat (any_goals (first | assumption | wp_step))
      refine codeAny_mono (codeAny_call_builtin (R := wants (fun y u2 => y = .none ∧ ∃ h2 tk S m, u2 = { u with heap := h2, toks := tk } ∧ SetR w h2 u.heap.objs.size S m ∧ (∀ k, S k = true → k ∈ ns) ∧ m ≤ ns.length ∧
          (∀ b o, b < u.heap.objs.size → u.heap.get? b = some o → h2.get? b = some o)) E) F.called_set.init.plain F.entry_set_init (check_set_init_1 ty0 ?_)) fun r2 u2 h2 => ?_
      · have hl1 : (u.heap.push ob).IsList l its := hl.push _
        obtain ⟨o1, at1, cl1, n1, da1⟩ := hl1
        obtain ⟨ocl, odi, oda, osl⟩ := o1
        simp only at cl1 da1
        subst cl1
        subst da1
        have s1 := F.sub_list_set
        have s2 := F.sub_list_frozenset
        have s3 : (Value.type "list" == Value.type "dict") = false := by decide
        have hl2 : (u.heap.push ob).IsList l its := hl.push _
        unfold Builtin.«set.__init__» noKeywords Builtin.Frozenset.updateFrom
        generalize hgen : pyIter = gen
        wp_walk
        subst hgen
        refine wpAny_pyIter_list hl2 ?_
        refine wpAny_bind (wpAny_runValue ?_)
        have below : l < u.heap.objs.size := by
          obtain ⟨o, e, _⟩ := hl
          exact Heap.lt_size e
        have nh : A.in1.in1.in1.handled = none := by simp [calm]
        have apart : l ≠ (u.heap.push ob).objs.size := by
          rw [Heap.size_push]
          exact Nat.ne_of_lt (Nat.lt_succ_of_lt below)
        have far : u.heap.objs.size ∉ [(u.heap.push ob).objs.size, l] := fun z => by
          rw [Heap.size_push] at z
          rcases List.mem_cons.mp z with z | z
          · exact Nat.ne_of_lt (Nat.lt_succ_self _) z
          · exact Nat.ne_of_gt below (List.mem_singleton.mp z)
        refine fill_turns (ns := ns) ((Walks.list nh _ l apart its).toS) sz (fun i v hv => hin.int_at i v (by rw [Array.getElem?_toList]; exact hv)) far room ns.length 0 _ (by omega) ⟨⟨_, Heap.get?_push_size _ rfl, rfl, rfl⟩, hl2.push _⟩ ⟨_, 0, sr0.at fun o e => Heap.get?_push_of_some _ e, (fun _ z => nomatch z), Nat.le_refl _⟩ fun u3 S m mv sr hS hm => ?_
        obtain ⟨y1, y2, y3, y4, y5⟩ := u3
        obtain rfl : y2 = u.gens := mv.gens
        obtain rfl : y3 = u.drawn := mv.drawn
        obtain rfl : y5 = u.os := mv.os
        refine (show wpAny _ _ _ _ _ _ from wpAny_pure (show wpAny _ _ (ret Value.none) _ _ _ from wpAny_pure ⟨rfl, y1, y4, S, m, rfl, sr, hS, hm, fun b o hb e => ?_⟩))
        refine mv.heap b o (fun z => ?_) (Heap.get?_push_of_some _ (Heap.get?_push_of_some _ e))
        rcases List.mem_cons.mp z with z | z
        · exact Nat.ne_of_lt hb z
        · rw [List.mem_singleton.mp z, Heap.size_push] at hb
          exact Nat.not_lt_of_gt (Nat.lt_succ_self _) hb
      · cases r2 with
        | error e => exact h2
        | ok fl2 =>
          cases fl2 with
          | ret y =>
            obtain ⟨rfl, h3, tk, S, m, rfl, sr, hS, hm, kp⟩ := h2
            repeat (any_goals (first | assumption | wp_step))
            exact go _ _ S m sr hS hm kp
          | _ => exact h2.elim
    | _ => exact h1.elim
theorem call_setR {X : Cx} (hc : X.calm = true) : CallR X (.type "set") (fun xs H Q => ∃ (a : Addr) (ns : List Int), xs = [.ref a] ∧ SqL X.K H a (ns.map V.int) ∧ ns.length ≤ 40 ∧ ∀ p S n, H p = none → (∀ k, S k = true → k ∈ ns) → n ≤ ns.length → Q (.ref p) (upd H p (SetO X.w p S n))) := by
  intro pins s σ H xs us Q I r h
  obtain ⟨a, ns, rfl, ha, hz, q⟩ := h
  obtain ⟨u, rfl, e1⟩ := vals1 r
  cases (show u = Value.ref a from e1)
  obtain ⟨its, rv, pl, _⟩ := I.list ha
  have il := rv.length
  rw [List.length_map] at il
  refine set_ints (ns := ns) (I.ok.hd hc) pl.isList (by simpa using rv.ints) (Nat.lt_of_le_of_lt (by omega) (by decide : 41 < scanBound)) fun h2 tk S m sr hS hm keep => ?_
  have J := I.laid (t' := tk) (a := s.heap.objs.size) (o := SetO X.w s.heap.objs.size S m) (fun b o e => keep b o (Heap.lt_size e) e) (Nat.le_refl _) (setO_new sr)
  exact ⟨.ref s.heap.objs.size, _, J, rfl, q _ _ _ (I.hok.fresh (Nat.le_refl _)) hS hm⟩
end
end LM
-- EX
/-! errors of own classes whose __init__ tells the class's name: C.__name__, e.__class__, isinstance, the whole of a raise -/
namespace LX
open PySem PySem.W PySem.Calls PyProof.Rows Builtin Builtin.ObjectAttr Builtin.Getset_descriptor
section
variable {prog : Program} {w : World} {A : Around} {E : Value → Shared → Prop} {s : Shared} {K : Frag} {R : Result → Shared → Prop} {C : Addr}
/-- the name that a class keeps in its slots -/
theorem kept_name {tp v : Value} {o : Obj} (X : K.In s.heap) (tC : typeIn K (.ref C) = some (.type "type")) (ho : K.lookup C = some o) (hs : o.slots[2]? = some (some v)) (h : R (.ok (.ret v)) s) :
    codeAny (model prog w) A (.call (.builtin "getset_descriptor.__get__") ⟨[.builtin "type.__name__", .ref C, tp], []⟩) R s := by
  obtain ⟨hp, g, dr, tk, os⟩ := s
  have isTy : Looks (model prog w) hp (typeOf (.ref C)) (.type "type") := looks_typeIn X tC
  have same : Looks (model prog w) hp (isSubtype (.type "type") (.type "type")) true := .of_pure (by rw [isSubtype_type]; kernel_rfl)
  refine codeAny_call_builtin KF.slot_gs.plain KF.entry_gs (KF.slot_gs.check _ _ _ _ _ _ _ _ ktyn_type (KF.args_gs _ _ _) ?_)
  unfold Builtin.«getset_descriptor.__get__» descrGet
  rw [show descrGetArgs ⟨[.builtin "type.__name__", .ref C, tp], []⟩ = pure (.builtin "type.__name__", some (.ref C), given tp) by kernel_rfl]
  refine wpAny_bind (wpAny_pure ?_); unfold descrGetter descrCheckInstance descrNameAndClass isInstance
  simp only [ktyn_owner]; repeat lk
  refine ⟨Code.quiet_builtin _ (by decide +kernel), codeAny_builtin ktyn_entry ?_⟩
  unfold Builtin.«type.__name__» keptObject slotAt; dsimp only
  refine wpAny_bind (wpAny_bind (wpAny_loadPart_at (X _ _ ho) (wpAny_pure ?_))); rw [hs]
  exact wpAny_pure h
theorem name_of_class {v : Value} {o : Obj} {ex : Bool} {Q : Value → Shared → Prop} (X : K.In s.heap) (hr : readsIn K C (.type "type") = true)
    (e : findCls K (.ref C) (.type "type") "__name__" = some (.get (.builtin "getset_descriptor.__get__") (.builtin "type.__name__") (.ref C) (.type "type")))
    (tC : typeIn K (.ref C) = some (.type "type")) (ho : K.lookup C = some o) (hs : o.slots[2]? = some (some v)) (hv : handedIn v = true) (h : Q v { s with toks := s.toks + 1 }) :
    wpAny (model prog w) A (getAttr (.ref C) "__name__" ex) Q E s := cls_bind X hr e (wpAny_call (kept_name (s := { s with toks := s.toks + 1 }) X tC ho hs (handed_on hv h)))
/-- what the written part says of an own error class -/
structure Own (K : Frag) (D : Addr) : Prop where
  cl : (clsIn K D).isSome = true
  ga : findIn K (.ref D) "__getattribute__" = some (some (.builtin "BaseException.__getattribute__"))
  gt : findIn K (.ref D) "__getattr__" = some none
  sub : subIn K (.ref D) (.type "BaseException") = some true
  at_ : findIn K (.ref D) "__class__" = some (some (.builtin "object.__class__"))
  sp : specialIn K (.builtin "object.__class__") "__get__" = some (some (.builtin "getset_descriptor.__get__"))
  tk : takesIn K (.builtin "object.__class__") = some true
  mro : mroIn K D (.type "object") = some true
theorem class_of_error {x D : Addr} {ox : Obj} {od : Option Obj} {ex : Bool} {Q : Value → Shared → Prop} (T : Own K D) (X : K.In s.heap) (I : InstAt s.heap x ox D od) (h : Q (.ref D) { s with toks := s.toks + 1 }) :
    wpAny (model prog w) A (getAttr (.ref x) "__class__" ex) Q E s := by
  have hf : findObj K D od "__class__" = some (.bind (.builtin "getset_descriptor.__get__") (.builtin "object.__class__")) := findObj_dataE T.cl T.at_ T.sp T.tk
  obtain ⟨hp, g, d, t, os⟩ := s
  have l0 := I.type (M := model prog w); have l1 := looks_findIn (M := model prog w) X T.ga
  have l2 := looks_findIn (M := model prog w) X T.gt; have l3 := looks_find (M := model prog w) X I hf
  have isE : Looks (model prog w) hp (isInstance (.ref x) (.type "BaseException")) true := l0.andThen (looks_subIn X T.sub)
  have n2 : (Value.builtin "BaseException.__getattribute__" == Value.builtin "object.__getattribute__") = false := by decide +kernel
  unfold getAttr getAttrBy
  refine wpAny_bind (wpAny_mkText (wpAny_holding (wpAny_bind (l0.at (wpAny_bind (l1.at ?_))))))
  show wpAny _ _ (if (onTheHeap (Value.ref D) && Value.builtin "BaseException.__getattribute__" == Value.builtin "object.__getattribute__") = true then _ else _) _ _ _; rw [n2, Bool.and_false, if_neg Bool.false_ne_true]
  unfold getAttrByItsOwn hookBefore; refine wpAny_bind ?_; rw [if_pos (show onTheHeap (Value.ref D) = true from rfl)]
  refine l2.at (wpAny_bind (wpAny_attempt (wpAny_holding ?_)))
  unfold callGetattribute boundAndCalled; rw [show (ex && onTheHeap (Value.builtin "BaseException.__getattribute__")) = false by cases ex <;> rfl, if_neg Bool.false_ne_true, PySem.F.excAttr_ValueError.ga.bind (.ref x)]
  refine wpAny_bind (wpAny_pure ?_); show wpAny _ _ (call (.builtin "BaseException.__getattribute__") [.ref x, .str "__class__" t]) _ _ _
  refine wpAny_call (codeAny_call_builtin PySem.F.excAttr_ValueError.ga.plain PySem.F.entry_bexc_ga (@PySem.W.check_slot (model prog w) _ _ ⟨hp, g, d, t + 1, os⟩ "BaseException.__getattribute__" "BaseException" "__getattribute__" (.ref x) [.str "__class__" t] [] _ (by decide +kernel) (by decide +kernel) isE (PySem.F.args_bexc_ga (.ref x) (.str "__class__" t)) ?_))
  unfold Builtin.«object.__getattribute__»; refine wpAny_bind (wpAny_of_eq (a := ((Value.ref x : Value), [Value.str "__class__" t])) (by first | rfl | (simp only [slotArgs]; rfl)) ?_)
  refine wpAny_bind (wpAny_pure (wpAny_bind (l0.at (wpAny_bind (l3.at (wpAny_bind (wpAny_holding (wpAny_call (class_get (s := ⟨hp, g, d, t + 1, os⟩) (ox := ox) (od := od) X I T.mro ?_)))))))))
  refine wpAny_pure ?_; show wpAny _ _ (handedOut (.ref D)) _ _ _; rw [handedOut_of (v := .ref D) rfl]
  first | exact wpAny_pure h | exact wpAny_pure (wpAny_pure h)
end
end LX
namespace LX
open PySem PySem.Spec PyProof.Rows L2
/-- .. and of its kept name -/
structure Named (K : PySem.W.Frag) (D : Addr) (nm : Str) : Prop where
  own : Own K D
  rd : PySem.W.readsIn K D (.type "type") = true
  fc : PySem.W.findCls K (.ref D) (.type "type") "__name__" = some (.get (.builtin "getset_descriptor.__get__") (.builtin "type.__name__") (.ref D) (.type "type"))
  ty : PySem.W.typeIn K (.ref D) = some (.type "type")
  lk : ∃ (o : Obj) (t : Tok), K.lookup D = some o ∧ o.slots[2]? = some (some (.str nm t))
  sz : nm.length ≤ 1000
def tCn (K : PySem.W.Frag) (te : TE) : TE := fun σ H Q => te σ H fun x H1 => ∃ (a D : Addr) (nm : Str), x = .ref a ∧ H1 a = some (exo a D none) ∧ Named K D nm ∧ Q (.str nm) H1
/-- self.__class__.__name__ -/
theorem pe_cn {X : Cx} {e : Expr} {te : TE} {p1 p2 : Pos} (he : PE X e te) (hb : attributeBase e "__class__" X.env (eval e X.env) = eval e X.env := by rfl)
    (hb2 : attributeBase (.Attribute e "__class__" p1) "__name__" X.env (eval (.Attribute e "__class__" p1) X.env) = eval (.Attribute e "__class__" p1) X.env := by rfl) : PE X (.Attribute (.Attribute e "__class__" p1) "__name__" p2) (tCn X.K te) := by
  refine ⟨fun pins s σ H Q I h => attr_of hb2 (attr_of hb (thn (he.run pins s σ H _ I h) fun u s1 hh => ?_))⟩
  obtain ⟨x, H1, J, rx, a, D, nm, rfl, ea, T, q⟩ := hh
  obtain rfl : u = Value.ref a := rx
  obtain ⟨t1, hg⟩ := exo_at J.hok ea
  obtain ⟨o, tk, hlk, hsl⟩ := T.lk
  refine class_of_error (od := none) T.own J.kIn ⟨hg, rfl, rfl, True.intro⟩ ?_
  exact name_of_class (s := { s1 with toks := s1.toks + 1 }) J.kIn T.rd T.fc T.ty hlk hsl rfl ⟨.str nm, H1, (J.tok _).tok _, ⟨tk, rfl⟩, q⟩
/-- isinstance(e, c) of a caught error that has fields -/
def rIsD (K : PySem.W.Frag) (D a dd : Addr) : List V → Hp → VK → Prop := fun xs H Q => ∃ (c : V) (cv : Value) (b : Bool) (fs : List (Str × V)), xs = [.ref a, c] ∧ ClsV c cv ∧ H dd = some (.xd fs) ∧ PySem.W.kitOne K (.ref D) cv = some b ∧ Q (.bl b) H
theorem call_isD {X : Cx} {a D dd : Addr} {oe : Obj} {pn : List (Addr × Obj)} (T : Own X.K D) (hz : Zc (.ref D) (some dd) oe) (hf : ∃ vs, oe.data = .fields vs) : CallR (X.suite a ((a, oe) :: pn)) (.builtin "isinstance") (rIsD X.K D a dd) := by
  intro pins s σ H xs us Q I r h
  obtain ⟨c, cv, b, fs, rfl, hcv, hdd, e, q⟩ := h
  obtain ⟨u1, u2, rfl, r1, r2⟩ := vals2 r
  obtain rfl : u1 = Value.ref a := r1
  have ec := hcv.eq r2
  subst ec
  obtain ⟨hget, _⟩ := I.pin (a, oe) (List.mem_append_left _ List.mem_cons_self)
  obtain ⟨vs, hv⟩ := hf
  have hx : ObjOk X.prog X.w H s.heap dd (.xd fs) := I.hok dd _ hdd
  obtain ⟨mA, hns, _⟩ := hx
  obtain ⟨od, ho, _⟩ := lookIn_ns hns
  have J : PySem.W.InstAt s.heap a oe D (some od) := ⟨hget, hz.1, by unfold PySem.W.notCls; rw [hv] <;> rfl, by rw [hz.2]; exact ho⟩
  exact PySem.W.kia_one (PySem.W.kitx_exc T.cl T.ga T.gt T.sub T.at_ T.sp T.tk T.mro) I.kIn J e (fun z => nomatch z) fun tk => ⟨.bl b, H, I.tok tk, rfl, q⟩
end LX
-- EY
/-! further generic texts: // by a divisor of any sign, isinstance of a caught error whose class is told by the reading, the facts of an own error class that keeps a number -/
namespace LX
open PySem PySem.Spec PyProof.Rows L2
def CDivWN (_ j : Int) : Prop := j ≠ 0 ∧ j.natAbs.log2 < 9000
section
variable {X : Cx}
theorem op_fdivWN : OpR X (binaryOp .FloorDiv) (rI CDivWN fun i j => .int (i.fdiv j)) := opI fun _ _ _ _ _ _ _ hc q => floordiv_int hc.1 q (.inl (PyProof.noPylong_of_log2 hc.2))
end
def rIsX (K : PySem.W.Frag) (a : Addr) (cls : Value) (d : Option Addr) : List V → Hp → VK → Prop := fun xs H Q => ∃ (D dd : Addr) (c : V) (cv : Value) (b : Bool) (fs : List (Str × V)), cls = .ref D ∧ d = some dd ∧ Own K D ∧ xs = [.ref a, c] ∧ ClsV c cv ∧
  H dd = some (.xd fs) ∧ PySem.W.kitOne K (.ref D) cv = some b ∧ Q (.bl b) H
theorem call_isX {X : Cx} {a : Addr} {cls : Value} {d : Option Addr} {oe : Obj} {pn : List (Addr × Obj)} (hz : Zc cls d oe) (hf : ∃ vs, oe.data = .fields vs) : CallR (X.suite a ((a, oe) :: pn)) (.builtin "isinstance") (rIsX X.K a cls d) := by
  intro pins s σ H xs us Q I r h
  obtain ⟨D, dd, c, cv, b, fs, rfl, rfl, T, ex, hcv, hdd, e, q⟩ := h
  exact call_isD T hz hf pins s σ H xs us Q I r ⟨c, cv, b, fs, ex, hcv, hdd, e, q⟩
theorem text_len {i : Int} {k : Nat} (hk : 0 < k) (h : i.natAbs < 10 ^ k) : (Str.ofString (toString i)).length ≤ k + 1 := by
  have e := PySem.int_text_length_le10 hk h
  rw [PyProof.Rows.ofString_length]
  exact e
theorem bits_le {i : Int} {k : Nat} (h : i.natAbs < 2 ^ k) : Builtin.Int.intBits i ≤ k := PyProof.Rows.intBits_le h
/-- the base of the text's errors -/
structure Err0 (K : PySem.W.Frag) (mg : Str → Option Value) (st : Stmt) where
  CM : Addr
  f : Addr
  fd : FuncData
  F : Fun K "__init__" "ModelError.__init__" st f fd
  b : Binds K fd ["self", "at"] []
  tI : PySem.W.typeIn K (.ref f) = some (.type "function")
  gM : mg "ModelError" = some (.ref CM)
  mV : mg "ValueError" = none
  vV : PySem.W.findCls K (.type "ValueError") (.type "type") "__init__" = some (.val (.builtin "ValueError.__init__"))
/-- one of them -/
structure ErrC (K : PySem.W.Frag) (mg : Str → Option Value) (x : Str) (CM f : Addr) where
  C : Addr
  nm : Str
  named : Named K C nm
  oex : OexC K C
  noAt : PySem.W.findIn K (.ref C) "at" = some none
  iC : PySem.W.findIn K (.ref C) "__init__" = some (some (.ref f))
  g : mg x = some (.ref C)
  exm : PySem.W.exmOne K (.ref C) (.ref CM) = some true
  kit : PySem.W.kitOne K (.ref C) (.ref C) = some true
  xf : XfC K C
/-- an error of the class at C is taken by a clause for the class at S above it -/
theorem exm_is {K : PySem.W.Frag} {S C : Addr} (h1 : PySem.W.subIn K (.ref S) (.type "BaseException") = some true) (h2 : PySem.W.isClsIn K S = true) (h3 : PySem.W.typeIn K (.ref S) = some (.type "type")) (h4 : PySem.W.subIn K (.ref C) (.ref S) = some true) :
    PySem.W.exmOne K (.ref C) (.ref S) = some true := by
  have a : ((PySem.W.clsIn K S).isSome && PySem.W.typeIn K (.ref S) == some (.type "type")) = true := by
    rw [show (PySem.W.clsIn K S).isSome = true from h2, h3]; rfl
  unfold PySem.W.exmOne
  rw [h1, if_pos (by rfl)]
  show (if ((PySem.W.clsIn K S).isSome && PySem.W.typeIn K (.ref S) == some (.type "type")) = true then PySem.W.subIn K (.ref C) (.ref S) else none) = some true
  rw [if_pos a, h4]
theorem refs_one (c : Addr) : PySem.HandSPX.refsVE [.ref c, .type "ValueError", .type "Exception", .type "BaseException", .type "object"] = true := by
  show PySem.HandSPX.refsVE PySem.HandSPX.veTail = true
  decide +kernel
theorem kit_self (K : PySem.W.Frag) (C : Addr) : PySem.W.kitOne K (.ref C) (.ref C) = some true := by
  unfold PySem.W.kitOne
  rw [if_pos (by simp)]
/-- a and b as a value, where b changes nothing and its answer is known -/
def tAndP (ta tb : TE) : TE := fun σ H Q => ta σ H fun x H1 => ∃ c r, x = .bl c ∧ (c = true → ∀ Q' : VK, Q' (.bl r) H1 → tb σ H1 Q') ∧ Q (.bl (c && r)) H1
theorem pe_andP {X : Cx} {a b : Expr} {rest : List Expr} {ta tb : TE} {pos : Pos} (ha : PE X a ta) (hb : PE X (.BoolOp .And (b :: rest) pos) tb) : PE X (.BoolOp .And (a :: b :: rest) pos) (tAndP ta tb) := by
  refine ⟨fun pins s σ H Q I h => ?_⟩
  refine BoolOp_and (thn (ha.run pins s σ H _ I h) fun v s1 ⟨x, H1, I1, r1, q1⟩ => ?_)
  obtain ⟨c, r, rfl, hA, q⟩ := q1
  cases r1
  refine wpAny_truthy_bool ?_
  cases c with
  | true => exact hb.run pins s1 σ H1 Q I1 (hA rfl Q q)
  | false => exact ⟨.bl false, H1, I1, rfl, q⟩
/-- an error is let go that stood above H -/
theorem upd_back {H : Hp} {a d : Addr} {o1 o2 o3 x : HO} (ha : H a = none) (hd : d ≠ a) : upd (del (upd (upd (upd H a o1) d o2) a o3) a) d x = upd H d x := by
  funext b
  by_cases h1 : b = d
  · rw [h1, upd_same, upd_same]
  · rw [upd_ne h1, upd_ne h1]
    by_cases h2 : b = a
    · rw [h2, del_same, ha]
    · rw [del_ne h2, upd_ne h2, upd_ne h1, upd_ne h2]
/-- __init__ of the text's errors, at an error of the class C -/
def sp_init (K : PySem.W.Frag) : Sp := fun vs H Q _ => ∃ (e C : Addr) (nm : Str) (i : Int), vs = [.ref e, .int i] ∧ H e = some (exo e C none) ∧ Named K C nm ∧ OexC K C ∧ PySem.W.findIn K (.ref C) "at" = some none ∧ i.natAbs < 10 ^ 12 ∧
  ∀ d, H d = none → d ≠ e → Q .non (upd (upd H d (exd d [("at", .int i)])) e (exo e C (some d)))
/-- what a raise asks when the class's __init__ is as above -/
theorem raised {K : PySem.W.Frag} {mg : Str → Option Value} {x : Str} {CM f : Addr} (T : ErrC K mg x CM f) {H : Hp} {n : Int} {E : XK} (hn : n.natAbs < 10 ^ 12) (q : ∀ d, H d = none → E (.ref T.C) (some d) (upd H d (.xd [("at", .int n)]))) (a : Addr) (ha : H a = none) :
    sp_init K (.ref a :: ([.int n] ++ [])) (upd H a (exo a T.C none)) (fun v H2 => v = .non ∧ ∃ (d : Addr) (fs : List (Str × V)), H2 a = some (exo a T.C (some d)) ∧ H2 d = some (exd d fs) ∧ H d = none ∧ E (.ref T.C) (some d) (upd (del H2 a) d (.xd fs))) (fun _ _ _ => False) := by
  refine ⟨a, T.C, T.nm, n, rfl, upd_same, T.named, T.oex, T.noAt, hn, fun d hd ne => ⟨rfl, d, [("at", .int n)], upd_same, ?_, ?_, ?_⟩⟩
  · rw [upd_ne ne]; exact upd_same
  · rw [upd_ne ne] at hd; exact hd
  · rw [upd_ne ne] at hd
    rw [upd_back ha ne]
    exact q d hd
end LX
-- EZ
/-! the number that a caught error keeps, where the reading tells which class it has -/
namespace LX
open PySem PySem.Spec PyProof.Rows L2
def tXfA (K : PySem.W.Frag) (a : Addr) (cls : Value) (d : Option Addr) (n : Str) (te : TE) : TE := fun σ H Q => ∃ C : Addr, XfC K C ∧ PySem.W.findIn K (.ref C) n = some none ∧ tXf a cls d C n te σ H Q
theorem pe_xfA {X : Cx} {a : Addr} {oe : Obj} {cls : Value} {d : Option Addr} {pn : List (Addr × Obj)} {e : Expr} {te : TE} {pos : Pos} {n : Str}
    (hz : Zc cls d oe) (hf : ∃ vs, oe.data = .fields vs) (he : PE (X.suite a ((a, oe) :: pn)) e te) (hb : attributeBase e n X.env (eval e X.env) = eval e X.env := by rfl) :
    PE (X.suite a ((a, oe) :: pn)) (.Attribute e n pos) (tXfA X.K a cls d n te) :=
  ⟨fun pins s σ H Q I ⟨_, T, hno, h⟩ => (pe_xf T hno hz hf he hb).run pins s σ H Q I h⟩
end LX
-- KMath
/-! plain mathematics of lists of integers that stand for polynomials -/
namespace K00
abbrev cf (ns : List Int) (m : Nat) : Int := ns.getD m 0
theorem cf_lt {ns : List Int} {m : Nat} (h : m < ns.length) : cf ns m = ns[m] := by simp [cf, List.getD_eq_getElem?_getD, h]
theorem cf_ge {ns : List Int} {m : Nat} (h : ns.length ≤ m) : cf ns m = 0 := by simp [cf, List.getD_eq_getElem?_getD, List.getElem?_eq_none h]
theorem cf_some {ns : List Int} {m : Nat} {x : Int} (h : ns[m]? = some x) : cf ns m = x := by simp [cf, List.getD_eq_getElem?_getD, h]
theorem at_cf {ns : List Int} {m : Nat} (h : m < ns.length) : ns[m]? = some (cf ns m) := by rw [cf_lt h, List.getElem?_eq_getElem h]
theorem cf_cons_succ (a : Int) (r : List Int) (m : Nat) : cf (a :: r) (m + 1) = cf r m := by simp [cf]
theorem cf_cons_zero (a : Int) (r : List Int) : cf (a :: r) 0 = a := by simp [cf]

def trim : List Int → List Int
  | [] => []
  | a :: r => if trim r = [] ∧ a = 0 then [] else a :: trim r
/-- without a nought at the end -/
def Can (ns : List Int) : Prop := ns = [] ∨ cf ns (ns.length - 1) ≠ 0
instance (ns : List Int) : Decidable (Can ns) := by unfold Can; infer_instance

theorem cf_trim : ∀ (ns : List Int) (m : Nat), cf (trim ns) m = cf ns m
  | [], _ => rfl
  | a :: r, m => by
    unfold trim
    split
    · rename_i h
      have ih := cf_trim r
      rw [h.1] at ih
      cases m with
      | zero => rw [cf_cons_zero, h.2]; rfl
      | succ m => rw [cf_cons_succ, ← ih m]; rfl
    · cases m with
      | zero => rfl
      | succ m => rw [cf_cons_succ, cf_cons_succ, cf_trim r m]
theorem can_trim : ∀ ns : List Int, Can (trim ns)
  | [] => .inl rfl
  | a :: r => by
    unfold trim
    split
    · exact .inl rfl
    · rename_i h
      right
      rcases can_trim r with e | e
      · rw [e] at h ⊢
        have ha : a ≠ 0 := fun z => h ⟨rfl, z⟩
        simpa [cf] using ha
      · have hl : (trim r).length ≠ 0 := by
          intro z
          have z' : trim r = [] := List.length_eq_zero_iff.mp z
          rw [z'] at e
          exact e rfl
        show cf (a :: trim r) ((trim r).length + 1 - 1) ≠ 0
        have e2 : (trim r).length + 1 - 1 = ((trim r).length - 1) + 1 := by omega
        rw [e2, cf_cons_succ]
        exact e
theorem trim_len : ∀ ns : List Int, (trim ns).length ≤ ns.length
  | [] => Nat.le_refl _
  | a :: r => by
    unfold trim
    have := trim_len r
    split
    · exact Nat.zero_le _
    · simp only [List.length_cons]; omega
theorem len_le_of {a b : List Int} (ha : Can a) (h : ∀ m, cf a m = cf b m) : a.length ≤ b.length := by
  rcases ha with e | e
  · rw [e]; exact Nat.zero_le _
  · rcases Nat.lt_or_ge b.length a.length with q | q
    · exfalso
      apply e
      rw [h, cf_ge (by omega)]
    · exact q
theorem can_ext {a b : List Int} (ha : Can a) (hb : Can b) (h : ∀ m, cf a m = cf b m) : a = b := by
  have h1 := len_le_of ha h
  have h2 := len_le_of hb (fun m => (h m).symm)
  have hl : a.length = b.length := by omega
  refine List.ext_getElem hl fun m h3 h4 => ?_
  rw [← cf_lt h3, ← cf_lt h4, h m]
theorem trim_can {a : List Int} (h : Can a) : trim a = a := can_ext (can_trim a) h (cf_trim a)
theorem can_iff {a : List Int} : Can a ↔ trim a = a := ⟨trim_can, fun h => h ▸ can_trim a⟩
theorem trim_eq {a b : List Int} (h : ∀ m, cf a m = cf b m) : trim a = trim b := can_ext (can_trim a) (can_trim b) fun m => by rw [cf_trim, cf_trim, h]
theorem cf_take {ns : List Int} {L m : Nat} : cf (ns.take L) m = if m < L then cf ns m else 0 := by
  unfold cf
  rw [List.getD_eq_getElem?_getD, List.getD_eq_getElem?_getD, List.getElem?_take]
  split <;> rfl
theorem take_trim {ns : List Int} {L : Nat} (hL : L ≤ ns.length) (h0 : ∀ m, L ≤ m → cf ns m = 0) (h1 : L = 0 ∨ cf ns (L - 1) ≠ 0) : ns.take L = trim ns := by
  refine can_ext ?_ (can_trim ns) fun m => ?_
  · rcases h1 with e | e
    · exact .inl (by rw [e]; rfl)
    · have hp : 0 < L := by
        rcases Nat.eq_zero_or_pos L with z | z
        · subst z
          exfalso
          exact e (h0 _ (Nat.zero_le _))
        · exact z
      refine .inr ?_
      rw [List.length_take, Nat.min_eq_left hL, cf_take, if_pos (by omega)]
      exact e
  · rw [cf_trim, cf_take]
    split
    · rfl
    · rename_i q
      exact (h0 m (by omega)).symm

/-! sums -/
def padd (a b : List Int) : List Int := trim ((List.range (max a.length b.length)).map fun m => cf a m + cf b m)
theorem cf_map_range {n : Nat} {f : Nat → Int} {m : Nat} : cf ((List.range n).map f) m = if m < n then f m else 0 := by
  by_cases h : m < n
  · rw [if_pos h, cf_lt (by simpa using h)]
    simp
  · rw [if_neg h, cf_ge (by simpa using Nat.le_of_not_lt h)]
theorem cf_padd (a b : List Int) (m : Nat) : cf (padd a b) m = cf a m + cf b m := by
  unfold padd
  rw [cf_trim, cf_map_range]
  split
  · rfl
  · rename_i h
    rw [cf_ge (show a.length ≤ m by omega), cf_ge (show b.length ≤ m by omega)]
    rfl
theorem can_padd (a b : List Int) : Can (padd a b) := can_trim _
theorem padd_of {a b t : List Int} (h : ∀ m, cf t m = cf a m + cf b m) : trim t = padd a b := can_ext (can_trim _) (can_padd a b) fun m => by rw [cf_trim, cf_padd, h]
theorem padd_nil (a : List Int) : padd a [] = trim a := (padd_of (t := a) fun m => by show cf a m = cf a m + 0; omega).symm
theorem padd_len (a b : List Int) : (padd a b).length ≤ max a.length b.length := by
  unfold padd
  refine Nat.le_trans (trim_len _) ?_
  simp

/-! products -/
def conv (a b : List Int) : Nat → Nat → Int
  | 0, _ => 0
  | n + 1, m => conv a b n m + cf a n * (if n ≤ m then cf b (m - n) else 0)
theorem conv_out {a b : List Int} : ∀ {n m : Nat}, a.length + b.length ≤ m + 1 → n ≤ a.length → conv a b n m = 0
  | 0, _, _, _ => rfl
  | n + 1, m, h, hn => by
    unfold conv
    rw [conv_out h (by omega)]
    split
    · rw [cf_ge (show b.length ≤ m - n by omega)]; simp
    · simp
def pmul (a b : List Int) : List Int := trim ((List.range (a.length + b.length)).map fun m => conv a b a.length m)
theorem cf_pmul (a b : List Int) (m : Nat) : cf (pmul a b) m = conv a b a.length m := by
  unfold pmul
  rw [cf_trim, cf_map_range]
  split
  · rfl
  · rename_i h
    exact (conv_out (by omega) (Nat.le_refl _)).symm
theorem can_pmul (a b : List Int) : Can (pmul a b) := can_trim _
theorem pmul_of {a b t : List Int} (h : ∀ m, cf t m = conv a b a.length m) : trim t = pmul a b := can_ext (can_trim _) (can_pmul a b) fun m => by rw [cf_trim, cf_pmul, h]
theorem cf_shift {k : Nat} {r : List Int} {m : Nat} : cf (List.replicate k 0 ++ r) m = if k ≤ m then cf r (m - k) else 0 := by
  unfold cf
  rw [List.getD_eq_getElem?_getD, List.getD_eq_getElem?_getD]
  by_cases h : k ≤ m
  · rw [if_pos h, List.getElem?_append_right (by simpa using h)]
    simp
  · rw [if_neg h, List.getElem?_append_left (by simp; omega)]
    simp [List.getElem?_replicate, show m < k by omega]
theorem cf_scale {c : Int} {r : List Int} {m : Nat} : cf (r.map (c * ·)) m = c * cf r m := by
  unfold cf
  rw [List.getD_eq_getElem?_getD, List.getD_eq_getElem?_getD, List.getElem?_map]
  cases r[m]? <;> simp
/-- one turn of the reckoning by shifted multiples -/
theorem conv_turn {a b t : List Int} {n : Nat} (ht : ∀ m, cf t m = conv a b n m) (m : Nat) : cf (padd t (List.replicate n 0 ++ if cf a n ≠ 0 then b.map (cf a n * ·) else [])) m = conv a b (n + 1) m := by
  rw [cf_padd, ht, cf_shift]
  show _ = conv a b n m + cf a n * (if n ≤ m then cf b (m - n) else 0)
  by_cases q : n ≤ m
  · rw [if_pos q, if_pos q]
    by_cases h : cf a n = 0
    · rw [if_neg (fun z => z h), h]; simp [cf]
    · rw [if_pos h, cf_scale]
  · rw [if_neg q, if_neg q]; simp

/-! values -/
def pval (x : Int) : List Int → Int
  | [] => 0
  | a :: r => pval x r * x + a
theorem pval_last (x : Int) : ∀ (ns : List Int) (i : Nat), i < ns.length → pval x (ns.drop (ns.length - (i + 1))) = pval x (ns.drop (ns.length - i)) * x + cf ns (ns.length - 1 - i) := fun ns i h => by
  have e : ns.length - (i + 1) < ns.length := by omega
  rw [List.drop_eq_getElem_cons e]
  have e2 : ns.length - (i + 1) + 1 = ns.length - i := by omega
  rw [e2]
  show pval x (ns.drop (ns.length - i)) * x + _ = _
  rw [← cf_lt e]
  congr 2
  omega
theorem pow_bound {x : Int} (hx : x.natAbs ≤ 1000) : ∀ i : Nat, (x ^ i).natAbs < 2 ^ (10 * i + 1)
  | 0 => by rw [Int.pow_zero]; decide
  | i + 1 => by
    rw [Int.pow_succ, Int.natAbs_mul]
    have h := pow_bound hx i
    have e : 2 ^ (10 * (i + 1) + 1) = 2 ^ (10 * i + 1) * 1024 := by
      rw [show 10 * (i + 1) + 1 = (10 * i + 1) + 10 by omega, Nat.pow_add]
    rw [e]
    exact Nat.mul_lt_mul'' h (by omega)
end K00
namespace K01
open PySem PySem.Spec PyProof.Rows L2
open K00 (cf trim padd pmul conv cf_lt cf_ge cf_some at_cf cf_trim can_trim trim_len take_trim cf_take padd_of pmul_of padd_nil padd_len cf_padd cf_pmul can_padd can_pmul trim_can Can can_ext conv_turn conv_out cf_shift cf_scale cf_map_range trim_eq can_iff pval pval_last pow_bound)
-- B01
def topS (i : Nat) : Stmt := PySem.Challenge.pw_unsaidsizes_k01_tables_and_products.main.body.getD i (.Pass ⟨0, 0, 0, 0⟩)
abbrev s_trimmed : Stmt := topS 1
theorem sc_trimmed : FnScope ["numbers", "length"] ["numbers"] (defScope s_trimmed) := ⟨rfl, rfl, rfl, by decide +kernel, rfl, by decide +kernel, by decide +kernel⟩
abbrev s_value : Stmt := topS 2
theorem sc_value : FnScope ["one", "at", "total", "number"] ["one", "at"] (defScope s_value) := ⟨rfl, rfl, rfl, by decide +kernel, rfl, by decide +kernel, by decide +kernel⟩
abbrev s_plus : Stmt := topS 3
theorem sc_plus : FnScope ["one", "two", "length", "total", "k", "number"] ["one", "two"] (defScope s_plus) := ⟨rfl, rfl, rfl, by decide +kernel, rfl, by decide +kernel, by decide +kernel⟩
abbrev s_times : Stmt := topS 4
theorem sc_times : FnScope ["one", "two", "total", "k", "number", "m", "other"] ["one", "two"] (defScope s_times) := ⟨rfl, rfl, rfl, by decide +kernel, rfl, by decide +kernel, by decide +kernel⟩
abbrev s_wording : Stmt := topS 6
theorem sc_wording : FnScope ["name", "at"] ["name", "at"] (defScope s_wording) := ⟨rfl, rfl, rfl, by decide +kernel, rfl, by decide +kernel, by decide +kernel⟩
abbrev s_width : Stmt := topS 10
theorem sc_width : FnScope ["table"] ["table"] (defScope s_width) := ⟨rfl, rfl, rfl, by decide +kernel, rfl, by decide +kernel, by decide +kernel⟩
abbrev s_is_square : Stmt := topS 11
theorem sc_is_square : FnScope ["table"] ["table"] (defScope s_is_square) := ⟨rfl, rfl, rfl, by decide +kernel, rfl, by decide +kernel, by decide +kernel⟩
abbrev s_value_at : Stmt := topS 12
theorem sc_value_at : FnScope ["table", "at", "row", "one"] ["table", "at"] (defScope s_value_at) := ⟨rfl, rfl, rfl, by decide +kernel, rfl, by decide +kernel, by decide +kernel⟩
abbrev s_cell : Stmt := topS 13
theorem sc_cell : FnScope ["row", "two", "j", "total", "k", "one"] ["row", "two", "j"] (defScope s_cell) := ⟨rfl, rfl, rfl, by decide +kernel, rfl, by decide +kernel, by decide +kernel⟩
abbrev s_product : Stmt := topS 14
theorem sc_product : FnScope ["one", "two", "row", "j"] ["one", "two"] (defScope s_product) := ⟨rfl, rfl, rfl, by decide +kernel, rfl, by decide +kernel, by decide +kernel⟩
abbrev s_multiple_of : Stmt := topS 15
theorem sc_multiple_of : FnScope ["table", "corner", "i", "row", "j", "one"] ["table"] (defScope s_multiple_of) := ⟨rfl, rfl, rfl, by decide +kernel, rfl, by decide +kernel, by decide +kernel⟩
abbrev s_law_draws : Stmt := topS 17
theorem sc_law_draws : FnScope ["script", "draws", "k", "rest", "turn", "mixed"] ["script"] (defScope s_law_draws) := ⟨rfl, rfl, rfl, by decide +kernel, rfl, by decide +kernel, by decide +kernel⟩
abbrev s_law_at : Stmt := topS 18
theorem sc_law_at : FnScope ["draws", "k", "many"] ["draws", "k", "many"] (defScope s_law_at) := ⟨rfl, rfl, rfl, by decide +kernel, rfl, by decide +kernel, by decide +kernel⟩
abbrev s_law_number : Stmt := topS 19
theorem sc_law_number : FnScope ["draws", "k", "kind", "cell", "side"] ["draws", "k"] (defScope s_law_number) := ⟨rfl, rfl, rfl, by decide +kernel, rfl, by decide +kernel, by decide +kernel⟩
abbrev s_law_poly : Stmt := topS 20
theorem sc_law_poly : FnScope ["draws", "k", "most", "m", "numbers", "last"] ["draws", "k", "most"] (defScope s_law_poly) := ⟨rfl, rfl, rfl, by decide +kernel, rfl, by decide +kernel, by decide +kernel⟩
abbrev s_law_plus : Stmt := topS 21
theorem sc_law_plus : FnScope ["one", "two", "k", "total", "last"] ["one", "two"] (defScope s_law_plus) := ⟨rfl, rfl, rfl, by decide +kernel, rfl, by decide +kernel, by decide +kernel⟩
abbrev s_law_times : Stmt := topS 22
theorem sc_law_times : FnScope ["one", "two", "total", "k", "m", "number"] ["one", "two"] (defScope s_law_times) := ⟨rfl, rfl, rfl, by decide +kernel, rfl, by decide +kernel, by decide +kernel⟩
abbrev s_law_value : Stmt := topS 23
theorem sc_law_value : FnScope ["one", "at", "total", "power", "number"] ["one", "at"] (defScope s_law_value) := ⟨rfl, rfl, rfl, by decide +kernel, rfl, by decide +kernel, by decide +kernel⟩
abbrev s_law_long : Stmt := topS 24
theorem sc_law_long : FnScope ["step", "i", "j", "k"] ["step", "i", "j"] (defScope s_law_long) := ⟨rfl, rfl, rfl, by decide +kernel, rfl, by decide +kernel, by decide +kernel⟩
abbrev s_law_table : Stmt := topS 25
theorem sc_law_table : FnScope ["draws", "k", "rows", "columns", "long", "step", "i", "j"] ["draws", "k", "rows", "columns", "long"] (defScope s_law_table) := ⟨rfl, rfl, rfl, by decide +kernel, rfl, by decide +kernel, by decide +kernel⟩
abbrev s_law_product : Stmt := topS 26
theorem sc_law_product : FnScope ["one", "two", "columns", "rows", "row", "line", "j", "total", "k"] ["one", "two", "columns"] (defScope s_law_product) := ⟨rfl, rfl, rfl, by decide +kernel, rfl, by decide +kernel, by decide +kernel⟩
abbrev s_law_refused : Stmt := topS 27
theorem sc_law_refused : FnScope ["one", "two", "e"] ["one", "two"] (defScope s_law_refused) := ⟨rfl, rfl, rfl, by decide +kernel, rfl, by decide +kernel, by decide +kernel⟩
abbrev s_law_one : Stmt := topS 28
theorem sc_law_one : FnScope ["many", "number", "i", "j"] ["many", "number"] (defScope s_law_one) := ⟨rfl, rfl, rfl, by decide +kernel, rfl, by decide +kernel, by decide +kernel⟩
abbrev s_law_spoilt : Stmt := topS 29
theorem sc_law_spoilt : FnScope ["draws", "table", "number", "word", "many", "i", "j", "row", "element", "k"] ["draws", "table", "number"] (defScope s_law_spoilt) := ⟨rfl, rfl, rfl, by decide +kernel, rfl, by decide +kernel, by decide +kernel⟩
abbrev s_law_due : Stmt := topS 30
theorem sc_law_due : FnScope ["table", "many"] ["table"] (defScope s_law_due) := ⟨rfl, rfl, rfl, by decide +kernel, rfl, by decide +kernel, by decide +kernel⟩
abbrev s_law_pair : Stmt := topS 31
theorem sc_law_pair : FnScope ["draws", "many", "number", "one", "two", "turn", "cell", "i", "other", "factor", "back", "row", "part", "j", "k"] ["draws", "many", "number"] (defScope s_law_pair) := ⟨rfl, rfl, rfl, by decide +kernel, rfl, by decide +kernel, by decide +kernel⟩
abbrev s_law_tables_hold : Stmt := topS 32
theorem sc_law_tables_hold : FnScope ["draws", "word", "sizes", "rows", "middle", "columns", "one", "two", "kept", "due", "told", "row", "element", "at", "values", "k", "j"] ["draws"] (defScope s_law_tables_hold) := ⟨rfl, rfl, rfl, by decide +kernel, rfl, by decide +kernel, by decide +kernel⟩
abbrev s_law : Stmt := topS 33
theorem sc_law : FnScope ["script", "draws", "many", "number", "table", "turn", "other", "kept", "small", "one", "two", "due"] ["script"] (defScope s_law) := ⟨rfl, rfl, rfl, by decide +kernel, rfl, by decide +kernel, by decide +kernel⟩
/-- a def as it stands behind the top -/
structure Def (K : PySem.W.Frag) (mg : Str → Option Value) (x : Str) (st : Stmt) (ps : List Str) where
  a : Addr
  fd : FuncData
  F : Fun K x x st a fd
  b : Binds K fd ps []
  g : mg x = some (.ref a)
/-- a def that holds generator expressions: its code object is known -/
structure DefT (K : PySem.W.Frag) (mg : Str → Option Value) (x : Str) (st : Stmt) (ps : List Str) where
  a : Addr
  c : Addr
  fd : FuncData
  ex : ∃ (oc : Value) (od : Option Addr) (dV kV doc pm : Value) (an : Option Addr) (ct : Value) (osl : Array (Option Value)), fd = PySem.W.fnOf x x (defArgs st) (defBody st) (defScope st) dV kV doc pm an (.ref c) ct ∧ K.lookup a = some ⟨oc, od, .func fd, osl⟩ ∧ PySem.W.codeIn K (.ref c) x = true
  kp : PySem.W.keepIn K (.ref a) = true
  b : Binds K fd ps []
  g : mg x = some (.ref a)
theorem DefT.ok {P : Program} {w : World} {K : PySem.W.Frag} {mg : Str → Option Value} {base : Heap} {x : Str} {st : Stmt} {N ps : List Str} {k : Nat} {sp : Sp} (T : DefT K mg x st ps) (S : FnScope N ps (defScope st)) (len : ∀ vs H Q E, sp vs H Q E → vs.length = ps.length)
    (hbody : ∀ (A : Around) (outer : List Env) (s : Shared) (H : Hp) (vs : List V) (Q : VK) (E : XK), Room k (A.deeper (envOfC x (defScope st) s.heap.objs.size T.a (.ref T.c))) → sp vs H Q E →
      ∃ t, PSs (cxOf CX0 P w K mg base N x (defScope st) T.a (.ref T.c) A outer s H E).nox (defBody st) t ∧ t { nx := fun _ H' => Q .non H', rt := Q } (L2.start N vs) H) : FnOk P w K mg base CX0 (k + 1) T.a T.fd ps sp := by
  obtain ⟨a, c, fd, ⟨oc, od, dV, kV, doc, pm, an, ct, osl, rfl, lk, hcd⟩, kp, b, g⟩ := T
  refine fn_of lk hcd S len fun A outer s H vs Q E hr hsp => ?_
  obtain ⟨t, h, q⟩ := hbody A outer s H vs Q E hr hsp
  exact ⟨t, h.nox, q⟩
structure Txt (K : PySem.W.Frag) (mg : Str → Option Value) where
  trimmed : Def K mg "trimmed" s_trimmed ["numbers"]
  value : Def K mg "value" s_value ["one", "at"]
  plus : Def K mg "plus" s_plus ["one", "two"]
  times : Def K mg "times" s_times ["one", "two"]
  wording : Def K mg "_wording" s_wording ["name", "at"]
  width : Def K mg "_width" s_width ["table"]
  is_square : DefT K mg "_is_square" s_is_square ["table"]
  value_at : Def K mg "value_at" s_value_at ["table", "at"]
  cell : Def K mg "_cell" s_cell ["row", "two", "j"]
  product : Def K mg "product" s_product ["one", "two"]
  multiple_of : Def K mg "multiple_of" s_multiple_of ["table"]
  law_draws : Def K mg "_law_draws" s_law_draws ["script"]
  law_at : Def K mg "_law_at" s_law_at ["draws", "k", "many"]
  law_number : Def K mg "_law_number" s_law_number ["draws", "k"]
  law_poly : Def K mg "_law_poly" s_law_poly ["draws", "k", "most"]
  law_plus : Def K mg "_law_plus" s_law_plus ["one", "two"]
  law_times : Def K mg "_law_times" s_law_times ["one", "two"]
  law_value : Def K mg "_law_value" s_law_value ["one", "at"]
  law_long : Def K mg "_law_long" s_law_long ["step", "i", "j"]
  law_table : Def K mg "_law_table" s_law_table ["draws", "k", "rows", "columns", "long"]
  law_product : Def K mg "_law_product" s_law_product ["one", "two", "columns"]
  law_refused : Def K mg "_law_refused" s_law_refused ["one", "two"]
  law_one : Def K mg "_law_one" s_law_one ["many", "number"]
  law_spoilt : Def K mg "_law_spoilt" s_law_spoilt ["draws", "table", "number"]
  law_due : Def K mg "_law_due" s_law_due ["table"]
  law_pair : Def K mg "_law_pair" s_law_pair ["draws", "many", "number"]
  law_tables_hold : Def K mg "_law_tables_hold" s_law_tables_hold ["draws"]
  law : Def K mg "law" s_law ["script"]
  m_abs : mg "abs" = none
  m_all : mg "all" = none
  m_enumerate : mg "enumerate" = none
  m_int : mg "int" = none
  m_isinstance : mg "isinstance" = none
  m_len : mg "len" = none
  m_list : mg "list" = none
  m_max : mg "max" = none
  m_min : mg "min" = none
  m_range : mg "range" = none
  m_repr : mg "repr" = none
  m_reversed : mg "reversed" = none
/-! ### the errors of the text -/
abbrev s_init : Stmt := inClass (topS 7) 0
theorem sc_init : FnScope ["self", "at"] ["self", "at"] (defScope s_init) := ⟨rfl, rfl, rfl, by decide +kernel, rfl, by decide +kernel, by decide +kernel⟩
structure Errs (K : PySem.W.Frag) (mg : Str → Option Value) where
  e0 : LX.Err0 K mg s_init
  WrongSize : LX.ErrC K mg "WrongSize" e0.CM e0.f
  exS : PySem.W.exmOne K (.ref WrongSize.C) (.ref WrongSize.C) = some true
  kitM : PySem.W.kitOne K (.ref WrongSize.C) (.ref e0.CM) = some true
/-! ### words -/
theorem same_upd {H : Hp} {p : Addr} {o : HO} (h : H p = none) : Same H (upd H p o) := fun b x e => by
  rw [upd_ne (ne_of_none e h)]
  exact e
theorem same_over {H H' : Hp} {p : Addr} {o : HO} (s : Same H H') (h : H p = none) : Same H (upd H' p o) := fun b x e => by
  rw [upd_ne (ne_of_none e h)]
  exact s _ _ e
theorem Same.seqT {K : PySem.W.Frag} {H H' : Hp} {a : Addr} {xs : List V} (e : Same H H') (h : SqT K H a xs) : SqT K H' a xs := by
  rcases h with (h | ⟨o, h⟩) | h
  · exact .inl (.inl (e _ _ h))
  · exact .inl (.inr ⟨o, e _ _ h⟩)
  · exact .inr h
/-- two lists in step -/
inductive A2 {α β : Type} (R : α → β → Prop) : List α → List β → Prop
  | nil : A2 R [] []
  | cons {a b as bs} : R a b → A2 R as bs → A2 R (a :: as) (b :: bs)
namespace A2
variable {α β γ : Type} {R S : α → β → Prop} {as : List α} {bs : List β}
theorem mono (f : ∀ a b, R a b → S a b) : ∀ {as : List α} {bs : List β}, A2 R as bs → A2 S as bs
  | _, _, .nil => .nil
  | _, _, .cons h t => .cons (f _ _ h) (mono f t)
theorem len : ∀ {as : List α} {bs : List β}, A2 R as bs → as.length = bs.length
  | _, _, .nil => rfl
  | _, _, .cons _ t => by rw [List.length_cons, List.length_cons, len t]
theorem get : ∀ {as : List α} {bs : List β}, A2 R as bs → ∀ {i : Nat} {a : α}, as[i]? = some a → ∃ b, bs[i]? = some b ∧ R a b
  | _, _, .nil, i, a, h => by simp at h
  | _, _, .cons h t, 0, a, e => by simp at e; subst e; exact ⟨_, rfl, h⟩
  | _, _, .cons h t, i + 1, a, e => get t (i := i) (by simpa using e)
theorem get' : ∀ {as : List α} {bs : List β}, A2 R as bs → ∀ {i : Nat} {b : β}, bs[i]? = some b → ∃ a, as[i]? = some a ∧ R a b
  | _, _, .nil, i, a, h => by simp at h
  | _, _, .cons h t, 0, a, e => by simp at e; subst e; exact ⟨_, rfl, h⟩
  | _, _, .cons h t, i + 1, a, e => get' t (i := i) (by simpa using e)
theorem snoc {a : α} {b : β} (h : R a b) : ∀ {as : List α} {bs : List β}, A2 R as bs → A2 R (as ++ [a]) (bs ++ [b])
  | _, _, .nil => .cons h .nil
  | _, _, .cons x t => .cons x (snoc h t)
theorem set {a : α} {b : β} (h : R a b) : ∀ {as : List α} {bs : List β}, A2 R as bs → ∀ i : Nat, A2 R (as.set i a) (bs.set i b)
  | _, _, .nil, _ => .nil
  | _, _, .cons _ t, 0 => .cons h t
  | _, _, .cons x t, i + 1 => .cons x (set h t i)
end A2
theorem take_snoc {α : Type} {xs : List α} {i : Nat} {x : α} (h : xs[i]? = some x) : xs.take (i + 1) = xs.take i ++ [x] := by
  rw [List.take_add_one, h]; rfl
theorem a2_eq {α : Type} {f : α → V} : ∀ {ys : List V} {xs : List α}, A2 (fun v x => v = f x) ys xs → ys = xs.map f
  | _, _, .nil => rfl
  | _, _, .cons h t => by rw [h, a2_eq t]; rfl
theorem a2_ref {α : Type} {R : Addr → α → Prop} : ∀ {ys : List V} {xs : List α}, A2 (fun v x => ∃ a, v = .ref a ∧ R a x) ys xs → ∃ as : List Addr, ys = as.map V.ref ∧ A2 R as xs
  | _, _, .nil => ⟨[], rfl, .nil⟩
  | _, _, .cons ⟨a, e, h⟩ t => by
    obtain ⟨as, rfl, r⟩ := a2_ref t
    exact ⟨a :: as, by rw [e]; rfl, .cons h r⟩
theorem fm_some {α β : Type} (f : α → β) (xs : List α) : xs.filterMap (fun x => some (f x)) = xs.map f := by
  induction xs with
  | nil => rfl
  | cons x r ih =>
    rw [List.filterMap_cons]
    show f x :: _ = _
    rw [ih]; rfl
theorem some_at {α : Type} {xs : List α} {i : Nat} (h : i < xs.length) : ∃ x, xs[i]? = some x := ⟨_, List.getElem?_eq_getElem h⟩
theorem mem_at {α : Type} {xs : List α} {i : Nat} {x : α} (h : xs[i]? = some x) : x ∈ xs := List.mem_of_getElem? h
/-- a list of ints stands at a -/
def IL (H : Hp) (a : Addr) (ns : List Int) : Prop := H a = some (.lst (ns.map V.int))
theorem IL.sq {K : PySem.W.Frag} {H : Hp} {a : Addr} {ns : List Int} (h : IL H a ns) : SqL K H a (ns.map V.int) := SqL.of h
theorem IL.same {H H' : Hp} {a : Addr} {ns : List Int} (h : IL H a ns) (s : Same H H') : IL H' a ns := s _ _ h
theorem il_upd {H : Hp} {p : Addr} {ns : List Int} : IL (upd H p (.lst (ns.map V.int))) p ns := upd_same
theorem app_ints {ds : List Int} {x : Int} : ds.map V.int ++ [V.int x] = (ds ++ [x]).map V.int := by rw [List.map_append]; rfl
theorem small {n : Nat} (h : n ≤ 60000) : n ≤ sizeLine := Nat.le_trans h (by decide)
theorem small' {n : Nat} (h : n < 60000) : n < sizeLine := Nat.lt_of_lt_of_le h (by decide)
theorem at_map {ns : List Int} {m : Nat} (h : m < ns.length) : ns[m]? = some (cf ns m) := by unfold cf; rw [List.getD_eq_getElem?_getD, List.getElem?_eq_getElem h]; rfl
theorem at_map' {ns : List Int} {i : Int} {m : Nat} (e : i = (m : Int)) (h : m < ns.length) : atI (ns.map V.int) i = some (V.int (cf ns m)) := by
  rw [e]
  refine atI_nat ?_
  rw [List.getElem?_map, at_map h]; rfl
/-- all but D stand as they stood -/
def SameX (D : Addr) (H H' : Hp) : Prop := ∀ c o, c ≠ D → H c = some o → H' c = some o
theorem sx {D : Addr} {H H' : Hp} (s : Same H H') : SameX D H H' := fun c o _ h => s c o h
theorem SameX.trans {D : Addr} {H H1 H2 : Hp} (a : SameX D H H1) (b : SameX D H1 H2) : SameX D H H2 := fun c o n h => b c o n (a c o n h)
theorem SameX.put {D : Addr} {H : Hp} {o : HO} : SameX D H (upd H D o) := fun c x n h => by
  rw [upd_ne n]; exact h
section
variable {J : It} {n : Nat} {G : Hp → Prop} {Y : Nat → Hp → V → Hp → Prop} {g : TG} {tt : TT} {te : TE} {vs : List Nat} {σ : L2.St} {H1 : Hp} {D : Addr} {Qd : Hp → Prop}
/-- what a comprehension wants of its turns -/
abbrev LcW (J : It) (g : TG) (tt : TT) (te : TE) (vs : List Nat) (σ : L2.St) (H1 : Hp) (D : Addr) (Qd : Hp → Prop) : Prop :=
  ∃ W : Nat → Nat → Hp → Prop, (∃ m, W 0 m (upd H1 D (.lst []))) ∧ ∀ i m H, W i m H →
      (J.stop i H ∧ Qd H) ∨ (J.go i H ∧ ∃ Nx : Hp → Prop, (∀ H', Nx H' → ∃ m', m' < m ∧ W (i + 1) m' H') ∧ ∀ x H', J.yld i H x H' → g x (wipe σ vs) H' fun σ2 H2 => wipe σ2 vs = wipe σ vs ∧ tt σ2 H2 fun b H3 =>
        if b = true then te σ2 H3 fun y H4 => ∃ acc, H4 D = some (.lst acc) ∧ acc.length < sizeLine ∧ Nx (upd H4 D (.lst (acc ++ [y]))) else Nx H3)
theorem lc_inv (w : Walk J n G Y) (R : Nat → Hp → List V → Prop) (nD : H1 D = none) (hG : ∀ H', Same H1 H' → G H') (hl : n < sizeLine) (h0 : R 0 (upd H1 D (.lst [])) [])
    (hs : ∀ i x H Hx ys, i < n → Same H1 H → H D = some (.lst ys) → R i H ys → Y i H x Hx → ∀ (Qt : VK) (Qf : Hp → Prop), (∀ y H4, Same H H4 → R (i + 1) (upd H4 D (.lst (ys ++ [y]))) (ys ++ [y]) → Qt y H4) →
      (∀ H3, Same H H3 → R (i + 1) H3 ys → Qf H3) → g x (wipe σ vs) Hx fun σ2 H2 => wipe σ2 vs = wipe σ vs ∧ tt σ2 H2 fun b H3 => if b = true then te σ2 H3 Qt else Qf H3)
    (hd : ∀ H ys, Same H1 H → H D = some (.lst ys) → R n H ys → Qd H) : LcW J g tt te vs σ H1 D Qd := by
  refine lc_it w (fun i H => Same H1 H ∧ ∃ ys, ys.length ≤ i ∧ H D = some (.lst ys) ∧ R i H ys) ⟨same_upd nD, [], Nat.le_refl _, upd_same, h0⟩ (fun i H _ p => hG H p.1) (fun i x H Hx hi p y => ?_) (fun H p => ?_)
  · obtain ⟨sm, ys, hn, hD, hR⟩ := p
    refine hs i x H Hx ys hi sm hD hR y (fun y H4 => ∃ acc, H4 D = some (.lst acc) ∧ acc.length < sizeLine ∧ Same H1 (upd H4 D (.lst (acc ++ [y]))) ∧ ∃ zs, zs.length ≤ i + 1 ∧ upd H4 D (.lst (acc ++ [y])) D = some (.lst zs) ∧ R (i + 1) (upd H4 D (.lst (acc ++ [y]))) zs) _ (fun y H4 s4 r => ?_) (fun H3 s3 r => ?_)
    · exact ⟨ys, s4 _ _ hD, by omega, same_over (sm.trans s4) nD, ys ++ [y], by rw [List.length_append]; exact Nat.succ_le_succ hn, upd_same, r⟩
    · exact ⟨sm.trans s3, ys, by omega, s3 _ _ hD, r⟩
  · obtain ⟨sm, ys, _, hD, hR⟩ := p
    exact hd H ys sm hD hR
/-- item by item -/
theorem lc_fm {α β : Type} (w : Walk J n G Y) (ls : List α) (f : α → Option β) (rel : Hp → V → β → Prop) (mono : ∀ H H' v b, SameX D H H' → rel H v b → rel H' v b) (hn : ls.length = n) (nD : H1 D = none)
    (hG : ∀ H', Same H1 H' → G H') (hl : n < sizeLine)
    (hs : ∀ i x H Hx ys l, ls[i]? = some l → Same H1 H → H D = some (.lst ys) → Y i H x Hx → ∀ (Qt : VK) (Qf : Hp → Prop), (∀ y H4 b, f l = some b → Same H H4 → rel H4 y b → Qt y H4) →
      (f l = none → ∀ H3, Same H H3 → Qf H3) → g x (wipe σ vs) Hx fun σ2 H2 => wipe σ2 vs = wipe σ vs ∧ tt σ2 H2 fun b H3 => if b = true then te σ2 H3 Qt else Qf H3)
    (hd : ∀ H ys, Same H1 H → H D = some (.lst ys) → A2 (rel H) ys (ls.filterMap f) → Qd H) : LcW J g tt te vs σ H1 D Qd := by
  refine lc_inv w (fun i H ys => A2 (rel H) ys ((ls.take i).filterMap f)) nD hG hl .nil (fun i x H Hx ys hi sm hD hR y Qt Qf qt qf => ?_) (fun H ys sm hD hR => ?_)
  · obtain ⟨l, hl⟩ : ∃ l, ls[i]? = some l := ⟨ls[i]'(by omega), by simp [show i < ls.length by omega]⟩
    refine hs i x H Hx ys l hl sm hD y Qt Qf (fun y H4 b hb s4 r => ?_) (fun hb H3 s3 => ?_)
    · refine qt y H4 s4 ?_
      rw [take_snoc hl, List.filterMap_append]
      show A2 _ _ (_ ++ List.filterMap f [l])
      rw [show List.filterMap f [l] = [b] by simp [hb]]
      exact A2.snoc (mono _ _ _ _ SameX.put r) (hR.mono fun _ _ z => mono _ _ _ _ ((sx s4).trans SameX.put) z)
    · refine qf H3 s3 ?_
      rw [take_snoc hl, List.filterMap_append]
      show A2 _ _ (_ ++ List.filterMap f [l])
      rw [show List.filterMap f [l] = [] by simp [hb], List.append_nil]
      exact hR.mono fun _ _ z => mono _ _ _ _ (sx s3) z
  · rw [List.take_of_length_le (by omega)] at hR
    exact hd H ys sm hD hR
/-- new things, one a turn, each with something known of it -/
theorem lc_new {β : Type} (w : Walk J n G Y) (rel : Hp → Addr → β → Prop) (mono : ∀ H H' v b, SameX D H H' → rel H v b → rel H' v b) (ok : Nat → β → Prop) (nD : H1 D = none) (hG : ∀ H', Same H1 H' → G H') (hl : n < sizeLine)
    (hs : ∀ i x H Hx, i < n → Same H1 H → H D ≠ none → Y i H x Hx → ∀ Qt : VK, (∀ y b H4, Same H H4 → rel H4 y b → ok i b → Qt (.ref y) H4) → g x (wipe σ vs) Hx fun σ2 H2 => wipe σ2 vs = wipe σ vs ∧ tt σ2 H2 fun b H3 => b = true ∧ te σ2 H3 Qt)
    (hd : ∀ H as bs, Same H1 H → H D = some (.lst (as.map V.ref)) → A2 (rel H) as bs → bs.length = n → (∀ i b, bs[i]? = some b → ok i b) → Qd H)
    (gm : ∀ {x σ' H' Q1 Q2}, (∀ a b, Q1 a b → Q2 a b) → g x σ' H' Q1 → g x σ' H' Q2) (tm : ∀ {σ' H' Q1 Q2}, (∀ a b, Q1 a b → Q2 a b) → tt σ' H' Q1 → tt σ' H' Q2) : LcW J g tt te vs σ H1 D Qd := by
  refine lc_inv w (fun i H ys => ∃ (as : List Addr) (bs : List β), ys = as.map V.ref ∧ A2 (rel H) as bs ∧ bs.length = i ∧ ∀ j b, bs[j]? = some b → ok j b) nD hG hl ⟨[], [], rfl, .nil, rfl, fun j b z => by simp at z⟩ (fun i x H Hx ys hi sm hD hR y Qt Qf qt qf => ?_) (fun H ys sm hD hR => ?_)
  · obtain ⟨as, bs, rfl, ha, hb, hk⟩ := hR
    refine gm (fun σ2 H2 z => ⟨z.1, tm (fun c H3 z2 => ?_) z.2⟩) (hs i x H Hx hi sm (by rw [hD]; exact fun z => nomatch z) y Qt fun y b H4 s4 r o => ?_)
    · rw [if_pos z2.1]
      exact z2.2
    · refine qt _ _ s4 ⟨as ++ [y], bs ++ [b], by rw [List.map_append]; rfl, A2.snoc (mono _ _ _ _ SameX.put r) (ha.mono fun _ _ z => mono _ _ _ _ ((sx s4).trans SameX.put) z), by rw [List.length_append, hb]; rfl, fun j c z => ?_⟩
      rcases Nat.lt_or_ge j bs.length with lt | ge
      · rw [List.getElem?_append_left lt] at z
        exact hk j c z
      · rw [List.getElem?_append_right ge] at z
        have e : j - bs.length = 0 := by
          rcases Nat.eq_zero_or_pos (j - bs.length) with e | e
          · exact e
          · rw [List.getElem?_eq_none (by show 1 ≤ _; omega)] at z
            cases z
        rw [e] at z
        cases z
        have : j = i := by omega
        rw [this]
        exact o
  · obtain ⟨as, bs, rfl, ha, hb, hk⟩ := hR
    exact hd H as bs sm hD ha hb hk
end
def rLenS (K : PySem.W.Frag) : List V → Hp → VK → Prop := fun xs H Q => ∃ p ys, xs = [.ref p] ∧ (SqL K H p ys ∨ SqT K H p ys) ∧ Q (.int (ys.length : Nat)) H
theorem call_lenC {X : Cx} : CallR X (.builtin "len") (rLenS X.K) := call_len_seq
def rListC (K : PySem.W.Frag) : List V → Hp → VK → Prop := fun xs H Q => ∃ p ys, xs = [.ref p] ∧ (SqL K H p ys ∨ SqT K H p ys) ∧ ∀ l, H l = none → Q (.ref l) (upd H l (.lst ys))
theorem call_listC {X : Cx} : CallR X (.type "list") (rListC X.K) := call_list_of
/-! ### grids -/
abbrev Rw := Bool × List (List Int)
def kS (b : Bool) : Str := if b then "exact" else "sized"
def RowL (H : Hp) (b : Addr) (els : List (List Int)) : Prop := ∃ as : List Addr, H b = some (.lst (as.map V.ref)) ∧ A2 (IL H) as els
def RwV (K : PySem.W.Frag) (H : Hp) (v : V) (r : Rw) : Prop := ∃ t b, v = .ref t ∧ SqT K H t [.str (kS r.1), .ref b] ∧ RowL H b r.2
def GR (K : PySem.W.Frag) (H : Hp) (g : Addr) (rs : List Rw) : Prop := ∃ xs, H g = some (.lst xs) ∧ A2 (RwV K H) xs rs
/-- all stands but the tables of code -/
def Lk (H H' : Hp) : Prop := ∀ b o, H b = some o → (∀ q, o ≠ .tbl q) → H' b = some o
theorem Lk.refl {H : Hp} : Lk H H := fun _ _ h _ => h
theorem Lk.trans {H H1 H2 : Hp} (a : Lk H H1) (b : Lk H1 H2) : Lk H H2 := fun c o h n => b c o (a c o h n) n
theorem lk {H H' : Hp} (s : Same H H') : Lk H H' := fun b o h _ => s b o h
theorem lk_tab {H H' : Hp} {P : Addr} (h : GxR.TabG H P) (s : GxR.Tabbed P H H') : Lk H H' := fun b o e n => by
  by_cases z : b = P
  · obtain ⟨ps, hP, _⟩ := h
    rw [z, hP] at e
    cases e
    exact absurd rfl (n ps)
  · rw [s.2 b z]
    exact e
theorem tabG_same {H H' : Hp} {P : Addr} (h : GxR.TabG H P) (s : Same H H') : GxR.TabG H' P := let ⟨ps, e, t⟩ := h; ⟨ps, s _ _ e, t⟩
section
variable {K : PySem.W.Frag} {H H' : Hp}
theorem Lk.seqT (s : Lk H H') {a : Addr} {xs : List V} (h : SqT K H a xs) : SqT K H' a xs := by
  rcases h with (h | ⟨o, h⟩) | h
  · exact .inl (.inl (s _ _ h fun _ z => nomatch z))
  · exact .inl (.inr ⟨o, s _ _ h fun _ z => nomatch z⟩)
  · exact .inr h
theorem Lk.seqL (s : Lk H H') {a : Addr} {xs : List V} (h : SqL K H a xs) : SqL K H' a xs := by
  rcases h with (h | ⟨o, h⟩) | h
  · exact .inl (.inl (s _ _ h fun _ z => nomatch z))
  · exact .inl (.inr ⟨o, s _ _ h fun _ z => nomatch z⟩)
  · exact .inr h
theorem Lk.lst (s : Lk H H') {a : Addr} {xs : List V} (h : H a = some (.lst xs)) : H' a = some (.lst xs) := s _ _ h fun _ z => nomatch z
theorem IL.lk (s : Lk H H') {a : Addr} {ns : List Int} (h : IL H a ns) : IL H' a ns := s.lst h
theorem RowL.lk (s : Lk H H') {b : Addr} {els : List (List Int)} (h : RowL H b els) : RowL H' b els := let ⟨as, e, r⟩ := h; ⟨as, s.lst e, r.mono fun _ _ z => z.lk s⟩
theorem RwV.lk (s : Lk H H') {v : V} {r : Rw} (h : RwV K H v r) : RwV K H' v r := let ⟨t, b, e, z, y⟩ := h; ⟨t, b, e, s.seqT z, y.lk s⟩
theorem GR.lk (s : Lk H H') {g : Addr} {rs : List Rw} (h : GR K H g rs) : GR K H' g rs := let ⟨xs, e, r⟩ := h; ⟨xs, s.lst e, r.mono fun _ _ z => z.lk s⟩
end
/-- an element of a grid that is drawn -/
def VE (ns : List Int) : Prop := ns.length ≤ 13 ∧ ∀ n ∈ ns, n.natAbs ≤ 10 ^ 30
def VR (many : Nat) (els : List (List Int)) : Prop := els.length = many ∧ ∀ e ∈ els, VE e
def VG (many : Nat) (rs : List Rw) : Prop := rs.length = many ∧ ∀ r ∈ rs, VR many r.2
/-- the power of an element -/
def pw (ex : Bool) (e : List Int) : Option Int := if e = [] then none else some (if ex = true then (e.length : Int) - 1 else cf e (e.length - 1))
def vI : Option Int → V
  | none => .non
  | some k => .int k
-- D01
section
variable {P : Program} {w : World} {K : PySem.W.Frag} {mg : Str → Option Value} {base : Heap}
def sp_law_draws (K : PySem.W.Frag) : Sp := fun vs H Q _ => ∃ (a : Addr) (ns : List Int), vs = [.ref a] ∧ SqL K H a (ns.map V.int) ∧ ns.length ≤ 63 ∧ ∀ H' p ds, Same H H' → H p = none → IL H' p ds → ds.length ≤ 4000 → Q (.ref p) H'
theorem ok_law_draws (T : Txt K mg) : FnOk P w K mg base CX0 1 T.law_draws.a T.law_draws.fd ["script"] (sp_law_draws K) := by
  refine T.law_draws.F.ok sc_law_draws (fun vs H Q E h => ?_) (fun cdv A outer s H vs Q E hr h => ?_)
  · obtain ⟨a, ns, rfl, _⟩ := h
    rfl
  · obtain ⟨a, ns, rfl, ha, hl, q⟩ := h
    refine ⟨_, (pss_cons (ps_set (i := 1) sc_law_draws.nd rfl (.inl rfl) (pe_lst pa_nil))
      (pss_cons (ps_for PassesOwn.never rfl (pi_range1 (by rfl) T.m_range (pa_cons (pe_callB (call_min2 rfl) (by rfl) T.m_min (by decide +kernel) (pa_cons pe_int (pa_cons (pe_callB call_len_seq (by rfl) T.m_len (by decide +kernel) (pa_cons (pv 0) pa_nil)) pa_nil))) pa_nil)) (pg_name (i := 2) sc_law_draws.nd rfl (.inl rfl))
        (pss_cons (ps_set (i := 3) sc_law_draws.nd rfl (.inl rfl) (pe_callB call_abs (by rfl) T.m_abs (by decide +kernel) (pa_cons (pe_ix ix_list (pv 0) (pv 2) (fun _ _ => rfl)) pa_nil)))
        (pss_one (ps_if (pt_cmpR op_ge (pv 3) (pe_op op_pow pe_int pe_int) (nomark _))
          (pss_one (ps_for PassesOwn.never rfl (pi_range1 (by rfl) T.m_range (pa_cons pe_int pa_nil)) (pg_name (i := 4) sc_law_draws.nd rfl (.inl rfl))
            (pss_one (ps_if (pt_cmpR op_gt (pv 3) pe_int (nomark _))
              (pss_cons (ps_expr (pe_bm PySem.F.plainAttrs_list PySem.F.slot_list_append PySem.F.type_list_append mt_append (pv 1) (pa_cons (pe_op op_mod (pe_callTy call_int1 (by rfl) T.m_int (by decide +kernel) (pa_cons (pv 3) pa_nil)) pe_int) pa_nil)))
              (pss_one (ps_set (i := 3) sc_law_draws.nd rfl (.inl rfl) (pe_op op_fdiv (pv 3) pe_int))))
              pss_nil))))
          (pss_cons (ps_set (i := 5) sc_law_draws.nd rfl (.inl rfl) (pe_op op_mod (pe_callTy call_int1 (by rfl) T.m_int (by decide +kernel) (pa_cons (pe_op op_add (pe_op op_mul (pv 3) pe_int) (pe_op op_mul (pe_op op_add (pv 2) pe_int) pe_int)) pa_nil)) pe_int))
          (pss_cons (ps_set (i := 5) sc_law_draws.nd rfl (.inl rfl) (pe_op op_mod (pe_callTy call_int1 (by rfl) T.m_int (by decide +kernel) (pa_cons (pe_op op_add (pe_op op_add (pe_op op_mul (pv 5) pe_int) (pe_op op_mul pe_int (pv 2))) pe_int) pa_nil)) pe_int))
          (pss_cons (ps_expr (pe_bm PySem.F.plainAttrs_list PySem.F.slot_list_append PySem.F.type_list_append mt_append (pv 1) (pa_cons (pe_op op_mod (pe_callTy call_int1 (by rfl) T.m_int (by decide +kernel) (pa_cons (pv 5) pa_nil)) pe_int) pa_nil)))
          (pss_one (ps_expr (pe_bm PySem.F.plainAttrs_list PySem.F.slot_list_append PySem.F.type_list_append mt_append (pv 1) (pa_cons (pe_op op_mod (pe_callTy call_int1 (by rfl) T.m_int (by decide +kernel) (pa_cons (pe_op op_fdiv (pv 5) pe_int) pa_nil)) pe_int) pa_nil)))))))))))
      (pss_one (ps_ret (pv 1))))), ?_⟩
    refine ⟨Nat.zero_le _, fun p hp => ?_⟩
    have s0 := same_upd (o := .lst []) hp
    obtain ⟨L, hL, eL⟩ : ∃ L : Nat, L ≤ ns.length ∧ L ≤ 63 ∧ (if ((ns.map V.int).length : Int) < 63 then ((ns.map V.int).length : Int) else 63) = (L : Int) := by
      refine ⟨min ns.length 63, Nat.min_le_left _ _, Nat.min_le_right _ _, ?_⟩
      rw [List.length_map]
      split <;> omega
    refine ⟨.ref a, rfl, a, _, rfl, .inl (s0.seq ha), 63, _, rfl, (L : Int), congrArg (fun z => [V.int z]) eL.2, by omega, by omega, ?_⟩
    refine for_range (n := (L : Int).toNat) (lo := 0) (fun i σ H' => Same H H' ∧ ∃ ds v2 v3 v4 v5, σ = [some (.ref a), some (.ref p), v2, v3, v4, v5] ∧ IL H' p ds ∧ ds.length ≤ 60 * i) ⟨s0, [], none, none, none, none, rfl, upd_same, Nat.zero_le _⟩ (fun i σ H' hi hP => ?_) (fun σ H' hP => ?_)
    · obtain ⟨sm, ds, v2, v3, v4, v5, rfl, hd, hn⟩ := hP
      have hi' : i < ns.length := by omega
      refine ⟨.ref a, rfl, _, rfl, a, _, _, _, rfl, rfl, sm.seq ha, at_map' (m := i) (by omega) hi', _, rfl, ?_⟩
      obtain ⟨r, hr1, er⟩ : ∃ r : Int, 0 ≤ r ∧ (if cf ns i < 0 then -cf ns i else cf ns i) = r := ⟨_, by split <;> omega, rfl⟩
      rw [er]
      refine ⟨_, rfl, _, _, rfl, rfl, ⟨by decide, by decide, by decide⟩, _, _, rfl, rfl, _, rfl, ?_⟩
      refine ite2 (fun _ => ?_) (fun hlt => ?_)
      · refine ⟨60, rfl, by decide, by decide, ?_⟩
        refine for_range (n := 60) (lo := 0) (fun j σ H' => Same H H' ∧ ∃ ds v2 v4 v5 r, σ = [some (.ref a), some (.ref p), v2, some (.int r), v4, v5] ∧ 0 ≤ r ∧ IL H' p ds ∧ ds.length ≤ 60 * i + j) ⟨sm, ds, _, _, _, r, rfl, hr1, hd, hn⟩ (fun j σ H' hj hP => ?_) (fun σ H' hP => ?_)
        · obtain ⟨sm, ds, v2, v4, v5, r, rfl, hr1, hd, hn⟩ := hP
          refine ⟨_, rfl, _, _, rfl, rfl, _, rfl, ?_⟩
          refine ite2 (fun _ => ?_) (fun _ => ⟨sm, ds, _, _, _, r, rfl, hr1, hd, by omega⟩)
          refine ⟨.ref p, rfl, .inl ⟨rfl, _, hd.sq⟩, _, rfl, .inl ⟨_, rfl, _, _, rfl, rfl, (by show (0 : Int) < _; decide), p, _, _, rfl, rfl, hd, by rw [List.length_map]; exact small' (by omega), ?_⟩⟩
          rw [app_ints]
          refine ⟨_, rfl, _, _, rfl, rfl, ⟨by decide, by decide⟩, ?_⟩
          exact ⟨same_over sm hp, _, _, _, _, _, rfl, by omega, il_upd, by rw [List.length_append]; show _ + 1 ≤ _; omega⟩
        · obtain ⟨sm, ds, v2, v4, v5, r, rfl, hr1, hd, hn⟩ := hP
          exact ⟨sm, ds, _, _, _, _, rfl, hd, by omega⟩
      · have hr2 : r < 10 ^ 18 := by
          have e : ((10 : Int) ^ (18 : Int).toNat) = 10 ^ 18 := rfl
          rw [e] at hlt
          have := of_decide_eq_false (Bool.eq_false_iff.mpr hlt)
          omega
        refine ⟨_, rfl, _, _, rfl, rfl, .inl ⟨by omega, by omega⟩, _, rfl, _, _, rfl, rfl, _, _, rfl, rfl, .inr ⟨by decide, by decide⟩, _, _, rfl, rfl, .inl ⟨_, rfl, _, _, rfl, rfl, (by show (0 : Int) < _; decide), ?_⟩⟩
        refine ⟨_, rfl, _, _, rfl, rfl, .inr ⟨by decide, by decide⟩, _, rfl, _, _, rfl, rfl, .inl ⟨by decide, by decide⟩, _, _, rfl, rfl, _, _, rfl, rfl, .inl ⟨_, rfl, _, _, rfl, rfl, (by show (0 : Int) < _; decide), ?_⟩⟩
        refine ⟨.ref p, rfl, .inl ⟨rfl, _, hd.sq⟩, _, rfl, .inl ⟨_, rfl, _, _, rfl, rfl, (by show (0 : Int) < _; decide), p, _, _, rfl, rfl, hd, by rw [List.length_map]; exact small' (by omega), ?_⟩⟩
        rw [app_ints]
        refine ⟨.ref p, rfl, .inl ⟨rfl, _, il_upd.sq⟩, _, rfl, _, _, rfl, rfl, ⟨by decide, by decide⟩, .inl ⟨_, rfl, _, _, rfl, rfl, (by show (0 : Int) < _; decide), p, _, _, rfl, rfl, il_upd, by rw [List.length_map, List.length_append]; exact small' (by show _ + 1 < _; omega), ?_⟩⟩
        rw [app_ints]
        exact ⟨same_over (same_over sm hp) hp, _, _, _, _, _, rfl, il_upd, by rw [List.length_append, List.length_append]; show _ + 1 + 1 ≤ _; omega⟩
    · obtain ⟨sm, ds, v2, v3, v4, v5, rfl, hd, hn⟩ := hP
      exact ⟨_, rfl, q H' p ds sm hp hd (by omega)⟩

end
-- P01
theorem cut_to {ns : List Int} {m : Nat} (h : m ≤ ns.length) : cutV (ns.map V.int) none (some (m : Int)) = (ns.take m).map V.int := by
  unfold cutV
  rw [HT.sIx_none, HT.sIx_nat, List.drop_zero, List.length_map, Nat.min_eq_left h, Nat.sub_zero, List.map_take]
theorem cut_from {ns : List Int} : cutV (ns.map V.int) (some ((1 : Nat) : Int)) none = (ns.drop 1).map V.int := by
  unfold cutV
  rw [HT.sIx_none, HT.sIx_nat, List.length_map, List.map_drop, List.take_of_length_le]
  · cases ns with
    | nil => rfl
    | cons x r => rw [Nat.min_eq_left (by show 1 ≤ r.length + 1; omega)]
  · rw [List.length_drop, List.length_map]; exact Nat.le_refl _
theorem rep0 (n : Nat) : (List.replicate n [V.int 0]).flatten = (List.replicate n (0 : Int)).map V.int := by rw [List.flatten_replicate_singleton, List.map_replicate]
theorem ix_ok {n j : Nat} {i : Int} (e : i = (j : Int)) (h : j < n) : ixN n i = some j := by
  unfold ixN
  rw [if_pos (by omega), if_pos (by omega), e]; rfl
theorem mem_set {α : Type} {xs : List α} {i : Nat} {y x : α} (h : x ∈ xs.set i y) : x ∈ xs ∨ x = y := List.mem_or_eq_of_mem_set h
theorem set_map {xs : List Int} {i : Nat} {r : Int} : (xs.map V.int).set i (V.int r) = (xs.set i r).map V.int := by rw [List.map_set]
theorem ps_via {X : Cx} {st : Stmt} {t t' : TS} (h : PS X st t) (f : ∀ D σ H, t' D σ H → t D σ H) : PS X st t' := ⟨fun pins s σ H D I z => h.run pins s σ H D I (f D σ H z)⟩

section
variable {P : Program} {w : World} {K : PySem.W.Frag} {mg : Str → Option Value} {base : Heap}
/-! ### the errors -/
theorem len_app (a b : Str) : (a ++ b).length = a.length + b.length := by
  show (a.cps ++ b.cps).size = a.cps.size + b.cps.size
  exact Array.size_append
theorem small2 {x : Nat} (h : x ≤ 2000) : x ≤ sizeLine := Nat.le_trans h (by decide)
def sp_wording : Sp := fun vs H Q _ => ∃ (nm : Str) (i : Int), vs = [.str nm, .int i] ∧ nm.length ≤ 1000 ∧ i.natAbs < 10 ^ 12 ∧ ∀ t : Str, Q (.str t) H
theorem ok_wording (T : Txt K mg) : FnOk P w K mg base CX0 1 T.wording.a T.wording.fd ["name", "at"] sp_wording := by
  refine T.wording.F.ok sc_wording (fun vs H Q E h => ?_) (fun cdv A outer s H vs Q E hr h => ?_)
  · obtain ⟨nm, i, rfl, _⟩ := h
    rfl
  · obtain ⟨nm, i, rfl, hn, h1, q⟩ := h
    refine ⟨_, (pss_cons (ps_if (pt_cmpR op_gt (pe_bits (pv 1)) pe_int (nomark _))
        (pss_one (ps_ret (pe_joined (.cons (pe_fmt (pv 0)) (.cons pe_str (.cons (pe_fmt (pe_bits (pv 1))) (.cons pe_str .nil)))))))
        pss_nil)
      (pss_one (ps_ret (pe_joined (.cons (pe_fmt (pv 0)) (.cons pe_str (.cons (pe_fmt (pv 1)) .nil))))))), ?_⟩
    have e : i.natAbs < 2 ^ 40 := Nat.lt_of_lt_of_le h1 (by decide)
    have hb := LX.bits_le e
    refine ⟨_, rfl, i, rfl, _, _, rfl, rfl, _, rfl, ?_⟩
    rw [decide_eq_false (by omega)]
    have lt : (Str.ofString (toString i)).length ≤ 13 := LX.text_len (by decide) h1
    refine iteF ⟨_, rfl, .inl ⟨nm, rfl, small2 (by omega), nm, rfl, ?_, _, rfl, ?_, _, rfl, .inr ⟨i, rfl, ?_, _, rfl, ?_, q _⟩⟩⟩
    · rw [len_app]; exact small2 (by show 0 + _ ≤ _; omega)
    · rw [len_app, len_app]; exact small2 (by show 0 + _ + 4 ≤ _; omega)
    · exact Nat.lt_of_lt_of_le (PySem.Flt.log2_lt_of (by decide) e) (by decide)
    · rw [len_app, len_app, len_app]; exact small2 (by show 0 + _ + 4 + _ ≤ _; omega)
theorem ok_init (T : Txt K mg) (X : Errs K mg) : FnOk P w K mg base CX0 2 X.e0.f X.e0.fd ["self", "at"] (LX.sp_init K) := by
  refine X.e0.F.ok sc_init (fun vs H Q E h => ?_) (fun cdv A outer s H vs Q E hr h => ?_)
  · obtain ⟨e, C, nm, i, rfl, _⟩ := h
    rfl
  · obtain ⟨e, C, nm, i, rfl, he, hn, ho, na, h1, q⟩ := h
    refine ⟨_, pss_cons (ps_expr (pe_veinit (by rfl) X.e0.mV X.e0.vV (pa_cons (pv 0) (pa_cons (pe_call (ok_wording T) (hr.mono (by decide)) (by rfl) T.wording.g T.wording.F.kp T.wording.b .nil pass0 (pa_cons (LX.pe_cn (pv 0)) (pa_cons (pv 1) pa_nil))) pa_nil))))
      (pss_one (ps_ost (pv 0) (pv 1))), ?_⟩
    refine ⟨.ref e, rfl, .ref e, rfl, e, C, nm, rfl, he, hn, _, rfl, nm, i, rfl, hn.sz, h1, fun t => ⟨e, C, _, rfl, by show 1 ≤ 1000; decide, ho, he, ?_⟩⟩
    exact ⟨_, rfl, .ref e, rfl, e, C, rfl, ho, na, .inl ⟨he, fun d hd ne => q d hd ne⟩⟩
def Out (H : Hp) (Q : VK) (r : List Int) : Prop := ∀ H' p, Same H H' → H p = none → IL H' p r → Q (.ref p) H'
theorem il_ne {H : Hp} {p q : Addr} {o : HO} {ns : List Int} (h : IL H q ns) (n : H p = none) : IL (upd H p o) q ns := by
  show upd H p o q = _
  rw [upd_ne (ne_of_none h n)]
  exact h
theorem il_upd_ne {H : Hp} {p q : Addr} {o : HO} {ns : List Int} (h : IL H q ns) (n : q ≠ p) : IL (upd H p o) q ns := by
  show upd H p o q = _
  rw [upd_ne n]
  exact h
theorem map_at {ns : List Int} {m : Nat} (h : m < ns.length) : (ns.map V.int)[m]? = some (V.int (cf ns m)) := by
  rw [List.getElem?_map, at_cf h]; rfl
theorem map_get {ns : List Int} {m : Nat} {x : V} (h : (ns.map V.int)[m]? = some x) : m < ns.length ∧ x = V.int (cf ns m) := by
  have hl := (List.getElem?_eq_some_iff.mp h).1
  rw [List.length_map] at hl
  exact ⟨hl, Option.some.inj (h.symm.trans (map_at hl))⟩
theorem len_set {xs : List Int} {j : Nat} {y : Int} : (xs.map V.int).set j (V.int y) = (xs.set j y).map V.int := by rw [List.map_set]
theorem cf_set {xs : List Int} {j : Nat} {y : Int} {m : Nat} (h : j < xs.length) : cf (xs.set j y) m = if m = j then y else cf xs m := by
  unfold cf
  rw [List.getD_eq_getElem?_getD, List.getD_eq_getElem?_getD]
  by_cases e : m = j
  · rw [if_pos e, e, List.getElem?_set_self h]; rfl
  · rw [if_neg e, List.getElem?_set_ne (Ne.symm e)]
theorem at_mapI {ns : List Int} {m : Nat} (h : m < ns.length) : atI (ns.map V.int) (m : Int) = some (V.int (cf ns m)) := atI_nat (map_at h)
def sp_trimmed : Sp := fun vs H Q _ => ∃ (a : Addr) (ns : List Int), vs = [.ref a] ∧ IL H a ns ∧ ns.length ≤ 1000 ∧ Out H Q (trim ns)
theorem ok_trimmed (T : Txt K mg) : FnOk P w K mg base CX0 1 T.trimmed.a T.trimmed.fd ["numbers"] sp_trimmed := by
  refine T.trimmed.F.ok sc_trimmed (fun vs H Q E h => ?_) (fun cdv A outer s H vs Q E hr h => ?_)
  · obtain ⟨a, ns, rfl, _⟩ := h
    rfl
  · obtain ⟨a, ns, rfl, ha, hl, q⟩ := h
    refine ⟨_, (pss_cons (ps_set (i := 1) sc_trimmed.nd rfl (.inl rfl) (pe_callB call_len_seq (by rfl) T.m_len (by decide +kernel) (pa_cons (pv 0) pa_nil)))
      (pss_cons (ps_while PassesOwn.never (PW.pt (pw_and (pt_cmpR op_gt (pv 1) pe_int (nomark _)) (pw_and1 (pt_cmpR op_eq (pe_ix ix_list (pv 0) (pe_op op_sub (pv 1) pe_int) (fun _ _ => rfl)) pe_int (nomark _)))))
        (pss_one (ps_aug (i := 1) sc_trimmed.nd rfl (.inl rfl) pe_int ip_sub)))
      (pss_one (ps_ret (pe_slice sl_list (pv 0) po_none (po_some (pv 1))))))), ?_⟩
    refine ⟨.ref a, rfl, a, _, rfl, .inl ha.sq, ?_⟩
    refine while_by (fun σ H' => H' = H ∧ ∃ L : Nat, σ = [some (.ref a), some (.int L)] ∧ L ≤ ns.length ∧ ∀ m, L ≤ m → cf ns m = 0) (fun σ _ => match σ with | [_, some (.int L)] => L.toNat | _ => 0) ?_ ?_ ?_
    · exact ⟨rfl, ns.length, by rw [List.length_map]; rfl, Nat.le_refl _, fun m h => cf_ge h⟩
    · rintro σ H' ⟨rfl, L, rfl, hL, hz⟩
      refine ⟨_, rfl, _, _, rfl, rfl, _, rfl, ?_⟩
      by_cases h0 : (0 : Int) < (L : Int)
      · rw [decide_eq_true h0]
        refine iteT ⟨.ref a, rfl, _, rfl, _, _, rfl, rfl, a, _, _, _, rfl, rfl, ha.sq, at_map' (m := L - 1) (by omega) (by omega), rfl, _, rfl, ?_⟩
        by_cases h1 : cf ns (L - 1) = 0
        · rw [h1]
          refine iteT ⟨_, rfl, _, _, rfl, rfl, ⟨rfl, L - 1, ?_, by omega, fun m hm => ?_⟩, ?_⟩
          · show [some (V.ref a), some (V.int ((L : Int) - 1))] = _
            rw [show ((L : Int) - 1) = ((L - 1 : Nat) : Int) by omega]
          · rcases Nat.lt_or_ge m L with q | q
            · rw [show m = L - 1 by omega]; exact h1
            · exact hz m q
          · show ((L : Int) - 1).toNat < (L : Int).toNat
            omega
        · rw [show decide (V.int (cf ns (L - 1)) = V.int 0) = false from decide_eq_false (fun z => h1 (V.int.inj z))]
          refine iteF ⟨.ref a, rfl, _, rfl, _, rfl, a, _, rfl, ha.sq, fun p hp => ?_⟩
          rw [cut_to hL, take_trim hL hz (.inr h1)]
          exact q _ _ (same_upd hp) hp il_upd
      · rw [decide_eq_false h0]
        refine iteF (iteF ⟨.ref a, rfl, _, rfl, _, rfl, a, _, rfl, ha.sq, fun p hp => ?_⟩)
        rw [cut_to hL, take_trim hL hz (.inl (by omega))]
        exact q _ _ (same_upd hp) hp il_upd
    · rintro σ H' Q1 Q2 hQ ⟨v, e1, i, j, e2, e3, k, e4, h⟩
      refine ⟨v, e1, i, j, e2, e3, k, e4, ?_⟩
      cases k with
      | true =>
        obtain ⟨b, e5, i', e6, x, y, e7, e8, p, xs, ii, vv, e9, e10, e11, e12, e13, k', e14, h⟩ := h
        exact ⟨b, e5, i', e6, x, y, e7, e8, p, xs, ii, vv, e9, e10, e11, e12, e13, k', e14, hQ _ _ h⟩
      | false => exact hQ _ _ h

/-- a for k, n over enumerate(a list of ints) -/
theorem for_enumL {K : PySem.W.Frag} {a : Addr} {ns : List Int} {k n : Nat} {tb : TS} {D : Ends} {σ : L2.St} {H : Hp} (Pv : Nat → L2.St → Hp → Prop) (h0 : Pv 0 σ H) (hl : ∀ i σ H, i ≤ ns.length → Pv i σ H → SqL K H a (ns.map V.int))
    (hs : ∀ i σ H T, i < ns.length → Pv i σ H → H T = none → tb { D with nx := Pv (i + 1), ct := Pv (i + 1), bk := D.nx } ((σ.set k (some (.int (i : Nat)))).set n (some (.int (cf ns i)))) (upd H T (.tup [.int (i : Nat), .int (cf ns i)]))) (hd : ∀ σ H, Pv ns.length σ H → D.nx σ H) :
    ∃ W : Nat → Nat → L2.St → Hp → Prop, (∃ m, W 0 m σ H) ∧ ∀ i m σ H, W i m σ H →
      ((Ite K a).stop i H ∧ D.nx σ H) ∨ ((Ite K a).go i H ∧ ∃ N : L2.St → Hp → Prop, (∀ σ' H', N σ' H' → ∃ m', m' < m ∧ W (i + 1) m' σ' H') ∧ ∀ x H', (Ite K a).yld i H x H' → (gTup K 2 (gCons (gName k) (gCons (gName n) gNil))) x σ H' fun σ2 H2 => tb { D with nx := N, ct := N, bk := D.nx } σ2 H2) := by
  refine ⟨fun i m σ H => m = ns.length - i ∧ i ≤ ns.length ∧ Pv i σ H, ⟨ns.length, by simp, Nat.zero_le _, h0⟩, ?_⟩
  rintro i m σ H ⟨rfl, hi, p⟩
  have q := hl i σ H hi p
  by_cases hlt : i < ns.length
  · refine .inr ⟨⟨_, _, q, map_at hlt⟩, Pv (i + 1), fun σ' H' p' => ⟨ns.length - (i + 1), by omega, rfl, hlt, p'⟩, fun x H' y => ?_⟩
    obtain ⟨T, x1, rfl, nT, rfl, f⟩ := y
    have e2 := (map_get (f _ q)).2
    subst e2
    exact ⟨T, _, rfl, .inl (.inl upd_same), rfl, _, _, rfl, _, _, rfl, rfl, hs i σ H T hlt p nT⟩
  · have e : i = ns.length := by omega
    subst e
    exact .inl ⟨⟨_, q, by rw [List.length_map]; exact Nat.le_refl _⟩, hd σ H p⟩
theorem rep_one (n : Nat) (x : Int) : (List.replicate n [V.int x]).flatten = (List.replicate n x).map V.int := by
  induction n with
  | zero => rfl
  | succ n ih => rw [List.replicate_succ, List.replicate_succ, List.flatten_cons, ih, List.map_cons]; rfl
theorem cf_rep (n m : Nat) : cf (List.replicate n 0) m = 0 := by
  unfold cf
  rw [List.getD_eq_getElem?_getD, List.getElem?_replicate]
  split <;> rfl
/-- H p = none from a later heap -/
theorem fr {H H' : Hp} (s : Same H H') {p : Addr} (h : H' p = none) : H p = none := s.free h

def sp2 (f : List Int → List Int → List Int) : Sp := fun vs H Q _ => ∃ (a b : Addr) (ns ms : List Int), vs = [.ref a, .ref b] ∧ IL H a ns ∧ IL H b ms ∧ ns.length ≤ 400 ∧ ms.length ≤ 400 ∧ Out H Q (f ns ms)
theorem ok_plus (T : Txt K mg) : FnOk P w K mg base CX0 2 T.plus.a T.plus.fd ["one", "two"] (sp2 padd) := by
  refine T.plus.F.ok sc_plus (fun vs H Q E h => ?_) (fun cdv A outer s H vs Q E hr h => ?_)
  · obtain ⟨a, b, ns, ms, rfl, _⟩ := h
    rfl
  · obtain ⟨a, b, ns, ms, rfl, ha, hb, hla, hlb, q⟩ := h
    refine ⟨_, (pss_cons (ps_set (i := 2) sc_plus.nd rfl (.inl rfl) (pe_callB (call_max2 rfl) (by rfl) T.m_max (by decide +kernel) (pa_cons (pe_callB call_len_seq (by rfl) T.m_len (by decide +kernel) (pa_cons (pv 0) pa_nil)) (pa_cons (pe_callB call_len_seq (by rfl) T.m_len (by decide +kernel) (pa_cons (pv 1) pa_nil)) pa_nil))))
      (pss_cons (ps_set (i := 3) sc_plus.nd rfl (.inl rfl) (pe_op op_rep (pe_lst (pa_cons pe_int pa_nil)) (pv 2)))
      (pss_cons (ps_for PassesOwn.never rfl (pi_enum (by rfl) T.m_enumerate (pa_cons (pv 0) pa_nil)) (pg_tup rfl (pgs_cons (pg_name (i := 4) sc_plus.nd rfl (.inl rfl)) (pgs_cons (pg_name (i := 5) sc_plus.nd rfl (.inl rfl)) pgs_nil)))
        (pss_one (ps_asg (pv 5) (pg_sub (pv 3) (pv 4) set_list))))
      (pss_cons (ps_for PassesOwn.never rfl (pi_enum (by rfl) T.m_enumerate (pa_cons (pv 1) pa_nil)) (pg_tup rfl (pgs_cons (pg_name (i := 4) sc_plus.nd rfl (.inl rfl)) (pgs_cons (pg_name (i := 5) sc_plus.nd rfl (.inl rfl)) pgs_nil)))
        (pss_one (ps_asg (pe_op op_add (pe_ix ix_list (pv 3) (pv 4) (fun _ _ => rfl)) (pv 5)) (pg_sub (pv 3) (pv 4) set_list))))
      (pss_one (ps_ret (pe_call (ok_trimmed T) (hr.mono (by decide)) (by rfl) T.trimmed.g T.trimmed.F.kp T.trimmed.b .nil pass0 (pa_cons (pv 3) pa_nil)))))))), ?_⟩
    refine ⟨.ref a, rfl, a, _, rfl, .inl ha.sq, .ref b, rfl, b, _, rfl, .inl hb.sq, _, _, rfl, ?_⟩
    obtain ⟨L, hL, eL⟩ : ∃ L : Nat, L = max ns.length ms.length ∧ (if ((ms.map V.int).length : Int) > ((ns.map V.int).length : Int) then ((ms.map V.int).length : Int) else ((ns.map V.int).length : Int)) = (L : Int) := by
      refine ⟨_, rfl, ?_⟩
      rw [List.length_map, List.length_map]
      split <;> omega
    rw [eL]
    refine ⟨Nat.le_of_lt (small' (by show 1 < 60000; decide)), fun o ho => ⟨_, rfl, o, _, _, rfl, rfl, upd_same, by omega, by omega, ?_, fun p hp => ?_⟩⟩
    · show 1 * (L : Int).toNat ≤ sizeLine
      exact small (by omega)
    have s1 : Same H (upd (upd H o (.lst [V.int 0])) p (.lst (List.replicate (L : Int).toNat [V.int 0]).flatten)) := (same_upd ho).trans (same_upd hp)
    have hpn : H p = none := (same_upd ho).free hp
    refine ⟨.ref a, rfl, a, _, rfl, (ha.same s1).sq, ?_⟩
    refine for_enumL (ns := ns) (fun i σ H' => Same H H' ∧ ∃ t v4 v5, σ = [some (.ref a), some (.ref b), some (.int L), some (.ref p), v4, v5] ∧ IL H' p t ∧ t.length = L ∧ ∀ m, cf t m = if m < i then cf ns m else 0) ⟨s1, List.replicate L 0, none, none, rfl, ?_, by simp, fun m => by rw [cf_rep]; simp⟩ (fun i σ H' _ p => (ha.same p.1).sq) ?_ ?_
    · show upd _ _ _ _ = _
      rw [upd_same, rep_one]; rfl
    · rintro i σ H' T1 hi ⟨sm, t, v4, v5, rfl, hp', ht, hc⟩ hT
      have hnp : p ≠ T1 := ne_of_none hp' hT
      refine ⟨_, rfl, _, rfl, _, rfl, p, _, _, i, rfl, rfl, il_upd_ne hp' hnp, ix_ok rfl (by rw [List.length_map, ht]; omega), ?_⟩
      rw [len_set]
      refine ⟨same_over (same_over sm ((sm.free hT))) hpn, _, _, _, rfl, il_upd, by rw [List.length_set, ht], fun m => ?_⟩
      rw [cf_set (by omega), hc]
      by_cases e : m = i
      · rw [if_pos e, if_pos (by omega), e]
      · rw [if_neg e]
        by_cases q : m < i
        · rw [if_pos q, if_pos (by omega)]
        · rw [if_neg q, if_neg (by omega)]
    rintro σ H' ⟨sm, t, v4, v5, rfl, hp', ht, hc⟩
    refine ⟨.ref b, rfl, b, _, rfl, (hb.same sm).sq, ?_⟩
    refine for_enumL (ns := ms) (fun i σ H' => Same H H' ∧ ∃ t v4 v5, σ = [some (.ref a), some (.ref b), some (.int L), some (.ref p), v4, v5] ∧ IL H' p t ∧ t.length = L ∧ ∀ m, cf t m = cf ns m + if m < i then cf ms m else 0) ⟨sm, t, v4, v5, rfl, hp', ht, fun m => ?_⟩ (fun i σ H' _ p => (hb.same p.1).sq) ?_ ?_
    · rw [hc]
      split
      · simp
      · rename_i q
        rw [cf_ge (show ns.length ≤ m by omega)]; simp
    · rintro i σ H' T1 hi ⟨sm, t, v4, v5, rfl, hp', ht, hc⟩ hT
      have hnp : p ≠ T1 := ne_of_none hp' hT
      refine ⟨.ref p, rfl, _, rfl, p, _, _, _, rfl, rfl, (il_upd_ne hp' hnp).sq, at_mapI (by omega), _, rfl, _, _, rfl, rfl, _, rfl, _, rfl, p, _, _, i, rfl, rfl, il_upd_ne hp' hnp, ix_ok rfl (by rw [List.length_map, ht]; omega), ?_⟩
      rw [len_set]
      refine ⟨same_over (same_over sm ((sm.free hT))) hpn, _, _, _, rfl, il_upd, by rw [List.length_set, ht], fun m => ?_⟩
      rw [cf_set (by omega), hc, hc]
      by_cases e : m = i
      · subst e
        rw [if_pos rfl, if_neg (Nat.lt_irrefl _), if_pos (Nat.lt_succ_self _)]; omega
      · rw [if_neg e]
        by_cases q : m < i
        · rw [if_pos q, if_pos (by omega)]
        · rw [if_neg q, if_neg (by omega)]
    rintro σ H' ⟨sm, t, v4, v5, rfl, hp', ht, hc⟩
    refine ⟨.ref p, rfl, p, t, rfl, hp', by omega, fun H2 r s2 hr2 hi2 => q H2 r (sm.trans s2) (sm.free hr2) ?_⟩
    rw [padd_of (t := t) fun m => ?_] at hi2
    · exact hi2
    · rw [hc]
      split
      · rfl
      · rename_i z
        rw [cf_ge (show ms.length ≤ m by omega)]

/-- bounds of the numbers -/
def Bd (ns : List Int) : Prop := ∀ m, (cf ns m).natAbs < 2 ^ 200
theorem wide200 {x y : Int} (hx : x.natAbs < 2 ^ 200) (hy : y.natAbs < 2 ^ 200) : CMulW x y := wide_mul hx hy (by decide) (by decide) (by decide)
def sp2B (f : List Int → List Int → List Int) : Sp := fun vs H Q _ => ∃ (a b : Addr) (ns ms : List Int), vs = [.ref a, .ref b] ∧ IL H a ns ∧ IL H b ms ∧ ns.length ≤ 400 ∧ ms.length ≤ 400 ∧ Bd ns ∧ Bd ms ∧ Out H Q (f ns ms)
theorem ok_times (T : Txt K mg) : FnOk P w K mg base CX0 2 T.times.a T.times.fd ["one", "two"] (sp2B pmul) := by
  refine T.times.F.ok sc_times (fun vs H Q E h => ?_) (fun cdv A outer s H vs Q E hr h => ?_)
  · obtain ⟨a, b, ns, ms, rfl, _⟩ := h
    rfl
  · obtain ⟨a, b, ns, ms, rfl, ha, hb, hla, hlb, ba, bb, q⟩ := h
    refine ⟨_, (pss_cons (ps_set (i := 2) sc_times.nd rfl (.inl rfl) (pe_op op_rep (pe_lst (pa_cons pe_int pa_nil)) (pe_op op_add (pe_callB call_len_seq (by rfl) T.m_len (by decide +kernel) (pa_cons (pv 0) pa_nil)) (pe_callB call_len_seq (by rfl) T.m_len (by decide +kernel) (pa_cons (pv 1) pa_nil)))))
      (pss_cons (ps_for PassesOwn.never rfl (pi_enum (by rfl) T.m_enumerate (pa_cons (pv 0) pa_nil)) (pg_tup rfl (pgs_cons (pg_name (i := 3) sc_times.nd rfl (.inl rfl)) (pgs_cons (pg_name (i := 4) sc_times.nd rfl (.inl rfl)) pgs_nil)))
        (pss_one (ps_if (pt_cmpR op_ne (pv 4) pe_int (nomark _))
          (pss_one (ps_for PassesOwn.never rfl (pi_enum (by rfl) T.m_enumerate (pa_cons (pv 1) pa_nil)) (pg_tup rfl (pgs_cons (pg_name (i := 5) sc_times.nd rfl (.inl rfl)) (pgs_cons (pg_name (i := 6) sc_times.nd rfl (.inl rfl)) pgs_nil)))
            (pss_one (ps_asg (pe_op op_add (pe_ix ix_list (pv 2) (pe_op op_add (pv 3) (pv 5)) (fun _ _ => rfl)) (pe_op op_mulW (pv 4) (pv 6))) (pg_sub (pv 2) (pe_op op_add (pv 3) (pv 5)) set_list)))))
          pss_nil)))
      (pss_one (ps_ret (pe_call (ok_trimmed T) (hr.mono (by decide)) (by rfl) T.trimmed.g T.trimmed.F.kp T.trimmed.b .nil pass0 (pa_cons (pv 2) pa_nil)))))), ?_⟩
    refine ⟨Nat.le_of_lt (small' (by show 1 < 60000; decide)), fun o ho => ?_⟩
    refine ⟨.ref a, rfl, a, _, rfl, .inl (il_ne ha ho).sq, .ref b, rfl, b, _, rfl, .inl (il_ne hb ho).sq, _, _, rfl, rfl, ?_⟩
    obtain ⟨L, hL, eL⟩ : ∃ L : Nat, L = ns.length + ms.length ∧ ((ns.map V.int).length : Int) + ((ms.map V.int).length : Int) = (L : Int) := ⟨_, rfl, by rw [List.length_map, List.length_map]; omega⟩
    refine ⟨o, (L : Int), _, rfl, congrArg V.int eL, upd_same, by omega, by omega, ?_, fun p hp => ?_⟩
    · show 1 * (L : Int).toNat ≤ sizeLine
      exact small (by omega)
    have s1 : Same H (upd (upd H o (.lst [V.int 0])) p (.lst (List.replicate (L : Int).toNat [V.int 0]).flatten)) := (same_upd ho).trans (same_upd hp)
    have hpn : H p = none := (same_upd ho).free hp
    refine ⟨.ref a, rfl, a, _, rfl, (ha.same s1).sq, ?_⟩
    refine for_enumL (ns := ns) (fun i σ H' => Same H H' ∧ ∃ t v3 v4 v5 v6, σ = [some (.ref a), some (.ref b), some (.ref p), v3, v4, v5, v6] ∧ IL H' p t ∧ t.length = L ∧ ∀ m, cf t m = conv ns ms i m) ⟨s1, List.replicate L 0, none, none, none, none, rfl, ?_, by simp, fun m => by rw [cf_rep]; rfl⟩ (fun i σ H' _ p => (ha.same p.1).sq) ?_ ?_
    · show upd _ _ _ _ = _
      rw [upd_same, rep_one]; rfl
    · rintro i σ H' T1 hi ⟨sm, t, v3, v4, v5, v6, rfl, hp', ht, hc⟩ hT
      have hnp : p ≠ T1 := ne_of_none hp' hT
      have smT := same_over (o := .tup [V.int (i : Nat), V.int (cf ns i)]) sm (sm.free hT)
      refine ⟨_, rfl, rfl, _, rfl, ?_⟩
      by_cases h0 : cf ns i = 0
      · rw [h0]
        refine iteF ⟨by rw [← h0]; exact smT, t, _, _, _, _, rfl, il_upd_ne hp' hnp, ht, fun m => ?_⟩
        rw [hc]
        show _ = conv ns ms i m + cf ns i * _
        rw [h0]; simp
      · rw [show (!decide (V.int (cf ns i) = V.int 0)) = true by rw [decide_eq_false (fun z => h0 (V.int.inj z))]; rfl]
        refine iteT ⟨.ref b, rfl, b, _, rfl, (hb.same smT).sq, ?_⟩
        refine for_enumL (ns := ms) (fun j σ H' => Same H H' ∧ ∃ t v5 v6, σ = [some (.ref a), some (.ref b), some (.ref p), some (.int (i : Nat)), some (.int (cf ns i)), v5, v6] ∧ IL H' p t ∧ t.length = L ∧ ∀ m, cf t m = conv ns ms i m + cf ns i * (if i ≤ m ∧ m - i < j then cf ms (m - i) else 0)) ⟨smT, t, v5, v6, rfl, il_upd_ne hp' hnp, ht, fun m => ?_⟩ (fun i σ H' _ p => (hb.same p.1).sq) ?_ ?_
        · rw [hc, if_neg (by omega)]; simp
        · rintro j σ H' T2 hj ⟨sm, t, v5, v6, rfl, hp', ht, hc⟩ hT
          have hnp : p ≠ T2 := ne_of_none hp' hT
          refine ⟨.ref p, rfl, _, rfl, _, rfl, _, _, rfl, rfl, p, _, _, _, rfl, rfl, (il_upd_ne hp' hnp).sq, at_map' (m := i + j) (by omega) (by omega), _, rfl, _, rfl, _, _, rfl, rfl, wide200 (ba i) (bb j), _, _, rfl, rfl, .ref p, rfl, _, rfl, _, rfl, _, _, rfl, rfl, p, _, _, i + j, rfl, rfl, il_upd_ne hp' hnp, ix_ok (by omega) (by rw [List.length_map, ht]; omega), ?_⟩
          rw [len_set]
          refine ⟨same_over (same_over sm ((sm.free hT))) hpn, _, _, _, rfl, il_upd, by rw [List.length_set, ht], fun m => ?_⟩
          rw [cf_set (by omega), hc, hc]
          by_cases e : m = i + j
          · subst e
            rw [if_pos rfl, if_neg (by omega), if_pos (by omega), Nat.add_sub_cancel_left, Int.mul_zero, Int.add_zero]
          · rw [if_neg e]
            by_cases q : i ≤ m ∧ m - i < j
            · rw [if_pos q, if_pos (by omega)]
            · rw [if_neg q, if_neg (by omega)]
        · rintro σ H' ⟨sm, t, v5, v6, rfl, hp', ht, hc⟩
          refine ⟨sm, t, _, _, _, _, rfl, hp', ht, fun m => ?_⟩
          rw [hc]
          show _ = conv ns ms i m + cf ns i * (if i ≤ m then cf ms (m - i) else 0)
          by_cases q : i ≤ m
          · rw [if_pos q]
            by_cases z : m - i < ms.length
            · rw [if_pos ⟨q, z⟩]
            · rw [if_neg (fun y => z y.2), cf_ge (show ms.length ≤ m - i by omega)]
          · rw [if_neg q, if_neg (fun y => q y.1)]
    rintro σ H' ⟨sm, t, v3, v4, v5, v6, rfl, hp', ht, hc⟩
    refine ⟨.ref p, rfl, p, t, rfl, hp', by omega, fun H2 r s2 hr2 hi2 => q H2 r (sm.trans s2) (sm.free hr2) ?_⟩
    rw [pmul_of (t := t) hc] at hi2
    exact hi2
end
-- R01
theorem row_ref {as : List Addr} {j : Nat} {x : V} (h : (as.map V.ref)[j]? = some x) : ∃ r, as[j]? = some r ∧ x = .ref r := by
  rw [List.getElem?_map] at h
  cases e : as[j]? with
  | none => rw [e] at h; cases h
  | some r => rw [e] at h; exact ⟨r, rfl, (Option.some.inj h).symm⟩

/-! ### tables, and grids with other rows -/
abbrev Tb := List (List (List Int))
def TbR (H : Hp) (p : Addr) (tab : Tb) : Prop := ∃ as : List Addr, H p = some (.lst (as.map V.ref)) ∧ A2 (RowL H) as tab
theorem TbR.lk {H H' : Hp} {p : Addr} {tab : Tb} (s : Lk H H') (h : TbR H p tab) : TbR H' p tab := let ⟨as, e, r⟩ := h; ⟨as, s.lst e, r.mono fun _ _ z => z.lk s⟩
def wdt : Tb → Nat
  | [] => 0
  | r :: _ => r.length
def pick (tab : Tb) (j : Nat) : List (List Int) := tab.map fun t => t.getD j []
def pstep (tot : List Int) (p : List Int × List Int) : List Int := padd tot (pmul p.1 p.2)
def cellv (row : List (List Int)) (tab : Tb) (j : Nat) : List Int := (row.zip (pick tab j)).foldl pstep []
theorem fold_take {α β : Type} (f : β → α → β) (b : β) {xs : List α} {i : Nat} {x : α} (h : xs[i]? = some x) : (xs.take (i + 1)).foldl f b = f ((xs.take i).foldl f b) x := by
  rw [take_snoc h, List.foldl_append]; rfl
/-- a polynomial that may be multiplied -/
def Pb (e : List Int) : Prop := e.length ≤ 100 ∧ Bd e
theorem pmul_len (a b : List Int) : (pmul a b).length ≤ a.length + b.length := by
  unfold pmul
  refine Nat.le_trans (trim_len _) ?_
  rw [List.length_map, List.length_range]
  exact Nat.le_refl _
theorem pstep_len {tot : List Int} {p : List Int × List Int} (h : tot.length ≤ 200) (a : Pb p.1) (b : Pb p.2) : (pstep tot p).length ≤ 200 := by
  unfold pstep
  have h1 := padd_len tot (pmul p.1 p.2)
  have h2 := pmul_len p.1 p.2
  have := a.1
  have := b.1
  omega
def idxE (rs : List Rw) : List Nat := (List.range rs.length).filter fun i => (rs.getD i (false, [])).1
def exs (rs : List Rw) : Tb := rs.filterMap fun r => if r.1 = true then some r.2 else none
def seE (cur : List Rw) (p : Nat × List (List Int)) : List Rw := cur.set p.1 (true, p.2)
def chgS (rs : List Rw) (lines : Tb) : List Rw := ((idxE rs).zip lines).foldl seE rs
section
variable {P : Program} {w : World} {K : PySem.W.Frag} {mg : Str → Option Value} {base : Heap}
theorem str_ex (b : Bool) : decide (V.str (kS b) = V.str "exact") = b := by
  cases b <;> decide +kernel
def sp_width (K : PySem.W.Frag) : Sp := fun vs H Q _ => ∃ (a : Addr) (as : List Addr) (ls : List Nat), vs = [.ref a] ∧ SqL K H a (as.map V.ref) ∧ A2 (fun r n => ∃ xs, SqL K H r xs ∧ xs.length = n) as ls ∧ Q (.int ((ls.headD 0 : Nat) : Int)) H
theorem ok_width (T : Txt K mg) : FnOk P w K mg base CX0 1 T.width.a T.width.fd ["table"] (sp_width K) := by
  refine T.width.F.ok sc_width (fun vs H Q E h => ?_) (fun cdv A outer s H vs Q E hr h => ?_)
  · obtain ⟨a, as, ls, rfl, _⟩ := h
    rfl
  · obtain ⟨a, as, ls, rfl, ha, hA, q⟩ := h
    refine ⟨_, (pss_one (ps_ret (pe_ifExp (pt_truth (pv 0) (by intro _; rfl)) (pe_callB call_len_seq (by rfl) T.m_len (by decide +kernel) (pa_cons (pe_ix ix_list (pv 0) pe_int (fun _ _ => rfl)) pa_nil)) pe_int))), ?_⟩
    refine ⟨.ref a, rfl, _, .inl ⟨_, ha, rfl⟩, ?_⟩
    cases hA with
    | nil => exact iteF q
    | @cons r n as ls h t =>
      obtain ⟨xs, hx, rfl⟩ := h
      exact iteT ⟨.ref a, rfl, a, _, _, .ref r, rfl, rfl, ha, by exact atI_nat (j := 0) rfl, r, _, rfl, .inl hx, q⟩
theorem RowL.seq {H : Hp} {a : Addr} {row : List (List Int)} (h : RowL H a row) : ∃ xs : List V, SqL K H a xs ∧ xs.length = row.length := let ⟨as, e, r⟩ := h; ⟨_, .of e, by rw [List.length_map, r.len]⟩
def sp_cell : Sp := fun vs H Q _ => ∃ (a b : Addr) (row : List (List Int)) (tab : Tb) (j : Nat), vs = [.ref a, .ref b, .int (j : Nat)] ∧ RowL H a row ∧ TbR H b tab ∧ row.length = tab.length ∧ (∀ t ∈ tab, j < t.length) ∧ (∀ e ∈ row, Pb e) ∧ (∀ t ∈ tab, ∀ e ∈ t, Pb e) ∧ row.length ≤ 16 ∧ Out H Q (cellv row tab j)
theorem ok_cell (T : Txt K mg) : FnOk P w K mg base CX0 3 T.cell.a T.cell.fd ["row", "two", "j"] sp_cell := by
  refine T.cell.F.ok sc_cell (fun vs H Q E h => ?_) (fun cdv A outer s H vs Q E hr h => ?_)
  · obtain ⟨a, b, row, tab, j, rfl, _⟩ := h
    rfl
  · obtain ⟨a, b, row, tab, j, rfl, ha, hb, hl, hj, p1, p2, h16, q⟩ := h
    obtain ⟨as, hra, hA⟩ := ha
    obtain ⟨bs, hrb, hB⟩ := hb
    have la := hA.len
    refine ⟨_, (pss_cons (ps_set (i := 3) sc_cell.nd rfl (.inl rfl) (pe_lst pa_nil))
      (pss_cons (ps_for PassesOwn.never rfl (pi_enum (by rfl) T.m_enumerate (pa_cons (pv 0) pa_nil)) (pg_tup rfl (pgs_cons (pg_name (i := 4) sc_cell.nd rfl (.inl rfl)) (pgs_cons (pg_name (i := 5) sc_cell.nd rfl (.inl rfl)) pgs_nil)))
        (pss_one (ps_set (i := 3) sc_cell.nd rfl (.inl rfl) (pe_call (ok_plus T) (hr.mono (by decide)) (by rfl) T.plus.g T.plus.F.kp T.plus.b .nil pass0 (pa_cons (pv 3) (pa_cons (pe_call (ok_times T) (hr.mono (by decide)) (by rfl) T.times.g T.times.F.kp T.times.b .nil pass0 (pa_cons (pv 5) (pa_cons (pe_ix ix_list (pe_ix ix_list (pv 1) (pv 4) (fun _ _ => rfl)) (pv 2) (fun _ _ => rfl)) pa_nil))) pa_nil))))))
      (pss_one (ps_ret (pv 3))))), ?_⟩
    refine ⟨by show 0 ≤ sizeLine; decide, fun t0 nt0 => ?_⟩
    have s0 := same_upd nt0 (o := .lst [])
    refine ⟨.ref a, rfl, a, _, rfl, .of (s0 _ _ hra), ?_⟩
    refine for_it (walk_enum (xs := as.map V.ref)) (fun i σ G => Same H G ∧ ∃ (c : Addr) (v4 v5 : Option V), σ = [some (.ref a), some (.ref b), some (.int (j : Nat)), some (.ref c), v4, v5] ∧ H c = none ∧ IL G c (((row.zip (pick tab j)).take i).foldl pstep []) ∧ (((row.zip (pick tab j)).take i).foldl pstep []).length ≤ 200) ⟨s0, t0, none, none, rfl, nt0, upd_same, Nat.zero_le _⟩ (fun i σ G _ hP => .of (hP.1 _ _ hra)) (fun i x σ G Gx hi hP y => ?_) (fun σ G hP => ?_)
    · obtain ⟨sm, c, v4, v5, rfl, nc, hc, hlen⟩ := hP
      obtain ⟨T', i', x', rfl, nT, rfl, ei, hx'⟩ := y
      obtain rfl := Option.some.inj ei
      have s1 := same_upd nT (o := .tup [V.int (i : Nat), x'])
      obtain ⟨r, hr2, rfl⟩ := row_ref hx'
      obtain ⟨e, he, hI⟩ := hA.get hr2
      obtain ⟨t, ht⟩ := some_at (xs := tab) (i := i) (by have := (List.getElem?_eq_some_iff.mp he).1; omega)
      obtain ⟨bt, hbt, hRow⟩ := hB.get' ht
      obtain ⟨cs, hcs, hC⟩ := hRow
      have jt := hj t (mem_at ht)
      obtain ⟨f, hf⟩ := some_at jt
      obtain ⟨fa, hfa, hF⟩ := hC.get' hf
      have s2 := sm.trans s1
      have zp : (row.zip (pick tab j))[i]? = some (e, f) := by
        rw [List.getElem?_zip_eq_some]
        refine ⟨he, ?_⟩
        unfold pick
        rw [List.getElem?_map, ht]
        show some (t.getD j []) = some f
        rw [List.getD_eq_getElem?_getD, hf]; rfl
      refine ⟨T', _, rfl, .of upd_same, rfl, _, _, rfl, _, _, rfl, rfl, ?_⟩
      refine ⟨.ref c, rfl, _, rfl, .ref b, rfl, _, rfl, b, _, _, _, rfl, rfl, .of (s2 _ _ hrb), atI_nat (by rw [List.getElem?_map, hbt]; rfl), _, rfl, bt, _, _, _, rfl, rfl, .of (s2 _ _ hcs), atI_nat (by rw [List.getElem?_map, hfa]; rfl), ?_⟩
      have pe := p1 e (mem_at he)
      have pf := p2 t (mem_at ht) f (mem_at hf)
      refine ⟨r, fa, e, f, rfl, hI.same s2, hF.same s2, by have := pe.1; omega, by have := pf.1; omega, pe.2, pf.2, fun G2 m s3 nm hm => ?_⟩
      refine ⟨c, m, _, _, rfl, (hc.same s1).same s3, hm, by omega, by have := pmul_len e f; have := pe.1; have := pf.1; omega, fun G3 n s4 nn hn => ?_⟩
      refine ⟨s2.trans (s3.trans s4), n, _, _, rfl, (s2.trans s3).free nn, ?_, ?_⟩
      · rw [fold_take _ _ zp]; exact hn
      · rw [fold_take _ _ zp]; exact pstep_len hlen pe pf
    · obtain ⟨sm, c, v4, v5, rfl, nc, hc, hlen⟩ := hP
      refine ⟨_, rfl, q G c sm nc ?_⟩
      rw [List.take_of_length_le (by rw [List.length_zip, List.length_map]; omega)] at hc
      exact hc

end
-- S01
def RN (D : Addr) (H0 H : Hp) (as : List Addr) (es : List (List Int)) : Prop := A2 (fun a ns => (a ≠ D ∧ H0 a = none) ∧ IL H a ns) as es
/-- a row, its elements new -/
def RowF (H0 H : Hp) (b : Addr) (els : List (List Int)) : Prop := ∃ as : List Addr, H b = some (.lst (as.map V.ref)) ∧ A2 (fun e ns => H0 e = none ∧ IL H e ns) as els
theorem RN.up {D : Addr} {H0 H H' : Hp} {as : List Addr} {es : List (List Int)} (h : RN D H0 H as es) (s : SameX D H H') : RN D H0 H' as es := h.mono fun _ _ z => ⟨z.1, s _ _ z.1.1 z.2⟩
theorem RN.row {D : Addr} {H0 H : Hp} {as : List Addr} {es : List (List Int)} (h : RN D H0 H as es) (hD : H D = some (.lst (as.map V.ref))) : RowF H0 H D es := ⟨as, hD, h.mono fun _ _ z => ⟨z.1.2, z.2⟩⟩
theorem RN.snoc {D y : Addr} {H0 H H4 : Hp} {as : List Addr} {es : List (List Int)} {e : List Int} {o : HO} (h : RN D H0 H as es) (s : Same H H4) (n : y ≠ D) (n0 : H0 y = none) (hy : IL H4 y e) : RN D H0 (upd H4 D o) (as ++ [y]) (es ++ [e]) :=
  A2.snoc ⟨⟨n, n0⟩, by unfold IL; rw [upd_ne n]; exact hy⟩ (h.up ((sx s).trans SameX.put))
theorem ve_snoc {es : List (List Int)} {e : List Int} (h : ∀ x ∈ es, VE x) (n : VE e) : ∀ x ∈ es ++ [e], VE x := fun x hx => by
  rcases List.mem_append.mp hx with z | z
  · exact h x z
  · rw [List.mem_singleton.mp z]; exact n
section
variable {P : Program} {w : World} {K : PySem.W.Frag} {mg : Str → Option Value} {base : Heap}
theorem RowL.same {H H' : Hp} {b : Addr} {els : List (List Int)} (h : RowL H b els) (s : Same H H') : RowL H' b els := h.lk (K01.lk s)
theorem same_x {D : Addr} {H G0 G : Hp} (s : Same H G0) (x : SameX D G0 G) (n : H D = none) : Same H G := fun c o h => x c o (fun z => by rw [z, n] at h; cases h) (s c o h)
def TRow (D : Addr) (H : Hp) (v : V) (row : List (List Int)) : Prop := ∃ (a : Addr) (as : List Addr), v = .ref a ∧ a ≠ D ∧ H a = some (.lst (as.map V.ref)) ∧ A2 (fun e ns => e ≠ D ∧ IL H e ns) as row
theorem TRow.up {D : Addr} {H H' : Hp} {v : V} {row : List (List Int)} (s : SameX D H H') (h : TRow D H v row) : TRow D H' v row := let ⟨a, as, e, n, ha, r⟩ := h; ⟨a, as, e, n, s _ _ n ha, r.mono fun _ _ z => ⟨z.1, s _ _ z.1 z.2⟩⟩
theorem TbR.of {D : Addr} {H : Hp} {ys : List V} {tab : Tb} (hD : H D = some (.lst ys)) (h : A2 (TRow D H) ys tab) : TbR H D tab := by
  obtain ⟨as, rfl, r⟩ := a2_ref (h.mono fun v row (z : TRow D H v row) => (let ⟨a, as, e, _, ha, r⟩ := z; ⟨a, e, as, ha, r.mono fun _ _ y => y.2⟩ : ∃ a, v = V.ref a ∧ RowL H a row))
  exact ⟨as, hD, r⟩
section
variable {P : Program} {w : World} {K : PySem.W.Frag} {mg : Str → Option Value} {base : Heap}
def prodT (one two : Tb) : Tb := one.map fun row => (List.range (wdt two)).map (cellv row two)
def sp_product : Sp := fun vs H Q _ => ∃ (a b : Addr) (one two : Tb) (m : Nat), vs = [.ref a, .ref b] ∧ TbR H a one ∧ TbR H b two ∧ one.length ≤ 16 ∧ two.length ≤ 16 ∧ (∀ r ∈ one, r.length = two.length ∧ ∀ e ∈ r, Pb e) ∧ (∀ t ∈ two, t.length = m ∧ ∀ e ∈ t, Pb e) ∧ m ≤ 16 ∧ ∀ H' p, Same H H' → TbR H' p (prodT one two) → Q (.ref p) H'
theorem headD_wdt (tab : Tb) : (tab.map List.length).headD 0 = wdt tab := by cases tab <;> rfl
theorem TbR.wd {K : PySem.W.Frag} {H : Hp} {as : List Addr} : ∀ {as : List Addr} {tab : Tb}, A2 (RowL H) as tab → A2 (fun r n => ∃ xs, SqL K H r xs ∧ xs.length = n) as (tab.map List.length)
  | _, _, .nil => .nil
  | _, _, .cons h t => .cons h.seq (TbR.wd (as := as) t)
theorem wdt_le {tab : Tb} {m : Nat} (h : ∀ t ∈ tab, t.length = m) : wdt tab ≤ m ∧ (tab ≠ [] → wdt tab = m) := by
  cases tab with
  | nil => exact ⟨Nat.zero_le _, fun z => absurd rfl z⟩
  | cons t r => exact ⟨Nat.le_of_eq (h t List.mem_cons_self), fun _ => h t List.mem_cons_self⟩
def T5 (K : PySem.W.Frag) (a b : Addr) : TS := fun D σ H => σ = [some (.ref a), some (.ref b), none, none] ∧ (∃ (as : List Addr) (ls : List Nat) (ys : List V), SqL K H a (as.map V.ref) ∧ A2 (fun r n => ∃ xs, SqL K H r xs ∧ xs.length = n) as ls ∧ SqL K H b ys ∧ (as ≠ [] → ls.headD 0 = ys.length)) ∧ D.nx σ H
theorem ok_product (T : Txt K mg) (X : Errs K mg) : FnOk P w K mg base (L2.CX P w) 4 T.product.a T.product.fd ["one", "two"] sp_product := by
  refine T.product.F.okX sc_product (fun vs H Q E h => ?_) (fun cdv A outer s H vs Q E hr h => ?_)
  · obtain ⟨a, b, one, two, m, rfl, _⟩ := h
    rfl
  · obtain ⟨a, b, one, two, m, rfl, ha, hb, l1, l2, p1, p2, hm, q⟩ := h
    have hb0 := hb
    obtain ⟨as, hal, hA⟩ := ha
    obtain ⟨bs, hbl, hB⟩ := hb
    have la := hA.len
    have lb := hB.len
    have wl := wdt_le fun t ht => (p2 t ht).1
    refine ⟨_, (pss_cons (ps_via (t' := T5 K a b) (ps_if (PW.pt (pw_and (pt_truth (pv 0) (by intro _; rfl)) (pw_and1 (pt_cmpR op_ne (pe_call (ok_width T) (hr.mono (by decide)) (by rfl) T.width.g T.width.F.kp T.width.b .nil pass0 (pa_cons (pv 0) pa_nil)) (pe_callB call_len_seq (by rfl) T.m_len (by decide +kernel) (pa_cons (pv 1) pa_nil)) (nomark _)))))
        (pss_one (ps_raise rfl (takes_of rfl rfl rfl rfl) (pmk_oex X.WrongSize.oex X.WrongSize.iC X.e0.tI (ok_init T X) (hr.mono (by decide)) X.e0.b .nil pass0 (by rfl) X.WrongSize.g (pa_cons pe_int pa_nil))))
        pss_nil) ?t5)
      (pss_one (ps_ret (pe_lc (own := [("row", 2)]) rfl sc_product.nd (pi_list (pv 0)) (blkOk_by (N := ["one", "two", "row", "j"]) (sc := defScope s_product) (by decide +kernel)) (fun _ _ _ _ _ => (pg_name (i := 2) sc_product.nd rfl (.inr rfl))) (fun _ _ _ _ _ => pts_nil) (fun _ _ _ _ _ => (pe_lc (own := [("j", 3)]) rfl sc_product.nd (pi_range1 (by rfl) T.m_range (pa_cons (pe_call (ok_width T) (hr.mono (by decide)) (by rfl) T.width.g T.width.F.kp T.width.b .nil pass0 (pa_cons (pv 1) pa_nil)) pa_nil)) (blkOk_by (N := ["one", "two", "row", "j"]) (sc := { kind := .function, names := [(".0", .local), ("row", .cell), ("range", .globalImplicit), ("_width", .globalImplicit), ("two", .cell)], isGenerator := false, isCoroutine := false, more := [] }) (by decide +kernel)) (fun _ _ _ _ _ => (pg_name (i := 3) sc_product.nd rfl (.inl rfl))) (fun _ _ _ _ _ => pts_nil) (fun _ _ _ _ _ => (pe_call (ok_cell T) (hr.mono (by decide)) (by rfl) T.cell.g T.cell.F.kp T.cell.b .nil pass0 (pa_cons (pv 2) (pa_cons (pv 1) (pa_cons (pv 3) pa_nil))))))))))), ?_⟩
    case t5 =>
      rintro D σ H ⟨rfl, ⟨as, ls, ys, h1, h2, h3, h4⟩, nx⟩
      refine ⟨.ref a, rfl, _, .inl ⟨_, h1, rfl⟩, ?_⟩
      refine ite2 (fun h => ?_) (fun _ => iteF nx)
      have ne : as ≠ [] := fun z => by rw [z] at h; cases h
      refine ⟨.ref a, rfl, a, as, ls, rfl, h1, h2, .ref b, rfl, b, _, rfl, .inl h3, rfl, _, rfl, ?_⟩
      rw [h4 ne, decide_eq_true rfl]
      exact iteF nx
    refine ⟨rfl, ⟨as, one.map List.length, bs.map V.ref, .of hal, TbR.wd (as := as) hA, .of hbl, fun ne => ?_⟩, ?_⟩
    · rw [headD_wdt, List.length_map, lb]
      cases one with
      | nil => exact absurd (List.length_eq_zero_iff.mp la) ne
      | cons r rr => exact (p1 r List.mem_cons_self).1
    refine ⟨.ref a, rfl, a, rfl, ⟨_, .of hal⟩, fun D nD => ?_⟩
    refine lc_fm (walk_list (xs := as.map V.ref)) one (fun row => some ((List.range (wdt two)).map (cellv row two))) (TRow D) (fun _ _ _ _ s h => h.up s) (by rw [List.length_map, la]) nD (fun H' s => s.seq (.of hal)) (small' (by rw [List.length_map]; omega)) (fun i x H' Hx ys row hrow sm hD y Qt Qf qt qf => ?_) (fun G ys sm hD hR => ?_)
    · obtain ⟨rfl, hxi⟩ := y
      obtain ⟨c, hc, rfl⟩ := row_ref hxi
      obtain ⟨row', hrow', hRow⟩ := hA.get hc
      obtain rfl := Option.some.inj (hrow.symm.trans hrow')
      refine ⟨rfl, .ref b, rfl, b, bs, two.map List.length, rfl, .of (sm _ _ hbl), TbR.wd (as := bs) (hB.mono fun _ _ y => y.same sm), ?_⟩
      rw [headD_wdt]
      refine ⟨(wdt two : Nat), rfl, by omega, by omega, fun D2 nD2 => ?_⟩
      rw [Int.toNat_natCast]
      refine lc_inv (walk_range (lo := 0) (n := wdt two)) (fun i G2 ys => ∃ cs : List Addr, ys = cs.map V.ref ∧ RN D2 Hx G2 cs ((List.range i).map (cellv row two))) nD2 (fun _ _ => trivial) (small' (by omega)) ⟨[], rfl, .nil⟩ (fun j x2 G2 Hx2 ys2 hj sm2 hD2 hR2 y2 Qt2 Qf2 qt2 qf2 => ?_) (fun G2 ys2 sm2 hD2 hR2 => ?_)
      · obtain ⟨rfl, rfl⟩ := y2
        obtain ⟨cs, rfl, hrn⟩ := hR2
        have pr := p1 row (mem_at hrow)
        refine ⟨rfl, _, rfl, .ref b, rfl, _, rfl, c, b, row, two, j, ?_, (hRow.same sm).same sm2, hb0.lk (K01.lk (sm.trans sm2)), pr.1, fun t ht => by have := (p2 t ht).1; omega, pr.2, fun t ht => (p2 t ht).2, by have := pr.1; omega, fun G3 n s3 nn hn => ?_⟩
        · show [V.ref c, V.ref b, V.int (0 + (j : Int))] = _
          rw [Int.zero_add]
        have nD3 : n ≠ D2 := fun z => by rw [z, hD2] at nn; cases nn
        refine qt2 _ _ s3 ⟨cs ++ [n], by rw [List.map_append]; rfl, ?_⟩
        rw [List.range_succ, List.map_append]
        exact hrn.snoc s3 nD3 (sm2.free nn) hn
      · obtain ⟨cs, rfl, hrn⟩ := hR2
        have off : ∀ {c : Addr}, Hx c = none → c ≠ D := fun {c} z y => by rw [y, hD] at z; cases z
        exact qt _ _ _ rfl sm2 ⟨D2, cs, rfl, off nD2, hD2, hrn.mono fun _ _ z => ⟨off z.1.2, z.2⟩⟩
    · rw [fm_some] at hR
      exact q G D sm (TbR.of hD hR)
end


end
-- T01
/-- .. and nothing is forgotten -/
def LkN (H H' : Hp) : Prop := Lk H H' ∧ ∀ b, H' b = none → H b = none
theorem LkN.trans {H H1 H2 : Hp} (a : LkN H H1) (b : LkN H1 H2) : LkN H H2 := ⟨a.1.trans b.1, fun c z => a.2 c (b.2 c z)⟩
theorem lkN {H H' : Hp} (s : Same H H') : LkN H H' := ⟨K01.lk s, fun _ z => s.free z⟩
theorem lkN_tab {H H' : Hp} {P : Addr} (h : GxR.TabG H P) (s : GxR.Tabbed P H H') : LkN H H' := ⟨lk_tab h s, fun b z => by
  by_cases e : b = P
  · obtain ⟨ps, hP, _⟩ := s.1
    rw [e, hP] at z
    cases z
  · rw [← s.2 b e]; exact z⟩
def Fits (ls : List Nat) (n : Nat) : Prop := ls.length = n ∧ ∀ l ∈ ls, l = n
theorem all_fit (ls : List Nat) (n : Nat) : LE.allTo ls.length (fun j => decide (((ls.getD j 0 : Nat) : Int) = (n : Int))) = true ↔ ∀ l ∈ ls, l = n := by
  unfold LE.allTo
  rw [List.all_eq_true]
  constructor
  · intro h l hl
    obtain ⟨j, hj, e⟩ := List.getElem_of_mem hl
    have := of_decide_eq_true (h j (List.mem_range.mpr hj))
    rw [List.getD_eq_getElem?_getD, List.getElem?_eq_getElem hj] at this
    have : ((ls[j] : Nat) : Int) = (n : Int) := this
    omega
  · intro h j hj
    have hj := List.mem_range.mp hj
    refine decide_eq_true ?_
    rw [List.getD_eq_getElem?_getD, List.getElem?_eq_getElem hj]
    show ((ls[j] : Nat) : Int) = _
    rw [h _ (List.getElem_mem hj)]

/-- a row of numbers, new -/
def VRw (D : Addr) (H : Hp) (v : V) (e : List Int) : Prop := ∃ c, v = .ref c ∧ c ≠ D ∧ IL H c e
theorem VRw.up {D : Addr} (H H' : Hp) (v : V) (e : List Int) (s : SameX D H H') (h : VRw D H v e) : VRw D H' v e := let ⟨c, a, n, z⟩ := h; ⟨c, a, n, s _ _ n z⟩
/-- what a table is a multiple of -/
def sqr (tab : Tb) : Bool := tab.all fun r => r.length == tab.length
def cor (tab : Tb) : List Int := (tab.getD 0 []).getD 0 []
def dia (c : List Int) (tab : Tb) : Prop := ∀ (i : Nat) (r : List (List Int)), tab[i]? = some r → ∀ (j : Nat) (e : List Int), r[j]? = some e → e = if i = j then c else []
section
variable {P : Program} {w : World} {K : PySem.W.Frag} {mg : Str → Option Value} {base : Heap}
/-- a for over reversed(a list of ints) -/
theorem for_revL {K : PySem.W.Frag} {a : Addr} {ns : List Int} {g : TG} {tb : TS} {D : Ends} {σ : L2.St} {H : Hp} (Pv : Nat → L2.St → Hp → Prop) (h0 : Pv 0 σ H) (hl : ∀ i σ H, i ≤ ns.length → Pv i σ H → SqL K H a (ns.map V.int))
    (hs : ∀ i σ H, i < ns.length → Pv i σ H → g (.int (cf ns (ns.length - 1 - i))) σ H fun σ2 H2 => tb { D with nx := Pv (i + 1), ct := Pv (i + 1), bk := D.nx } σ2 H2) (hd : ∀ σ H, Pv ns.length σ H → D.nx σ H) :
    ∃ W : Nat → Nat → L2.St → Hp → Prop, (∃ m, W 0 m σ H) ∧ ∀ i m σ H, W i m σ H →
      ((Itv K a (ns.map V.int).length).stop i H ∧ D.nx σ H) ∨ ((Itv K a (ns.map V.int).length).go i H ∧ ∃ N : L2.St → Hp → Prop, (∀ σ' H', N σ' H' → ∃ m', m' < m ∧ W (i + 1) m' σ' H') ∧ ∀ x H', (Itv K a (ns.map V.int).length).yld i H x H' → g x σ H' fun σ2 H2 => tb { D with nx := N, ct := N, bk := D.nx } σ2 H2) := by
  refine ⟨fun i m σ H => m = ns.length - i ∧ i ≤ ns.length ∧ Pv i σ H, ⟨ns.length, by simp, Nat.zero_le _, h0⟩, ?_⟩
  rintro i m σ H ⟨rfl, hi, p⟩
  have q := hl i σ H hi p
  by_cases hlt : i < ns.length
  · refine .inr ⟨⟨by rw [List.length_map]; exact hlt, _, _, q, map_at (m := (ns.map V.int).length - 1 - i) (by rw [List.length_map]; omega)⟩, Pv (i + 1), fun σ' H' p' => ⟨ns.length - (i + 1), by omega, rfl, hlt, p'⟩, fun x H' y => ?_⟩
    obtain ⟨e, y⟩ := y
    subst e
    have e2 := (map_get (y _ q)).2
    rw [List.length_map] at e2
    subst e2
    exact hs i σ _ hlt p
  · have e : i = ns.length := by omega
    subst e
    exact .inl ⟨by show (ns.map V.int).length ≤ ns.length; rw [List.length_map]; exact Nat.le_refl _, hd σ H p⟩

def sp_value : Sp := fun vs H Q _ => ∃ (a : Addr) (ns : List Int) (x : Int), vs = [.ref a, .int x] ∧ IL H a ns ∧ x.natAbs ≤ 1000 ∧ Q (.int (pval x ns)) H
theorem ok_value (T : Txt K mg) : FnOk P w K mg base CX0 1 T.value.a T.value.fd ["one", "at"] sp_value := by
  refine T.value.F.ok sc_value (fun vs H Q E h => ?_) (fun cdv A outer s H vs Q E hr h => ?_)
  · obtain ⟨a, ns, x, rfl, _⟩ := h
    rfl
  · obtain ⟨a, ns, x, rfl, ha, hx, q⟩ := h
    refine ⟨_, (pss_cons (ps_set (i := 2) sc_value.nd rfl (.inl rfl) pe_int)
      (pss_cons (ps_for PassesOwn.never rfl (pi_reversed (by rfl) T.m_reversed (pa_cons (pv 0) pa_nil)) (pg_name (i := 3) sc_value.nd rfl (.inl rfl))
        (pss_one (ps_set (i := 2) sc_value.nd rfl (.inl rfl) (pe_op op_add (pe_op op_mul (pv 2) (pv 1)) (pv 3)))))
      (pss_one (ps_ret (pv 2))))), ?_⟩
    refine ⟨.ref a, rfl, a, _, rfl, ha.sq, ?_⟩
    refine for_revL (ns := ns) (fun i σ H' => H' = H ∧ ∃ v3, σ = [some (.ref a), some (.int x), some (.int (pval x (ns.drop (ns.length - i)))), v3]) ⟨rfl, none, ?_⟩ (fun i σ H' hi p => ?_) (fun i σ H' hi p => ?_) (fun σ H' p => ?_)
    · rw [Nat.sub_zero, List.drop_length]; rfl
    · rw [p.1]; exact ha.sq
    · obtain ⟨rfl, v3, rfl⟩ := p
      refine ⟨_, rfl, _, rfl, _, _, rfl, rfl, .inr ⟨by omega, by omega⟩, _, rfl, _, _, rfl, rfl, rfl, some (.int (cf ns (ns.length - 1 - i))), ?_⟩
      rw [pval_last x ns i hi]
      rfl
    · obtain ⟨rfl, v3, rfl⟩ := p
      refine ⟨_, rfl, ?_⟩
      rw [Nat.sub_self]
      exact q

def sp_value_at : Sp := fun vs H Q _ => ∃ (a : Addr) (tab : Tb) (x : Int), vs = [.ref a, .int x] ∧ TbR H a tab ∧ tab.length ≤ 16 ∧ (∀ r ∈ tab, r.length ≤ 16) ∧ x.natAbs ≤ 1000 ∧ ∀ H' p, Same H H' → H p = none → RowL H' p (tab.map fun r => r.map (pval x)) → Q (.ref p) H'
theorem ok_value_at (T : Txt K mg) : FnOk P w K mg base CX0 2 T.value_at.a T.value_at.fd ["table", "at"] sp_value_at := by
  refine T.value_at.F.ok sc_value_at (fun vs H Q E h => ?_) (fun cdv A outer s H vs Q E hr h => ?_)
  · obtain ⟨a, tab, x, rfl, _⟩ := h
    rfl
  · obtain ⟨a, tab, x, rfl, ⟨as, htl, hA⟩, l16, r16, hx, q⟩ := h
    have las := hA.len
    refine ⟨_, (pss_one (ps_ret (pe_lc (own := [("row", 2)]) rfl sc_value_at.nd (pi_list (pv 0)) (blkOk_by (N := ["table", "at", "row", "one"]) (sc := defScope s_value_at) (by decide +kernel)) (fun _ _ _ _ _ => (pg_name (i := 2) sc_value_at.nd rfl (.inl rfl))) (fun _ _ _ _ _ => pts_nil) (fun _ _ _ _ _ => (pe_lc (wi := iList K _) (own := [("one", 3)]) rfl sc_value_at.nd (pi_list (pv 2)) (blkOk_by (N := ["table", "at", "row", "one"]) (sc := { kind := .function, names := [(".0", .local), ("row", .local), ("at", .cell)], isGenerator := false, isCoroutine := false, more := [] }) (by decide +kernel)) (fun _ _ _ _ _ => (pg_name (i := 3) sc_value_at.nd rfl (.inl rfl))) (fun _ _ _ _ _ => pts_nil) (fun _ _ _ _ _ => (pe_call (ok_value T) (hr.mono (by decide)) (by rfl) T.value.g T.value.F.kp T.value.b .nil pass0 (pa_cons (pv 3) (pa_cons (pv 1) pa_nil))))))))), ?_⟩
    refine ⟨.ref a, rfl, a, rfl, ⟨_, .of htl⟩, fun D nD => ?_⟩
    refine lc_fm (walk_list (xs := as.map V.ref)) tab (fun r => some (r.map (pval x))) (VRw D) VRw.up (by rw [List.length_map]; exact las.symm) nD (fun H' s => s.seq (.of htl)) (small' (by rw [List.length_map]; omega)) (fun i u G Gx ys r hr2 sm hD y Qt Qf qt qf => ?_) (fun G ys sm hD hR => ?_)
    · obtain ⟨rfl, hxi⟩ := y
      obtain ⟨c, hc, rfl⟩ := row_ref hxi
      obtain ⟨r', hr', hRow⟩ := hA.get hc
      obtain rfl := Option.some.inj (hr2.symm.trans hr')
      obtain ⟨ras, hral, hE⟩ := RowL.same hRow sm
      have lr := r16 r (mem_at hr2)
      have lra := hE.len
      refine ⟨rfl, .ref c, rfl, c, rfl, ⟨_, .of hral⟩, fun D2 nD2 => ?_⟩
      refine lc_fm (walk_list (xs := ras.map V.ref)) r (fun e => some (pval x e)) (fun _ v n => v = V.int n) (fun _ _ _ _ _ z => z) (by rw [List.length_map]; exact lra.symm) nD2 (fun H' s => s.seq (.of hral)) (small' (by rw [List.length_map]; omega)) (fun i2 u2 G2 Gx2 ys2 e he sm2 hD2 y2 Qt2 Qf2 qt2 qf2 => ?_) (fun G2 ys2 sm2 hD2 hR2 => ?_)
      · obtain ⟨rfl, hx2⟩ := y2
        obtain ⟨ea, hea, rfl⟩ := row_ref hx2
        obtain ⟨e', he', hI⟩ := hE.get hea
        obtain rfl := Option.some.inj (he.symm.trans he')
        exact ⟨rfl, .ref ea, rfl, _, rfl, ea, e, x, rfl, hI.same sm2, hx, qt2 _ _ _ rfl (Same.refl _) rfl⟩
      · rw [fm_some] at hR2
        rw [a2_eq hR2] at hD2
        exact qt _ _ _ rfl sm2 ⟨D2, rfl, (fun z => by rw [z, hD] at nD2; cases nD2), hD2⟩
    · rw [fm_some] at hR
      obtain ⟨cs, rfl, hcs⟩ := a2_ref (hR.mono fun v row (z : VRw D G v row) => (let ⟨c, e, _, i⟩ := z; ⟨c, e, i⟩ : ∃ c, v = .ref c ∧ IL G c row))
      exact q G D sm nD ⟨cs, hD, hcs⟩
def sp_is_square (K : PySem.W.Frag) (P : Addr) : Sp := fun vs H Q _ => ∃ (a : Addr) (as : List Addr) (ls : List Nat), vs = [.ref a] ∧ SqL K H a (as.map V.ref) ∧ A2 (fun r n => ∃ xs, SqL K H r xs ∧ xs.length = n) as ls ∧ GxR.TabG H P ∧ ∀ (b : Bool) H', (b = true ↔ ∀ l ∈ ls, l = ls.length) → LkN H H' → GxR.TabG H' P → Q (.bl b) H'
theorem ok_is_square (T : Txt K mg) {P2 : Addr} (TB : GxR.TabB base mg T.is_square.c P2) : FnOk P w K mg base CX0 1 T.is_square.a T.is_square.fd ["table"] (sp_is_square K P2) := by
  refine T.is_square.ok sc_is_square (fun vs H Q E h => ?_) (fun A outer s H vs Q E hr h => ?_)
  · obtain ⟨a, as, ls, rfl, _⟩ := h
    rfl
  · obtain ⟨a, as, ls, rfl, ha, hA, tb, q⟩ := h
    have la := hA.len
    refine ⟨_, (pss_one (ps_ret (LE.pe_allL hr (by rfl) T.m_all TB rfl ⟨defScope s_is_square, rfl, by decide +kernel⟩ (pv 0) (fun _ => rfl)))), ?_⟩
    refine ⟨.ref a, rfl, a, _, fun j => decide (((ls.getD j 0 : Nat) : Int) = (ls.length : Int)), [("table", .ref a)], rfl, ha, tb, LE.seen_cons 0 rfl rfl (.inl rfl) rfl LE.seen_nil, fun j v hv => ?_, fun H2 tb2 => ?_⟩
    · obtain ⟨r, hr2, rfl⟩ := row_ref hv
      obtain ⟨n, hn, xs, hxs, rfl⟩ := hA.get hr2
      show LE.PU _ _ _ _ _ (.bl (decide (((ls.getD j 0 : Nat) : Int) = (ls.length : Int))))
      rw [show (ls.getD j 0) = xs.length by rw [List.getD_eq_getElem?_getD, hn]; rfl, show ls.length = (as.map V.ref).length by rw [List.length_map, la]]
      refine LE.pu_eqI (LE.pu_len ?_ hxs rfl T.m_len) (LE.pu_len ?_ ha rfl T.m_len)
      · exact LE.pu_var rfl
      · exact LE.pu_var rfl
    · rw [List.length_map, la]
      exact q _ H2 (all_fit ls ls.length) (lkN_tab tb tb2) tb2.1
end
-- U01
section
variable {P : Program} {w : World} {K : PySem.W.Frag} {mg : Str → Option Value} {base : Heap}
theorem wipe1 {σ : L2.St} {i : Nat} {x : Option V} : wipe ((wipe σ [i]).set i x) [i] = wipe σ [i] := by
  show ((σ.set i none).set i x).set i none = σ.set i none
  rw [List.set_set, List.set_set]
/-- [e for x in xs]: each item stands in R to what came of it; nothing is laid within -/
theorem lc_rel {K : PySem.W.Frag} {a : Addr} {xs : List V} {te : TE} {i : Nat} {σ : L2.St} {H1 : Hp} {D : Addr} {Qd : Hp → Prop} (R : Nat → V → Prop) (nD : H1 D = none) (hS : SqL K H1 a xs) (hl : xs.length < sizeLine)
    (ht : ∀ (j : Nat) (x : V) (H' : Hp) (Q : VK), xs[j]? = some x → Same H1 H' → (∀ y, R j y → Q y H') → te ((wipe σ [i]).set i (some x)) H' Q)
    (hd : ∀ H' ys, Same H1 H' → H' D = some (.lst ys) → ys.length = xs.length → (∀ j y, ys[j]? = some y → R j y) → Qd H') :
    ∃ W : Nat → Nat → Hp → Prop, (∃ m, W 0 m (upd H1 D (.lst []))) ∧ ∀ i' m H, W i' m H →
      ((Itl K a).stop i' H ∧ Qd H) ∨ ((Itl K a).go i' H ∧ ∃ Nx : Hp → Prop, (∀ H', Nx H' → ∃ m', m' < m ∧ W (i' + 1) m' H') ∧ ∀ x H', (Itl K a).yld i' H x H' → (gName i) x (wipe σ [i]) H' fun σ2 H2 => wipe σ2 [i] = wipe σ [i] ∧ tYes σ2 H2 fun b H3 =>
        if b = true then te σ2 H3 fun y H4 => ∃ acc, H4 D = some (.lst acc) ∧ acc.length < sizeLine ∧ Nx (upd H4 D (.lst (acc ++ [y]))) else Nx H3) := by
  refine lc_list (xs := xs) (fun j H => Same H1 H ∧ ∃ ys, H D = some (.lst ys) ∧ ys.length = j ∧ ∀ k y, ys[k]? = some y → R k y) ⟨same_upd nD, [], upd_same, rfl, fun k y h => by simp at h⟩ (fun j H _ p => p.1.seq hS) (fun j x H hx p => ?_) (fun H p => ?_)
  · obtain ⟨sm, ys, hy, hn, hr⟩ := p
    refine ⟨wipe1, ?_⟩
    refine ht j x H _ hx sm fun y r => ?_
    have hj := (List.getElem?_eq_some_iff.mp hx).1
    refine ⟨ys, hy, by omega, same_over sm nD, _, upd_same, by simp [hn], fun k z hz => ?_⟩
    rcases Nat.lt_or_ge k ys.length with q | q
    · rw [List.getElem?_append_left q] at hz
      exact hr k z hz
    · have e : k = ys.length := by
        have := (List.getElem?_eq_some_iff.mp hz).1
        simp at this
        omega
      subst e
      rw [List.getElem?_append_right (Nat.le_refl _)] at hz
      simp at hz
      rw [← hz, hn]
      exact r
  · obtain ⟨sm, ys, hy, hn, hr⟩ := p
    exact hd H ys sm hy hn hr
theorem lc_relR {n : Nat} {te : TE} {i : Nat} {σ : L2.St} {H1 : Hp} {D : Addr} {Qd : Hp → Prop} (R : Nat → V → Prop) (nD : H1 D = none) (hl : n < sizeLine)
    (ht : ∀ (j : Nat) (H' : Hp) (Q : VK), j < n → Same H1 H' → (∀ y, R j y → Q y H') → te ((wipe σ [i]).set i (some (.int (j : Nat)))) H' Q)
    (hd : ∀ H' ys, Same H1 H' → H' D = some (.lst ys) → ys.length = n → (∀ j y, ys[j]? = some y → R j y) → Qd H') :
    ∃ W : Nat → Nat → Hp → Prop, (∃ m, W 0 m (upd H1 D (.lst []))) ∧ ∀ i' m H, W i' m H →
      ((Itr 0 n).stop i' H ∧ Qd H) ∨ ((Itr 0 n).go i' H ∧ ∃ Nx : Hp → Prop, (∀ H', Nx H' → ∃ m', m' < m ∧ W (i' + 1) m' H') ∧ ∀ x H', (Itr 0 n).yld i' H x H' → (gName i) x (wipe σ [i]) H' fun σ2 H2 => wipe σ2 [i] = wipe σ [i] ∧ tYes σ2 H2 fun b H3 =>
        if b = true then te σ2 H3 fun y H4 => ∃ acc, H4 D = some (.lst acc) ∧ acc.length < sizeLine ∧ Nx (upd H4 D (.lst (acc ++ [y]))) else Nx H3) := by
  refine lc_range (n := n) (lo := 0) (fun j H => Same H1 H ∧ ∃ ys, H D = some (.lst ys) ∧ ys.length = j ∧ ∀ k y, ys[k]? = some y → R k y) ⟨same_upd nD, [], upd_same, rfl, fun k y h => by simp at h⟩ (fun j H hj p => ?_) (fun H p => ?_)
  · obtain ⟨sm, ys, hy, hn, hr⟩ := p
    rw [Int.zero_add]
    refine ⟨wipe1, ?_⟩
    refine ht j H _ hj sm fun y r => ?_
    refine ⟨ys, hy, by omega, same_over sm nD, _, upd_same, by simp [hn], fun k z hz => ?_⟩
    rcases Nat.lt_or_ge k ys.length with q | q
    · rw [List.getElem?_append_left q] at hz
      exact hr k z hz
    · have e : k = ys.length := by
        have := (List.getElem?_eq_some_iff.mp hz).1
        simp at this
        omega
      subst e
      rw [List.getElem?_append_right (Nat.le_refl _)] at hz
      simp at hz
      rw [← hz, hn]
      exact r
  · obtain ⟨sm, ys, hy, hn, hr⟩ := p
    exact hd H ys sm hy hn hr
/-- a list of known ints -/
theorem ints_of {ys : List V} {n : Nat} (f : Nat → Int) (hn : ys.length = n) (h : ∀ (j : Nat) (y : V), ys[j]? = some y → y = V.int (f j)) : ys = ((List.range n).map f).map V.int := by
  refine List.ext_getElem? fun j => ?_
  rcases Nat.lt_or_ge j n with q | q
  · have e : ys[j]? = some ys[j] := List.getElem?_eq_getElem (by omega)
    rw [e, h j _ e]
    simp [q]
  · rw [List.getElem?_eq_none (by omega), List.getElem?_eq_none (by simpa using q)]
/-- a list of ints with a property -/
theorem ints_ex {ys : List V} {R : Nat → Int → Prop} (h : ∀ (j : Nat) (y : V), ys[j]? = some y → ∃ n, y = V.int n ∧ R j n) : ∃ ns : List Int, ys = ns.map V.int ∧ ∀ j, j < ns.length → R j (cf ns j) := by
  refine ⟨ys.map fun y => match y with | .int n => n | _ => 0, ?_, fun j hj => ?_⟩
  · refine List.ext_getElem? fun j => ?_
    rcases Nat.lt_or_ge j ys.length with q | q
    · have e : ys[j]? = some ys[j] := List.getElem?_eq_getElem q
      obtain ⟨n, e2, _⟩ := h j _ e
      rw [List.getElem?_map, List.getElem?_map, e, e2]; rfl
    · rw [List.getElem?_eq_none q, List.getElem?_eq_none (by simpa using q)]
  · rw [List.length_map] at hj
    have e : ys[j]? = some ys[j] := List.getElem?_eq_getElem hj
    obtain ⟨n, e2, r⟩ := h j _ e
    rw [e2] at e
    rw [cf_some (x := n) (by rw [List.getElem?_map, e]; rfl)]
    exact r
theorem scale_range (c : Int) (ns : List Int) : (List.range ns.length).map (fun j => c * cf ns j) = ns.map (c * ·) := by
  refine List.ext_getElem (by simp) fun j h1 h2 => ?_
  simp only [List.length_map] at h2
  simp only [List.getElem_map, List.getElem_range]
  rw [cf_lt h2]

def sp_law_at : Sp := fun vs H Q _ => ∃ (a : Addr) (ds : List Int) (k many : Int), vs = [.ref a, .int k, .int many] ∧ IL H a ds ∧ 0 ≤ k ∧ 0 < many ∧ ∀ r, 0 ≤ r → r < many → Q (.int r) H
theorem ok_law_at (T : Txt K mg) : FnOk P w K mg base CX0 1 T.law_at.a T.law_at.fd ["draws", "k", "many"] sp_law_at := by
  refine T.law_at.F.ok sc_law_at (fun vs H Q E h => ?_) (fun cdv A outer s H vs Q E hr h => ?_)
  · obtain ⟨a, ds, k, m, rfl, _⟩ := h
    rfl
  · obtain ⟨a, ds, k, m, rfl, ha, hk, hm, q⟩ := h
    refine ⟨_, (pss_cons (ps_if (pt_cmpR op_lt (pv 1) (pe_callB call_len_seq (by rfl) T.m_len (by decide +kernel) (pa_cons (pv 0) pa_nil)) (nomark _))
        (pss_one (ps_ret (pe_op op_mod (pe_callTy call_int1 (by rfl) T.m_int (by decide +kernel) (pa_cons (pe_ix ix_list (pv 0) (pv 1) (fun _ _ => rfl)) pa_nil)) (pv 2))))
        pss_nil)
      (pss_one (ps_ret pe_int))), ?_⟩
    refine ⟨_, rfl, .ref a, rfl, a, _, rfl, .inl ha.sq, _, _, rfl, rfl, _, rfl, ?_⟩
    rw [List.length_map]
    refine ite2 (fun h => ?_) (fun _ => ?_)
    · have hlt := of_decide_eq_true h
      refine ⟨.ref a, rfl, _, rfl, a, _, _, _, rfl, rfl, ha.sq, at_map' (m := k.toNat) (by omega) (by omega), .inl ⟨_, rfl, _, rfl, _, _, rfl, rfl, hm, ?_⟩⟩
      exact q _ (Int.emod_nonneg _ (by omega)) (Int.emod_lt_of_pos _ hm)
    · exact q 0 (Int.le_refl _) hm

theorem ten30 : ((10 : Int) ^ (30 : Int).toNat) = 10 ^ 30 := rfl
theorem side_mul {s x : Int} (hs : s.natAbs ≤ 1) (hx : x.natAbs < 2 ^ 200) : (s * x).natAbs < 2 ^ 200 := by
  rw [Int.natAbs_mul]
  have : s.natAbs * x.natAbs ≤ 1 * x.natAbs := Nat.mul_le_mul_right _ hs
  omega
def sp_law_number : Sp := fun vs H Q _ => ∃ (a : Addr) (ds : List Int) (k : Int), vs = [.ref a, .int k] ∧ IL H a ds ∧ 0 ≤ k ∧ ∀ r : Int, r.natAbs < 2 ^ 200 → Q (.int r) H
theorem ok_law_number (T : Txt K mg) : FnOk P w K mg base CX0 2 T.law_number.a T.law_number.fd ["draws", "k"] sp_law_number := by
  refine T.law_number.F.ok sc_law_number (fun vs H Q E h => ?_) (fun cdv A outer s H vs Q E hr h => ?_)
  · obtain ⟨a, ds, k, rfl, _⟩ := h
    rfl
  · obtain ⟨a, ds, k, rfl, ha, hk, q⟩ := h
    refine ⟨_, (pss_cons (ps_set (i := 2) sc_law_number.nd rfl (.inl rfl) (pe_call (ok_law_at T) (hr.mono (by decide)) (by rfl) T.law_at.g T.law_at.F.kp T.law_at.b .nil pass0 (pa_cons (pv 0) (pa_cons (pv 1) (pa_cons pe_int pa_nil)))))
      (pss_cons (ps_set (i := 3) sc_law_number.nd rfl (.inl rfl) (pe_call (ok_law_at T) (hr.mono (by decide)) (by rfl) T.law_at.g T.law_at.F.kp T.law_at.b .nil pass0 (pa_cons (pv 0) (pa_cons (pe_op op_add (pv 1) pe_int) (pa_cons pe_int pa_nil)))))
      (pss_cons (ps_set (i := 4) sc_law_number.nd rfl (.inl rfl) (pe_op op_sub pe_int (pe_op op_mul pe_int (pe_op op_mod (pe_callTy call_int1 (by rfl) T.m_int (by decide +kernel) (pa_cons (pv 3) pa_nil)) pe_int))))
      (pss_cons (ps_if (pt_cmpR op_lt (pv 2) pe_int (nomark _))
        (pss_one (ps_ret (pe_op op_sub (pe_op op_mod (pe_callTy call_int1 (by rfl) T.m_int (by decide +kernel) (pa_cons (pe_op op_fdiv (pv 3) pe_int) pa_nil)) pe_int) pe_int)))
        pss_nil)
      (pss_cons (ps_if (pt_cmpR op_lt (pv 2) pe_int (nomark _))
        (pss_one (ps_ret (pe_op op_sub (pe_op op_mod (pe_callTy call_int1 (by rfl) T.m_int (by decide +kernel) (pa_cons (pe_op op_fdiv (pv 3) pe_int) pa_nil)) pe_int) pe_int)))
        pss_nil)
      (pss_cons (ps_if (pt_cmpR op_eq (pv 2) pe_int (nomark _))
        (pss_one (ps_ret (pe_op op_mul (pv 4) (pe_op op_pow pe_int pe_int))))
        pss_nil)
      (pss_one (ps_ret (pe_op op_mul (pv 4) (pe_op op_mod (pe_callTy call_int1 (by rfl) T.m_int (by decide +kernel) (pa_cons (pe_op op_pow (pe_callTy call_int1 (by rfl) T.m_int (by decide +kernel) (pa_cons (pe_op op_add (pe_op op_mul (pv 3) pe_int) pe_int) pa_nil)) pe_int) pa_nil)) (pe_op op_pow pe_int pe_int))))))))))), ?_⟩
    refine ⟨.ref a, rfl, _, rfl, a, ds, k, 8, rfl, ha, hk, by decide, fun kind hk0 hk1 => ?_⟩
    refine ⟨.ref a, rfl, _, rfl, _, _, rfl, rfl, a, ds, _, 65536, rfl, ha, by omega, by decide, fun cell hc0 hc1 => ?_⟩
    refine ⟨_, rfl, .inl ⟨_, rfl, _, _, rfl, rfl, (by show (0 : Int) < _; decide), _, _, rfl, rfl, .inl ⟨by decide, by decide⟩, _, _, rfl, rfl, ?_⟩⟩
    obtain ⟨sd, hsd, esd⟩ : ∃ sd : Int, sd.natAbs ≤ 1 ∧ 1 - 2 * (cell % 2) = sd := ⟨_, by omega, rfl⟩
    refine ⟨_, rfl, _, _, rfl, rfl, _, rfl, ite2 (fun _ => ?_) (fun _ => ?_)⟩
    · exact ⟨_, rfl, _, _, rfl, rfl, ⟨by decide, by decide⟩, .inl ⟨_, rfl, _, _, rfl, rfl, (by show (0 : Int) < _; decide), _, _, rfl, rfl, q _ (by omega)⟩⟩
    refine ⟨_, rfl, _, _, rfl, rfl, _, rfl, ite2 (fun _ => ?_) (fun _ => ?_)⟩
    · exact ⟨_, rfl, _, _, rfl, rfl, ⟨by decide, by decide⟩, .inl ⟨_, rfl, _, _, rfl, rfl, (by show (0 : Int) < _; decide), _, _, rfl, rfl, q _ (by omega)⟩⟩
    refine ⟨_, rfl, rfl, _, rfl, ite2 (fun _ => ?_) (fun _ => ?_)⟩
    · refine ⟨.int sd, congrArg (fun z => some (some (V.int z))) esd, _, _, rfl, rfl, ⟨by decide, by decide, by decide⟩, _, _, rfl, rfl, .inl ⟨by omega, by omega⟩, q _ (side_mul hsd (by decide))⟩
    · refine ⟨.int sd, congrArg (fun z => some (some (V.int z))) esd, _, rfl, _, _, rfl, rfl, .inr ⟨by decide, by decide⟩, _, _, rfl, rfl, .inl ⟨_, rfl, _, _, rfl, rfl, ⟨by decide, by decide, by omega⟩, .inl ⟨_, rfl, _, _, rfl, rfl, ⟨by decide, by decide, by decide⟩, _, _, rfl, rfl, (by show (0 : Int) < (10 : Int) ^ (30 : Int).toNat; decide), _, _, rfl, rfl, .inl ⟨by omega, by omega⟩, q _ (side_mul hsd ?_)⟩⟩⟩
      rw [ten30]
      generalize ((cell * 65537 + 12345) ^ (6 : Int).toNat) = z
      omega

/-- the place behind the last number that is not 0, so far -/
def LastOk (ns : List Int) (i L : Nat) : Prop := L ≤ i ∧ (∀ m, L ≤ m → m < i → cf ns m = 0) ∧ (L = 0 ∨ cf ns (L - 1) ≠ 0)
theorem LastOk.zero (ns : List Int) : LastOk ns 0 0 := ⟨Nat.le_refl _, fun m _ h => absurd h (Nat.not_lt_zero _), .inl rfl⟩
theorem LastOk.keep {ns : List Int} {i L : Nat} (h : LastOk ns i L) (h0 : cf ns i = 0) : LastOk ns (i + 1) L := ⟨by have := h.1; omega, fun m h1 h2 => by
  by_cases e : m = i
  · rw [e]; exact h0
  · exact h.2.1 m h1 (by omega), h.2.2⟩
theorem LastOk.new {ns : List Int} {i L : Nat} (h0 : cf ns i ≠ 0) : LastOk ns (i + 1) (i + 1) := ⟨Nat.le_refl _, fun m h1 h2 => by omega, .inr h0⟩
theorem LastOk.take {ns : List Int} {L : Nat} (h : LastOk ns ns.length L) : ns.take L = trim ns := take_trim h.1 (fun m hm => by
  rcases Nat.lt_or_ge m ns.length with q | q
  · exact h.2.1 m hm q
  · exact cf_ge q) h.2.2
theorem bd_trim {ns : List Int} (h : Bd ns) : Bd (trim ns) := fun m => by rw [cf_trim]; exact h m
theorem bd_of {ns : List Int} (h : ∀ j, j < ns.length → (cf ns j).natAbs < 2 ^ 200) : Bd ns := fun m => by
  rcases Nat.lt_or_ge m ns.length with q | q
  · exact h m q
  · rw [cf_ge q]; decide
/-- a polynomial is handed back -/
def OutP (H : Hp) (Q : VK) : Prop := ∀ H' p ns, Same H H' → H p = none → IL H' p ns → Can ns → Bd ns → ns.length ≤ 41 → Q (.ref p) H'
def sp_law_poly : Sp := fun vs H Q _ => ∃ (a : Addr) (ds : List Int) (k : Int), vs = [.ref a, .int k, .int 3] ∧ IL H a ds ∧ 0 ≤ k ∧ OutP H Q
theorem ok_law_poly (T : Txt K mg) : FnOk P w K mg base CX0 3 T.law_poly.a T.law_poly.fd ["draws", "k", "most"] sp_law_poly := by
  refine T.law_poly.F.ok sc_law_poly (fun vs H Q E h => ?_) (fun cdv A outer s H vs Q E hr h => ?_)
  · obtain ⟨a, ds, k, rfl, _⟩ := h
    rfl
  · obtain ⟨a, ds, k, rfl, ha, hk, q⟩ := h
    refine ⟨_, (pss_cons (ps_setLc (i := 4) (own := [("m", 3)]) rfl sc_law_poly.nd rfl rfl (sw_true rfl rfl rfl (by decide +kernel)) (pi_range1 (by rfl) T.m_range (pa_cons (pe_call (ok_law_at T) (hr.mono (by decide)) (by rfl) T.law_at.g T.law_at.F.kp T.law_at.b .nil pass0 (pa_cons (pv 0) (pa_cons (pv 1) (pa_cons (pe_op op_add (pv 2) pe_int) pa_nil)))) pa_nil)) (blkOk_by (N := ["draws", "k", "most", "m", "numbers", "last"]) (sc := defScope s_law_poly) (by decide +kernel)) (fun _ _ _ _ _ => (pg_name (i := 3) sc_law_poly.nd rfl (.inl rfl))) (fun _ _ _ _ _ => pts_nil) (fun _ _ _ _ _ => (pe_call (ok_law_number T) (hr.mono (by decide)) (by rfl) T.law_number.g T.law_number.F.kp T.law_number.b .nil pass0 (pa_cons (pv 0) (pa_cons (pe_op op_add (pe_op op_add (pv 1) pe_int) (pe_op op_mul pe_int (pv 3))) pa_nil)))))
      (pss_cons (ps_set (i := 5) sc_law_poly.nd rfl (.inl rfl) pe_int)
      (pss_cons (ps_for PassesOwn.never rfl (pi_range1 (by rfl) T.m_range (pa_cons (pe_callB call_len_seq (by rfl) T.m_len (by decide +kernel) (pa_cons (pv 4) pa_nil)) pa_nil)) (pg_name (i := 3) sc_law_poly.nd rfl (.inl rfl))
        (pss_one (ps_if (pt_cmpR op_ne (pe_ix ix_list (pv 4) (pv 3) (fun _ _ => rfl)) pe_int (nomark _))
          (pss_one (ps_set (i := 5) sc_law_poly.nd rfl (.inl rfl) (pe_op op_add (pv 3) pe_int)))
          pss_nil)))
      (pss_one (ps_ret (pe_slice sl_list (pv 4) po_none (po_some (pv 5)))))))), ?_⟩
    refine ⟨.ref a, rfl, _, rfl, _, rfl, _, _, rfl, rfl, a, ds, k, _, rfl, ha, hk, by decide, fun n hn0 hn1 => ?_⟩
    refine ⟨n, rfl, by omega, by omega, fun D nD => ?_⟩
    refine lc_relR (n := n.toNat) (fun j y => ∃ x, y = .int x ∧ x.natAbs < 2 ^ 200) nD (small' (by omega)) (fun j H' Q' hj sm hq => ?_) (fun H' ys sm hy hn hr => ?_)
    · exact ⟨.ref a, rfl, _, rfl, _, _, rfl, rfl, _, rfl, _, _, rfl, rfl, .inl ⟨by decide, by decide⟩, _, _, rfl, rfl, a, ds, _, rfl, ha.same sm, by omega, fun r hr => hq _ ⟨r, rfl, hr⟩⟩
    obtain ⟨ns, rfl, hb⟩ := ints_ex (R := fun _ x => x.natAbs < 2 ^ 200) hr
    rw [List.length_map] at hn
    have hil : IL H' D ns := hy
    refine ⟨.ref D, rfl, D, _, rfl, .inl hil.sq, _, rfl, by rw [List.length_map]; omega, by rw [List.length_map]; omega, ?_⟩
    rw [List.length_map]
    refine for_range (n := (ns.length : Int).toNat) (lo := 0) (fun i σ H2 => H2 = H' ∧ ∃ v3 L, σ = [some (.ref a), some (.int k), some (.int 3), v3, some (.ref D), some (.int (L : Nat))] ∧ LastOk ns i L) ⟨rfl, none, 0, rfl, .zero ns⟩ (fun i σ H2 hi hP => ?_) (fun σ H2 hP => ?_)
    · obtain ⟨rfl, v3, L, rfl, hL⟩ := hP
      refine ⟨.ref D, rfl, _, rfl, D, _, _, _, rfl, rfl, hil.sq, at_map' (m := i) (by omega) (by omega), rfl, _, rfl, ?_⟩
      by_cases h0 : cf ns i = 0
      · rw [h0]
        exact iteF ⟨rfl, _, L, rfl, hL.keep h0⟩
      · rw [show (!decide (V.int (cf ns i) = V.int 0)) = true by rw [decide_eq_false (fun z => h0 (V.int.inj z))]; rfl]
        refine iteT ⟨_, rfl, _, _, rfl, rfl, rfl, some (.int (0 + (i : Int))), i + 1, ?_, .new (L := L) h0⟩
        show [some (V.ref a), some (V.int k), some (V.int 3), some (V.int (0 + (i : Int))), some (V.ref D), some (V.int (0 + (i : Int) + 1))] = _
        rw [show (0 + (i : Int) + 1) = ((i + 1 : Nat) : Int) by omega]
    · obtain ⟨rfl, v3, L, rfl, hL⟩ := hP
      rw [Int.toNat_natCast] at hL
      refine ⟨.ref D, rfl, _, rfl, _, rfl, D, _, rfl, hil.sq, fun p hp => ?_⟩
      rw [cut_to hL.1, hL.take]
      exact q _ p (trim ns) (sm.trans (same_upd hp)) (sm.free hp) il_upd (can_trim ns) (bd_trim (bd_of hb)) (by have := trim_len ns; omega)
end
-- V01
section
variable {P : Program} {w : World} {K : PySem.W.Frag} {mg : Str → Option Value} {base : Heap}
theorem zeros_of (n : Nat) : (List.range n).map (fun _ => (0 : Int)) = List.replicate n 0 := by
  refine List.ext_getElem (by simp) fun j h1 h2 => by simp
theorem ok_law_plus (T : Txt K mg) : FnOk P w K mg base CX0 1 T.law_plus.a T.law_plus.fd ["one", "two"] (sp2 padd) := by
  refine T.law_plus.F.ok sc_law_plus (fun vs H Q E h => ?_) (fun cdv A outer s H vs Q E hr h => ?_)
  · obtain ⟨a, b, ns, ms, rfl, _⟩ := h
    rfl
  · obtain ⟨a, b, ns, ms, rfl, ha, hb, hla, hlb, q⟩ := h
    refine ⟨_, (pss_cons (ps_setLc (i := 3) (own := [("k", 2)]) rfl sc_law_plus.nd rfl rfl (sw_true rfl rfl rfl (by decide +kernel)) (pi_range1 (by rfl) T.m_range (pa_cons (pe_callB (call_max2 rfl) (by rfl) T.m_max (by decide +kernel) (pa_cons (pe_callB call_len_seq (by rfl) T.m_len (by decide +kernel) (pa_cons (pv 0) pa_nil)) (pa_cons (pe_callB call_len_seq (by rfl) T.m_len (by decide +kernel) (pa_cons (pv 1) pa_nil)) pa_nil))) pa_nil)) (blkOk_by (N := ["one", "two", "k", "total", "last"]) (sc := defScope s_law_plus) (by decide +kernel)) (fun _ _ _ _ _ => (pg_name (i := 2) sc_law_plus.nd rfl (.inl rfl))) (fun _ _ _ _ _ => pts_nil) (fun _ _ _ _ _ => pe_int))
      (pss_cons (ps_for PassesOwn.never rfl (pi_range1 (by rfl) T.m_range (pa_cons (pe_callB call_len_seq (by rfl) T.m_len (by decide +kernel) (pa_cons (pv 0) pa_nil)) pa_nil)) (pg_name (i := 2) sc_law_plus.nd rfl (.inl rfl))
        (pss_one (ps_asg (pe_op op_add (pe_ix ix_list (pv 3) (pv 2) (fun _ _ => rfl)) (pe_ix ix_list (pv 0) (pv 2) (fun _ _ => rfl))) (pg_sub (pv 3) (pv 2) set_list))))
      (pss_cons (ps_for PassesOwn.never rfl (pi_range1 (by rfl) T.m_range (pa_cons (pe_callB call_len_seq (by rfl) T.m_len (by decide +kernel) (pa_cons (pv 1) pa_nil)) pa_nil)) (pg_name (i := 2) sc_law_plus.nd rfl (.inl rfl))
        (pss_one (ps_asg (pe_op op_add (pe_ix ix_list (pv 3) (pv 2) (fun _ _ => rfl)) (pe_ix ix_list (pv 1) (pv 2) (fun _ _ => rfl))) (pg_sub (pv 3) (pv 2) set_list))))
      (pss_cons (ps_set (i := 4) sc_law_plus.nd rfl (.inl rfl) pe_int)
      (pss_cons (ps_for PassesOwn.never rfl (pi_range1 (by rfl) T.m_range (pa_cons (pe_callB call_len_seq (by rfl) T.m_len (by decide +kernel) (pa_cons (pv 3) pa_nil)) pa_nil)) (pg_name (i := 2) sc_law_plus.nd rfl (.inl rfl))
        (pss_one (ps_if (pt_cmpR op_ne (pe_ix ix_list (pv 3) (pv 2) (fun _ _ => rfl)) pe_int (nomark _))
          (pss_one (ps_set (i := 4) sc_law_plus.nd rfl (.inl rfl) (pe_op op_add (pv 2) pe_int)))
          pss_nil)))
      (pss_one (ps_ret (pe_slice sl_list (pv 3) po_none (po_some (pv 4)))))))))), ?_⟩
    obtain ⟨L, hL, eL⟩ : ∃ L : Nat, L = max ns.length ms.length ∧ (if ((ms.map V.int).length : Int) > ((ns.map V.int).length : Int) then ((ms.map V.int).length : Int) else ((ns.map V.int).length : Int)) = (L : Int) := by
      refine ⟨_, rfl, ?_⟩
      rw [List.length_map, List.length_map]
      split <;> omega
    refine ⟨.ref a, rfl, a, _, rfl, .inl ha.sq, .ref b, rfl, b, _, rfl, .inl hb.sq, _, _, rfl, (L : Int), congrArg (fun z => [V.int z]) eL, by omega, by omega, fun p hp => ?_⟩
    refine lc_relR (n := (L : Int).toNat) (fun j y => y = .int 0) hp (small' (by omega)) (fun j H' Q' hj sm hq => hq _ rfl) (fun H' ys sm hy hn hr => ?_)
    rw [Int.toNat_natCast] at hn
    have e := ints_of (fun _ => 0) hn hr
    rw [zeros_of] at e
    have hp0 : IL H' p (List.replicate L 0) := by show H' p = _; rw [hy, e]
    -- the first one
    refine ⟨.ref a, rfl, a, _, rfl, .inl (ha.same sm).sq, _, rfl, by rw [List.length_map]; omega, by rw [List.length_map]; omega, ?_⟩
    rw [List.length_map]
    refine for_range (n := (ns.length : Int).toNat) (lo := 0) (fun i σ H' => Same H H' ∧ ∃ t v2 v4, σ = [some (.ref a), some (.ref b), v2, some (.ref p), v4] ∧ IL H' p t ∧ t.length = L ∧ ∀ m, cf t m = if m < i then cf ns m else 0) ⟨sm, List.replicate L 0, none, none, rfl, hp0, by simp, fun m => by rw [cf_rep]; simp⟩ (fun i σ H' hi hP => ?_) (fun σ H' hP => ?_)
    · obtain ⟨sm, t, v2, v4, rfl, hp', ht, hc⟩ := hP
      refine ⟨.ref p, rfl, _, rfl, p, _, _, _, rfl, rfl, hp'.sq, at_map' (m := i) (by omega) (by omega), .ref a, rfl, _, rfl, a, _, _, _, rfl, rfl, (ha.same sm).sq, at_map' (m := i) (by omega) (by omega), _, _, rfl, rfl, _, rfl, _, rfl, p, _, _, i, rfl, rfl, hp', ix_ok (by omega) (by rw [List.length_map, ht]; omega), ?_⟩
      rw [len_set]
      refine ⟨same_over sm hp, _, _, _, rfl, il_upd, by rw [List.length_set, ht], fun m => ?_⟩
      rw [cf_set (by omega), hc, hc]
      by_cases e : m = i
      · subst e
        rw [if_pos rfl, if_neg (Nat.lt_irrefl _), if_pos (Nat.lt_succ_self _)]; omega
      · rw [if_neg e]
        by_cases q : m < i
        · rw [if_pos q, if_pos (by omega)]
        · rw [if_neg q, if_neg (by omega)]
    obtain ⟨sm, t, v2, v4, rfl, hp', ht, hc⟩ := hP
    rw [Int.toNat_natCast] at hc
    -- the second one
    refine ⟨.ref b, rfl, b, _, rfl, .inl (hb.same sm).sq, _, rfl, by rw [List.length_map]; omega, by rw [List.length_map]; omega, ?_⟩
    rw [List.length_map]
    refine for_range (n := (ms.length : Int).toNat) (lo := 0) (fun i σ H' => Same H H' ∧ ∃ t v2 v4, σ = [some (.ref a), some (.ref b), v2, some (.ref p), v4] ∧ IL H' p t ∧ t.length = L ∧ ∀ m, cf t m = cf ns m + if m < i then cf ms m else 0) ⟨sm, t, v2, v4, rfl, hp', ht, fun m => ?_⟩ (fun i σ H' hi hP => ?_) (fun σ H' hP => ?_)
    · rw [hc]
      split
      · simp
      · rename_i q
        rw [cf_ge (show ns.length ≤ m by omega)]; simp
    · obtain ⟨sm, t, v2, v4, rfl, hp', ht, hc⟩ := hP
      refine ⟨.ref p, rfl, _, rfl, p, _, _, _, rfl, rfl, hp'.sq, at_map' (m := i) (by omega) (by omega), .ref b, rfl, _, rfl, b, _, _, _, rfl, rfl, (hb.same sm).sq, at_map' (m := i) (by omega) (by omega), _, _, rfl, rfl, _, rfl, _, rfl, p, _, _, i, rfl, rfl, hp', ix_ok (by omega) (by rw [List.length_map, ht]; omega), ?_⟩
      rw [len_set]
      refine ⟨same_over sm hp, _, _, _, rfl, il_upd, by rw [List.length_set, ht], fun m => ?_⟩
      rw [cf_set (by omega), hc, hc]
      by_cases e : m = i
      · subst e
        rw [if_pos rfl, if_neg (Nat.lt_irrefl _), if_pos (Nat.lt_succ_self _)]; omega
      · rw [if_neg e]
        by_cases q : m < i
        · rw [if_pos q, if_pos (by omega)]
        · rw [if_neg q, if_neg (by omega)]
    obtain ⟨sm, t, v2, v4, rfl, hp', ht, hc⟩ := hP
    rw [Int.toNat_natCast] at hc
    -- the last number
    refine ⟨.ref p, rfl, p, _, rfl, .inl hp'.sq, _, rfl, by rw [List.length_map]; omega, by rw [List.length_map]; omega, ?_⟩
    rw [List.length_map]
    refine for_range (n := (t.length : Int).toNat) (lo := 0) (fun i σ H2 => H2 = H' ∧ ∃ v2 l, σ = [some (.ref a), some (.ref b), v2, some (.ref p), some (.int (l : Nat))] ∧ LastOk t i l) ⟨rfl, v2, 0, rfl, .zero t⟩ (fun i σ H2 hi hP => ?_) (fun σ H2 hP => ?_)
    · obtain ⟨rfl, v2, l, rfl, hl⟩ := hP
      refine ⟨.ref p, rfl, _, rfl, p, _, _, _, rfl, rfl, hp'.sq, at_map' (m := i) (by omega) (by omega), rfl, _, rfl, ?_⟩
      by_cases h0 : cf t i = 0
      · rw [h0]
        exact iteF ⟨rfl, _, l, rfl, hl.keep h0⟩
      · rw [show (!decide (V.int (cf t i) = V.int 0)) = true by rw [decide_eq_false (fun z => h0 (V.int.inj z))]; rfl]
        refine iteT ⟨_, rfl, _, _, rfl, rfl, rfl, some (.int (0 + (i : Int))), i + 1, ?_, .new (L := l) h0⟩
        show [some (V.ref a), some (V.ref b), some (V.int (0 + (i : Int))), some (V.ref p), some (V.int (0 + (i : Int) + 1))] = _
        rw [show (0 + (i : Int) + 1) = ((i + 1 : Nat) : Int) by omega]
    · obtain ⟨rfl, v2, l, rfl, hl⟩ := hP
      rw [Int.toNat_natCast] at hl
      refine ⟨.ref p, rfl, _, rfl, _, rfl, p, _, rfl, hp'.sq, fun r hr => ?_⟩
      rw [cut_to hl.1, hl.take, padd_of (t := t) fun m => ?_]
      · exact q _ r (sm.trans (same_upd hr)) (sm.free hr) il_upd
      · rw [hc]
        split
        · rfl
        · rw [cf_ge (show ms.length ≤ m by omega)]
theorem rep_flat (b : Bool) (xs : List V) : (List.replicate (if b then (1 : Int) else 0).toNat xs).flatten = if b then xs else [] := by
  cases b with
  | false => rfl
  | true => show (xs :: []).flatten = xs; simp
theorem ok_law_times (T : Txt K mg) : FnOk P w K mg base CX0 2 T.law_times.a T.law_times.fd ["one", "two"] (fun vs H Q _ => ∃ (a b : Addr) (ns ms : List Int), vs = [.ref a, .ref b] ∧ IL H a ns ∧ IL H b ms ∧ ns.length ≤ 100 ∧ ms.length ≤ 100 ∧ Bd ns ∧ Bd ms ∧ Out H Q (pmul ns ms)) := by
  refine T.law_times.F.ok sc_law_times (fun vs H Q E h => ?_) (fun cdv A outer s H vs Q E hr h => ?_)
  · obtain ⟨a, b, ns, ms, rfl, _⟩ := h
    rfl
  · obtain ⟨a, b, ns, ms, rfl, ha, hb, hla, hlb, ba, bb, q⟩ := h
    refine ⟨_, (pss_cons (ps_set (i := 2) sc_law_times.nd rfl (.inl rfl) (pe_lst pa_nil))
      (pss_cons (ps_for PassesOwn.never rfl (pi_range1 (by rfl) T.m_range (pa_cons (pe_callB call_len_seq (by rfl) T.m_len (by decide +kernel) (pa_cons (pv 0) pa_nil)) pa_nil)) (pg_name (i := 3) sc_law_times.nd rfl (.inr rfl))
        (pss_one (ps_set (i := 2) sc_law_times.nd rfl (.inl rfl) (pe_call (ok_law_plus T) (hr.mono (by decide)) (by rfl) T.law_plus.g T.law_plus.F.kp T.law_plus.b .nil pass0 (pa_cons (pv 2) (pa_cons (pe_op op_cat (pe_lc (own := [("m", 4)]) rfl sc_law_times.nd (pi_range1 (by rfl) T.m_range (pa_cons (pv 3) pa_nil)) (blkOk_by (N := ["one", "two", "total", "k", "m", "number"]) (sc := defScope s_law_times) (by decide +kernel)) (fun _ _ _ _ _ => (pg_name (i := 4) sc_law_times.nd rfl (.inl rfl))) (fun _ _ _ _ _ => pts_nil) (fun _ _ _ _ _ => pe_int)) (pe_op op_rep (pe_lc (own := [("number", 5)]) rfl sc_law_times.nd (pi_list (pv 1)) (blkOk_by (N := ["one", "two", "total", "k", "m", "number"]) (sc := defScope s_law_times) (by decide +kernel)) (fun _ _ _ _ _ => (pg_name (i := 5) sc_law_times.nd rfl (.inl rfl))) (fun _ _ _ _ _ => pts_nil) (fun _ _ _ _ _ => (pe_op op_mulW (pe_ix (r := rIxL K) ix_list (pv 0) (pv 3) (fun _ _ => rfl)) (pv 5)))) (pe_callTy call_int1 (by rfl) T.m_int (by decide +kernel) (pa_cons (pe_cmpR op_ne (pe_ix ix_list (pv 0) (pv 3) (fun _ _ => rfl)) pe_int (nomark _)) pa_nil)))) pa_nil))))))
      (pss_one (ps_ret (pv 2))))), ?_⟩
    refine ⟨Nat.zero_le _, fun p0 hp0 => ?_⟩
    have s0 := same_upd (o := .lst []) hp0
    refine ⟨.ref a, rfl, a, _, rfl, .inl (ha.same s0).sq, _, rfl, by rw [List.length_map]; omega, by rw [List.length_map]; omega, ?_⟩
    rw [List.length_map]
    refine for_range (n := (ns.length : Int).toNat) (lo := 0) (fun i σ H' => Same H H' ∧ ∃ p t v3 v4 v5, σ = [some (.ref a), some (.ref b), some (.ref p), v3, v4, v5] ∧ H p = none ∧ IL H' p t ∧ Can t ∧ t.length ≤ i + ms.length ∧ ∀ m, cf t m = conv ns ms i m) ⟨s0, p0, [], none, none, none, rfl, hp0, upd_same, .inl rfl, Nat.zero_le _, fun m => rfl⟩ (fun i σ H' hi hP => ?_) (fun σ H' hP => ?_)
    · obtain ⟨sm, p, t, v3, v4, v5, rfl, hpn, hp', hcan, htl, hc⟩ := hP
      have hi' : i < ns.length := by omega
      refine ⟨.ref p, rfl, .int (0 + (i : Int)), rfl, _, rfl, by omega, by omega, fun D1 nD1 => ?_⟩
      refine lc_relR (n := (0 + (i : Int)).toNat) (fun j y => y = .int 0) nD1 (small' (by omega)) (fun j H' Q' hj sm hq => hq _ rfl) (fun H1 ys1 s1 hy1 hn1 hr1 => ?_)
      have e1 := ints_of (fun _ => 0) hn1 hr1
      rw [zeros_of, show (0 + (i : Int)).toNat = i by omega] at e1
      have sm1 := sm.trans s1
      refine ⟨.ref b, rfl, b, rfl, ⟨_, (hb.same sm1).sq⟩, fun D2 nD2 => ?_⟩
      refine lc_rel (a := b) (xs := ms.map V.int) (fun j y => y = .int (cf ns i * cf ms j)) nD2 (hb.same sm1).sq (by rw [List.length_map]; exact small' (by omega)) (fun j x H2 Q' hx s2 hq => ?_) (fun H2 ys2 s2 hy2 hn2 hr2 => ?_)
      · obtain ⟨hj, rfl⟩ := map_get hx
        exact ⟨.ref a, rfl, .int (0 + (i : Int)), rfl, a, _, _, _, rfl, rfl, ((ha.same sm1).same s2).sq, at_map' (m := i) (by omega) hi', _, rfl, _, _, rfl, rfl, wide200 (ba i) (bb j), hq _ rfl⟩
      rw [List.length_map] at hn2
      have e2 := ints_of (fun j => cf ns i * cf ms j) hn2 hr2
      rw [scale_range] at e2
      have sm2 := sm1.trans s2
      refine ⟨.ref a, rfl, .int (0 + (i : Int)), rfl, a, _, _, _, rfl, rfl, (ha.same sm2).sq, at_map' (m := i) (by omega) hi', rfl, .inr ⟨_, rfl, ?_⟩⟩
      have ek : (!decide (V.int (cf ns i) = V.int 0)) = decide (cf ns i ≠ 0) := by
        by_cases h0 : cf ns i = 0
        · rw [h0]; rfl
        · rw [decide_eq_false (fun z => h0 (V.int.inj z)), decide_eq_true h0]; rfl
      rw [ek]
      refine ⟨D2, _, _, rfl, rfl, hy2, by split <;> decide, by split <;> decide, ?_, fun D3 nD3 => ?_⟩
      · rw [hn2]
        refine small (Nat.le_trans (Nat.mul_le_mul_left _ (show _ ≤ 1 by split <;> decide)) (by omega))
      have s3 := s2.trans (same_upd (o := .lst (List.replicate (if decide (cf ns i ≠ 0) then (1 : Int) else 0).toNat ys2).flatten) nD3)
      have e3 : (List.replicate (if decide (cf ns i ≠ 0) then (1 : Int) else 0).toNat ys2).flatten = (if cf ns i ≠ 0 then ms.map (cf ns i * ·) else []).map V.int := by
        rw [rep_flat, e2]
        by_cases h0 : cf ns i = 0
        · rw [h0]; rfl
        · rw [decide_eq_true h0, if_pos h0]; rfl
      have l3 : (if cf ns i ≠ 0 then ms.map (cf ns i * ·) else []).length ≤ ms.length := by
        split
        · simp
        · exact Nat.zero_le _
      have hD1 := s3 _ _ hy1
      rw [e3] at hD1 s3 ⊢
      refine ⟨D1, D3, _, _, rfl, rfl, hD1, upd_same, ?_, fun D4 nD4 => ?_⟩
      · rw [List.length_map, hn1]
        exact small (by omega)
      have s4 := s3.trans (same_upd (o := .lst (ys1 ++ (if cf ns i ≠ 0 then ms.map (cf ns i * ·) else []).map V.int)) nD4)
      have e4 : ys1 ++ (if cf ns i ≠ 0 then ms.map (cf ns i * ·) else []).map V.int = (List.replicate i 0 ++ if cf ns i ≠ 0 then ms.map (cf ns i * ·) else []).map V.int := by
        rw [e1, List.map_append]
      have smF : Same H' _ := s1.trans s4
      refine ⟨p, D4, t, _, rfl, hp'.same smF, by show upd _ _ _ _ = _; rw [upd_same, e4], by omega, by rw [List.length_append, List.length_replicate]; omega, fun H5 r s5 hr5 hi5 => ?_⟩
      refine ⟨(sm.trans smF).trans s5, r, _, _, _, _, rfl, (sm.trans smF).free hr5, hi5, can_padd _ _, ?_, fun m => conv_turn hc m⟩
      have := padd_len t (List.replicate i 0 ++ if cf ns i ≠ 0 then ms.map (cf ns i * ·) else [])
      rw [List.length_append, List.length_replicate] at this
      omega
    · obtain ⟨sm, p, t, v3, v4, v5, rfl, hpn, hp', hcan, htl, hc⟩ := hP
      rw [Int.toNat_natCast] at hc
      refine ⟨_, rfl, q _ p sm hpn ?_⟩
      rw [show pmul ns ms = t from can_ext (can_pmul _ _) hcan fun m => by rw [cf_pmul, hc]]
      exact hp'

theorem pval_drop (x : Int) {ns : List Int} {i : Nat} (h : i < ns.length) : pval x (ns.drop i) = pval x (ns.drop (i + 1)) * x + cf ns i := by
  rw [List.drop_eq_getElem_cons h, ← cf_lt h]
  rfl
def sp_law_value : Sp := fun vs H Q _ => ∃ (a : Addr) (ns : List Int) (x : Int), vs = [.ref a, .int x] ∧ IL H a ns ∧ ns.length ≤ 400 ∧ Bd ns ∧ x.natAbs ≤ 1000 ∧ Q (.int (pval x ns)) H
theorem ok_law_value (T : Txt K mg) : FnOk P w K mg base CX0 1 T.law_value.a T.law_value.fd ["one", "at"] sp_law_value := by
  refine T.law_value.F.ok sc_law_value (fun vs H Q E h => ?_) (fun cdv A outer s H vs Q E hr h => ?_)
  · obtain ⟨a, ns, x, rfl, _⟩ := h
    rfl
  · obtain ⟨a, ns, x, rfl, ha, hl, hb, hx, q⟩ := h
    refine ⟨_, (pss_cons (ps_set (i := 2) sc_law_value.nd rfl (.inl rfl) pe_int)
      (pss_cons (ps_set (i := 3) sc_law_value.nd rfl (.inl rfl) pe_int)
      (pss_cons (ps_for PassesOwn.never rfl (pi_list (pv 0)) (pg_name (i := 4) sc_law_value.nd rfl (.inl rfl))
        (pss_cons (ps_set (i := 2) sc_law_value.nd rfl (.inl rfl) (pe_op op_add (pv 2) (pe_op op_mulW (pv 4) (pv 3))))
        (pss_one (ps_set (i := 3) sc_law_value.nd rfl (.inl rfl) (pe_op op_mulW (pv 3) (pv 1))))))
      (pss_one (ps_ret (pv 2)))))), ?_⟩
    refine ⟨.ref a, rfl, a, rfl, ⟨_, ha.sq⟩, ?_⟩
    refine for_list (xs := ns.map V.int) (fun i σ H' => H' = H ∧ ∃ t v4, σ = [some (.ref a), some (.int x), some (.int t), some (.int (x ^ i)), v4] ∧ t + x ^ i * pval x (ns.drop i) = pval x ns) ⟨rfl, 0, none, by rw [Int.pow_zero]; rfl, ?_⟩ (fun i σ H' _ p => by rw [p.1]; exact ha.sq) (fun i v σ H' hv hP => ?_) (fun σ H' hP => ?_)
    · rw [Int.pow_zero, List.drop_zero]; omega
    · obtain ⟨rfl, t, v4, rfl, ht⟩ := hP
      obtain ⟨hi, rfl⟩ := map_get hv
      have pb := pow_bound hx i
      refine ⟨_, rfl, _, rfl, _, rfl, _, _, rfl, rfl, wide_mul (hb i) pb (by decide) (by omega) (by omega), _, _, rfl, rfl, _, rfl, _, rfl, _, _, rfl, rfl, wide_mul (b := 10) pb (by omega) (by omega) (by decide) (by omega), rfl, t + cf ns i * x ^ i, some (.int (cf ns i)), ?_, ?_⟩
      · rw [Int.pow_succ]; rfl
      · rw [← ht, pval_drop x hi, Int.pow_succ, Int.mul_add, Int.mul_comm (cf ns i) (x ^ i), Int.mul_assoc, Int.mul_comm x]
        omega
    · obtain ⟨rfl, t, v4, rfl, ht⟩ := hP
      rw [List.length_map, List.drop_length] at ht
      refine ⟨_, rfl, ?_⟩
      have e : pval x ns = t := by rw [← ht]; show t + _ * 0 = t; omega
      rw [e] at q
      exact q
end
-- N01
set_option exponentiation.threshold 500
def GS (n : Nat) (s : Str) : Prop := s.length ≤ n ∧ ∀ c ∈ s.cps.toList, c < 200
/-! ### data and their texts -/
/-- may be shown and compared; a text of at most n signs -/
structure Gd (k n : Nat) (d : PyData) : Prop where
  sh : d.showable = true
  lay : d.canLay0 = true
  dep : d.depth ≤ k
  len : d.shown.length ≤ n
def tot (ts : List Str) : Nat := (ts.map fun t => t.length + 2).sum
theorem textFrom_tot : ∀ (ts : List Str) (k : Nat) (acc : Str), (textFrom k acc ts).length ≤ acc.length + tot ts
  | [], k, acc => Nat.le_add_right _ _
  | t :: r, k, acc => by
    have h := textFrom_tot r (k + 1) (acc ++ (if k > 0 then ", " else "" : String) ++ t)
    rw [Str.length_append, Str.length_append] at h
    have e : ((if k > 0 then ", " else "" : String) : Str).length ≤ 2 := by split <;> decide +kernel
    show (textFrom (k + 1) (acc ++ (if k > 0 then ", " else "" : String) ++ t) r).length ≤ _
    have e2 : tot (t :: r) = t.length + 2 + tot r := by unfold tot; rw [List.map_cons, List.sum_cons]
    omega
theorem join_tot : ∀ ts : List Str, (Str.join ", " ts).length ≤ tot ts
  | [] => Nat.zero_le _
  | [x] => by show x.length ≤ _; unfold tot; simp
  | x :: y :: r => by
    have h := join_tot (y :: r)
    show (x ++ ", " ++ Str.join ", " (y :: r)).length ≤ _
    rw [Str.length_append, Str.length_append]
    have e2 : tot (x :: y :: r) = x.length + 2 + tot (y :: r) := by unfold tot; rw [List.map_cons, List.sum_cons]
    have e3 : ((", " : String) : Str).length = 2 := rfl
    omega
/-- all of them, with all their texts together -/
inductive GdAll (k : Nat) : Nat → List PyData → Prop
  | nil : GdAll k 0 []
  | cons {n m : Nat} {d : PyData} {ds : List PyData} : Gd k n d → GdAll k m ds → GdAll k (n + 2 + m) (d :: ds)
theorem GdAll.facts {k : Nat} : ∀ {n : Nat} {ds : List PyData}, GdAll k n ds → PyData.showableAll ds = true ∧ PyData.canLayAll0 ds = true ∧ PyData.depthAll ds ≤ k ∧ tot (PyData.shownAll ds) ≤ n
  | _, _, .nil => ⟨rfl, rfl, Nat.zero_le _, Nat.le_refl _⟩
  | _, _, .cons (d := d) (ds := ds) h t => by
    obtain ⟨h1, h2, h3, h4⟩ := t.facts
    refine ⟨?_, ?_, ?_, ?_⟩
    · show (PyData.showable d && PyData.showableAll ds) = true
      rw [h.sh, h1]; rfl
    · show (PyData.canLay0 d && PyData.canLayAll0 ds) = true
      rw [h.lay, h2]; rfl
    · show max (PyData.depth d) (PyData.depthAll ds) ≤ k
      exact Nat.max_le.mpr ⟨h.dep, h3⟩
    · show tot (PyData.shown d :: PyData.shownAll ds) ≤ _
      unfold tot at h4 ⊢
      rw [List.map_cons, List.sum_cons]
      have := h.len
      omega
theorem GdAll.map {α : Type} {k n : Nat} {f : α → PyData} : ∀ {xs : List α}, (∀ x ∈ xs, Gd k n (f x)) → GdAll k (xs.length * (n + 2)) (xs.map f)
  | [], _ => by rw [List.length_nil, Nat.zero_mul]; exact .nil
  | x :: r, h => by
    rw [List.length_cons, Nat.succ_mul, Nat.add_comm]
    exact .cons (h x List.mem_cons_self) (GdAll.map fun y hy => h y (List.mem_cons_of_mem _ hy))
theorem Gd.list {k n : Nat} {ds : List PyData} (h : GdAll k n ds) : Gd (k + 1) (n + 2) (.list ds) := by
  obtain ⟨h1, h2, h3, h4⟩ := h.facts
  refine ⟨h1, h2, Nat.succ_le_succ h3, ?_⟩
  show (listText (PyData.shownAll ds)).length ≤ _
  unfold listText
  rw [Str.length_append]
  have := textFrom_tot (PyData.shownAll ds) 0 "["
  have e1 : (("[" : String) : Str).length = 1 := rfl
  have e2 : (("]" : String) : Str).length = 1 := rfl
  omega
theorem Gd.tup {k n : Nat} {ds : List PyData} (h : GdAll k n ds) : Gd (k + 1) (n + 3) (.tuple ds) := by
  obtain ⟨h1, h2, h3, h4⟩ := h.facts
  refine ⟨h1, h2, Nat.succ_le_succ h3, ?_⟩
  show (tupleText (PyData.shownAll ds)).length ≤ _
  unfold tupleText
  rw [Str.length_append, Str.length_append]
  have := join_tot (PyData.shownAll ds)
  have e1 : (("(" : String) : Str).length = 1 := rfl
  have e2 : ((if (PyData.shownAll ds).length == 1 then ",)" else ")" : String) : Str).length ≤ 2 := by split <;> decide +kernel
  omega
theorem Gd.mono {k l n m : Nat} {d : PyData} (h : Gd k n d) (a : k ≤ l) (b : n ≤ m) : Gd l m d := ⟨h.sh, h.lay, Nat.le_trans h.dep a, Nat.le_trans h.len b⟩
theorem log_le {n : Nat} (h : n < 2 ^ 400) : n.log2 < 1920 := by
  rcases Nat.eq_zero_or_pos n with rfl | p
  · decide
  · exact Nat.lt_trans ((Nat.log2_lt (by omega)).mpr h) (by decide)
theorem Gd.int {i : Int} (h : i.natAbs < 2 ^ 400) : Gd 0 130 (.int i) := by
  refine ⟨decide_eq_true (log_le h), rfl, Nat.le_refl _, ?_⟩
  show (Str.ofString (toString i)).length ≤ 130
  rw [PySem.ofString_length]
  exact Nat.le_trans (int_text_length_le10 (k := 122) (by decide) (Nat.lt_of_lt_of_le h (by decide))) (by decide)
def dI (ns : List Int) : PyData := .list (ns.map PyData.int)
theorem ints_lay : ∀ ns : List Int, PyData.canLayAll0 (ns.map PyData.int) = true ∧ PyData.depthAll (ns.map PyData.int) = 0
  | [] => ⟨rfl, rfl⟩
  | n :: r => by
    obtain ⟨a, b⟩ := ints_lay r
    refine ⟨?_, ?_⟩
    · show (PyData.canLay0 (.int n) && PyData.canLayAll0 (r.map PyData.int)) = true
      rw [a]; rfl
    · show max (PyData.depth (.int n)) (PyData.depthAll (r.map PyData.int)) = 0
      rw [b]; rfl
theorem lay_dI (ns : List Int) : (dI ns).canLay0 = true := (ints_lay ns).1
theorem dep_dI (ns : List Int) : (dI ns).depth = 1 := by
  show PyData.depthAll (ns.map PyData.int) + 1 = 1
  rw [(ints_lay ns).2]
theorem shaped_dI (ns : List Int) : SeqAt.shaped (dI ns) = true := by
  unfold SeqAt.shaped
  rw [lay_dI, dep_dI]; rfl
theorem eqv_nil (ns : List Int) : PyData.eqv (dI ns) (.list []) = decide (ns = []) := by
  cases ns <;> simp [dI, PyData.eqv, PyData.eqvAll]
theorem dp_ints {K : PySem.W.Frag} {H : Hp} : ∀ ns : List Int, DpAll K H (ns.map V.int) (ns.map PyData.int)
  | [] => .nil
  | n :: r => .cons (.int n) (dp_ints r)
theorem dpI {K : PySem.W.Frag} {H : Hp} {a : Addr} {ns : List Int} (h : SqL K H a (ns.map V.int)) : Dp K H (.ref a) (dI ns) := .lst h (dp_ints ns)
theorem layAll_map {α : Type} {f : α → PyData} (h : ∀ x, (f x).canLay0 = true) : ∀ xs : List α, PyData.canLayAll0 (xs.map f) = true
  | [] => rfl
  | x :: r => by
    show (PyData.canLay0 (f x) && PyData.canLayAll0 (r.map f)) = true
    rw [h, layAll_map h r]; rfl
theorem depAll_map {α : Type} {f : α → PyData} {k : Nat} (h : ∀ x, (f x).depth ≤ k) : ∀ xs : List α, PyData.depthAll (xs.map f) ≤ k
  | [] => Nat.zero_le _
  | x :: r => by
    show max (PyData.depth (f x)) (PyData.depthAll (r.map f)) ≤ k
    exact Nat.max_le.mpr ⟨h x, depAll_map h r⟩
def dEls (els : List (List Int)) : PyData := .list (els.map dI)
theorem lay_els (els : List (List Int)) : (dEls els).canLay0 = true := layAll_map lay_dI els
theorem dep_els (els : List (List Int)) : (dEls els).depth ≤ 2 := Nat.succ_le_succ (depAll_map (fun x => Nat.le_of_eq (dep_dI x)) els)
def dTb (tab : Tb) : PyData := .list (tab.map dEls)
theorem lay_tb (tab : Tb) : (dTb tab).canLay0 = true := layAll_map lay_els tab
theorem dep_tb (tab : Tb) : (dTb tab).depth ≤ 3 := Nat.succ_le_succ (depAll_map dep_els tab)
theorem shaped_tb (tab : Tb) : SeqAt.shaped (dTb tab) = true := by
  unfold SeqAt.shaped
  rw [lay_tb, decide_eq_true (Nat.le_trans (dep_tb tab) (by decide) : (dTb tab).depth ≤ 64)]; rfl
theorem shaped_els (els : List (List Int)) : SeqAt.shaped (dEls els) = true := by
  unfold SeqAt.shaped
  rw [lay_els, decide_eq_true (Nat.le_trans (dep_els els) (by decide) : (dEls els).depth ≤ 64)]; rfl
theorem dp_els {K : PySem.W.Frag} {H : Hp} : ∀ {as : List Addr} {els : List (List Int)}, A2 (IL H) as els → DpAll K H (as.map V.ref) (els.map dI)
  | _, _, .nil => .nil
  | _, _, .cons h t => .cons (dpI h.sq) (dp_els t)
theorem dp_rowL {K : PySem.W.Frag} {H : Hp} {a : Addr} {row : List (List Int)} (h : RowL H a row) : Dp K H (.ref a) (dEls row) := let ⟨as, ha, hA⟩ := h; .lst (.of ha) (dp_els hA)
theorem dp_tab {K : PySem.W.Frag} {H : Hp} : ∀ {as : List Addr} {tab : Tb}, A2 (RowL H) as tab → DpAll K H (as.map V.ref) (tab.map dEls)
  | _, _, .nil => .nil
  | _, _, .cons h t => .cons (dp_rowL h) (dp_tab t)
theorem dp_tb {K : PySem.W.Frag} {H : Hp} {p : Addr} {tab : Tb} (h : TbR H p tab) : Dp K H (.ref p) (dTb tab) := let ⟨as, ha, hA⟩ := h; .lst (.of ha) (dp_tab hA)
theorem eqv_nilG {α : Type} (f : α → PyData) (xs : List α) : PyData.eqv (.list (xs.map f)) (.list []) = decide (xs = []) := by
  cases xs <;> simp [PyData.eqv, PyData.eqvAll]
theorem eqv_ints : ∀ ns ms : List Int, PyData.eqvAll (ns.map PyData.int) (ms.map PyData.int) = decide (ns = ms)
  | [], [] => rfl
  | [], _ :: _ => rfl
  | _ :: _, [] => rfl
  | n :: r, m :: q => by
    show (PyData.eqv (.int n) (.int m) && PyData.eqvAll (r.map PyData.int) (q.map PyData.int)) = _
    rw [eqv_ints r q]
    show (n == m && decide (r = q)) = decide (n :: r = m :: q)
    by_cases h1 : n = m
    · by_cases h2 : r = q
      · simp [h1, h2]
      · simp [h1, h2]
    · simp [h1]
theorem eqv_dI (ns ms : List Int) : PyData.eqv (dI ns) (dI ms) = decide (ns = ms) := by
  show PyData.eqvAll _ _ = _
  exact eqv_ints ns ms
-- M01
/-- the table is this number times the one -/
def Good (tab : Tb) (c : Int) : Prop := (tab = [] ∧ c = 1) ∨ (tab ≠ [] ∧ c ≠ 0 ∧ (∀ r ∈ tab, r.length = tab.length) ∧ ∀ (i : Nat) (r : List (List Int)), tab[i]? = some r → ∀ (j : Nat) (e : List Int), r[j]? = some e → e = if i = j then [c] else [])
def MRes (tab : Tb) (v : V) : Prop := (∃ c, v = .int c ∧ Good tab c) ∨ (v = .non ∧ ∀ c, ¬ Good tab c)
theorem Good.one {tab : Tb} {c d : Int} (h : Good tab c) (k : Good tab d) : c = d := by
  rcases h with ⟨h1, h2⟩ | ⟨h1, h2, h3, h4⟩
  · rcases k with ⟨_, k2⟩ | ⟨k1, _⟩
    · omega
    · exact absurd h1 k1
  · rcases k with ⟨k1, _⟩ | ⟨k1, k2, k3, k4⟩
    · exact absurd k1 h1
    · cases tab with
      | nil => exact absurd rfl h1
      | cons r t =>
        have lr := h3 r List.mem_cons_self
        cases r with
        | nil => simp at lr
        | cons e r =>
          have a := h4 0 (e :: r) rfl 0 e rfl
          have b := k4 0 (e :: r) rfl 0 e rfl
          rw [if_pos rfl] at a b
          rw [a] at b
          injection b
theorem MRes.eq {tab : Tb} {u v : V} (h : MRes tab u) (k : MRes tab v) : u = v := by
  rcases h with ⟨c, rfl, h⟩ | ⟨rfl, h⟩ <;> rcases k with ⟨d, rfl, k⟩ | ⟨rfl, k⟩
  · rw [h.one k]
  · exact absurd h (k c)
  · exact absurd k (h d)
  · rfl
section
variable {P : Program} {w : World} {K : PySem.W.Frag} {mg : Str → Option Value} {base : Heap}
def sp_multiple_of (K : PySem.W.Frag) (P : Addr) : Sp := fun vs H Q _ => ∃ (a : Addr) (tab : Tb), vs = [.ref a] ∧ TbR H a tab ∧ tab.length ≤ 16 ∧ (∀ r ∈ tab, r.length ≤ 16) ∧ GxR.TabG H P ∧ ∀ H' v, LkN H H' → GxR.TabG H' P → MRes tab v → Q v H'
theorem ok_multiple_of (T : Txt K mg) {P2 : Addr} (TB : GxR.TabB base mg T.is_square.c P2) : FnOk P w K mg base CX0 2 T.multiple_of.a T.multiple_of.fd ["table"] (sp_multiple_of K P2) := by
  refine T.multiple_of.F.ok sc_multiple_of (fun vs H Q E h => ?_) (fun cdv A outer s H vs Q E hr h => ?_)
  · obtain ⟨a, tab, rfl, _⟩ := h
    rfl
  · obtain ⟨a, tab, rfl, htab, l16, r16, tb, q⟩ := h
    obtain ⟨as, htl, hA⟩ := htab
    have las := hA.len
    refine ⟨_, (pss_cons (ps_if (pt_not (pt_val (pe_call (ok_is_square T TB) (hr.mono (by decide)) (by rfl) T.is_square.g T.is_square.kp T.is_square.b .nil pass0 (pa_cons (pv 0) pa_nil))))
        (pss_one (ps_ret pe_non))
        pss_nil)
      (pss_cons (ps_if (pt_cmpR (op_eqD hr.units) (pv 0) (pe_lst pa_nil) (nomark _))
        (pss_one (ps_ret pe_int))
        pss_nil)
      (pss_cons (ps_set (i := 1) sc_multiple_of.nd rfl (.inl rfl) (pe_ix ix_list (pe_ix ix_list (pv 0) pe_int (fun _ _ => rfl)) pe_int (fun _ _ => rfl)))
      (pss_cons (ps_if (PW.pt (pw_or (pt_cmpR op_ne (pe_callB call_len_seq (by rfl) T.m_len (by decide +kernel) (pa_cons (pv 1) pa_nil)) pe_int (nomark _)) (pw_or1 (pt_cmpR op_eq (pe_ix ix_list (pv 1) pe_int (fun _ _ => rfl)) pe_int (nomark _)))))
        (pss_one (ps_ret pe_non))
        pss_nil)
      (pss_cons (ps_for PassesOwn.never rfl (pi_enum (by rfl) T.m_enumerate (pa_cons (pv 0) pa_nil)) (pg_tup rfl (pgs_cons (pg_name (i := 2) sc_multiple_of.nd rfl (.inl rfl)) (pgs_cons (pg_name (i := 3) sc_multiple_of.nd rfl (.inl rfl)) pgs_nil)))
        (pss_one (ps_for PassesOwn.never rfl (pi_enum (by rfl) T.m_enumerate (pa_cons (pv 3) pa_nil)) (pg_tup rfl (pgs_cons (pg_name (i := 4) sc_multiple_of.nd rfl (.inl rfl)) (pgs_cons (pg_name (i := 5) sc_multiple_of.nd rfl (.inl rfl)) pgs_nil)))
          (pss_one (ps_if (pt_cmpR (op_neD hr.units) (pv 5) (pe_ifExp (pt_cmpR op_eq (pv 2) (pv 4) (nomark _)) (pv 1) (pe_lst pa_nil)) (nomark _))
            (pss_one (ps_ret pe_non))
            pss_nil)))))
      (pss_one (ps_ret (pe_ix ix_list (pv 1) pe_int (fun _ _ => rfl))))))))), ?_⟩
    refine ⟨.ref a, rfl, a, as, tab.map List.length, rfl, .of htl, TbR.wd (as := as) hA, tb, fun b H1 hb k1 tb1 => ?_⟩
    have htl1 := k1.1.lst htl
    have hA1 : A2 (RowL H1) as tab := hA.mono fun _ _ z => z.lk k1.1
    have hsq : b = true ↔ ∀ r ∈ tab, r.length = tab.length := by
      rw [hb, List.length_map]
      exact ⟨fun h r hr => h _ (List.mem_map.mpr ⟨r, hr, rfl⟩), fun h l hl => let ⟨r, hr, e⟩ := List.mem_map.mp hl; e ▸ h r hr⟩
    cases b with
    | false =>
      refine ⟨_, rfl, iteT (q H1 _ k1 tb1 (.inr ⟨rfl, fun c hc => ?_⟩))⟩
      refine absurd (hsq.mpr ?_) (by decide)
      rcases hc with ⟨h1, _⟩ | ⟨_, _, h3, _⟩
      · rw [h1]; exact fun r hr => by cases hr
      · exact h3
    | true =>
      have sq := hsq.mp rfl
      refine ⟨_, rfl, iteF ⟨.ref a, rfl, by show 0 ≤ sizeLine; decide, fun l nl => ?_⟩⟩
      have s2 := same_upd nl (o := .lst [])
      have hA2 : A2 (RowL (upd H1 l (.lst []))) as tab := hA1.mono fun _ _ z => RowL.same z s2
      have htl2 := s2 _ _ htl1
      have k2 := k1.trans (lkN s2)
      have tb2 := tabG_same tb1 s2
      refine ⟨dTb tab, .list [], dp_tb ⟨as, htl2, hA2⟩, .lst (.of upd_same) .nil, shaped_tb tab, rfl, _, rfl, ?_⟩
      rw [show PyData.eqv (dTb tab) (.list []) = decide (tab = []) from eqv_nilG _ _]
      generalize upd H1 l (.lst []) = H2 at s2 hA2 htl2 k2 tb2
      by_cases te : tab = []
      · rw [decide_eq_true te]
        exact iteT (q _ _ k2 tb2 (.inl ⟨1, rfl, .inl ⟨te, rfl⟩⟩))
      · rw [decide_eq_false te]
        refine iteF ?_
        have lpos : 0 < tab.length := List.length_pos_iff.mpr te
        obtain ⟨r0, hr0⟩ := some_at (xs := tab) (i := 0) lpos
        obtain ⟨ra, hra, ras, hral0, hE0⟩ := hA.get' hr0
        have hral := k2.1.lst hral0
        have lr0 := sq r0 (mem_at hr0)
        obtain ⟨c0, hc0⟩ := some_at (xs := r0) (i := 0) (by omega)
        obtain ⟨ca, hca, hC0⟩ := hE0.get' hc0
        have hC : IL H2 ca c0 := hC0.lk k2.1
        refine ⟨.ref a, rfl, a, _, _, _, rfl, rfl, .of htl2, atI_nat (j := 0) (by rw [List.getElem?_map, hra]; rfl), ra, _, _, _, rfl, rfl, .of hral, atI_nat (j := 0) (by rw [List.getElem?_map, hca]; rfl), ?_⟩
        have cE : ∀ c, Good tab c → c0 = [c] := fun c hc => by
          rcases hc with ⟨h1, _⟩ | ⟨_, _, _, h4⟩
          · exact absurd h1 te
          · have := h4 0 r0 hr0 0 c0 hc0
            rw [if_pos rfl] at this
            exact this
        refine ⟨.ref ca, rfl, ca, _, rfl, .inl hC.sq, rfl, _, rfl, ?_⟩
        rw [List.length_map]
        refine ite2 (fun h => ?_) (fun h => ?_)
        · refine iteT (q _ _ k2 tb2 (.inr ⟨rfl, fun c hc => ?_⟩))
          rw [cE c hc] at h
          cases h
        · have lc : c0.length = 1 := by
            by_cases z : c0.length = 1
            · exact z
            · exact absurd (by rw [Bool.not_eq_true']; exact decide_eq_false fun y => z (by have := V.int.inj y; omega)) h
          obtain ⟨n, rfl⟩ : ∃ n, c0 = [n] := by
            cases c0 with
            | nil => simp at lc
            | cons n t => cases t with
              | nil => exact ⟨n, rfl⟩
              | cons m t => simp at lc
          refine ⟨.ref ca, rfl, ca, _, _, _, rfl, rfl, hC.sq, at_map' (m := 0) rfl Nat.one_pos, rfl, _, rfl, ?_⟩
          refine ite2 (fun h => q _ _ k2 tb2 (.inr ⟨rfl, fun c hc => ?_⟩)) (fun h => ?_)
          · have e := cE c hc
            have n0 : n = 0 := V.int.inj (of_decide_eq_true h)
            rcases hc with ⟨h1, _⟩ | ⟨_, h2, _⟩
            · exact te h1
            · injection e with e
              omega
          · have n0 : n ≠ 0 := fun z => h (decide_eq_true (congrArg V.int z))
            refine ⟨.ref a, rfl, a, _, rfl, .of htl2, ?_⟩
            refine for_it (walk_enum (xs := as.map V.ref)) (fun i σ G => LkN H G ∧ GxR.TabG G P2 ∧ (∃ (v2 v3 v4 v5 : Option V), σ = [some (.ref a), some (.ref ca), v2, v3, v4, v5]) ∧ ∀ (i' : Nat) (r : List (List Int)), i' < i → tab[i']? = some r → ∀ (j : Nat) (e : List Int), r[j]? = some e → e = if i' = j then [n] else []) ⟨k2, tb2, ⟨none, none, none, none, rfl⟩, fun _ _ h => absurd h (Nat.not_lt_zero _)⟩ (fun i σ G _ hP => .of (hP.1.1.lst htl)) (fun i x σ G Gx hi hP y => ?_) (fun σ G hP => ?_)
            · obtain ⟨kG, tG, ⟨v2, v3, v4, v5, rfl⟩, hrow⟩ := hP
              obtain ⟨T', i', x', rfl, nT, rfl, ei, hx'⟩ := y
              obtain rfl := Option.some.inj ei
              obtain ⟨rr, hrr, rfl⟩ := row_ref hx'
              obtain ⟨r, hr2, hRow⟩ := hA.get hrr
              obtain ⟨ras2, hral2, hE2⟩ := hRow
              have lr2 := sq r (mem_at hr2)
              have lra2 := hE2.len
              have s3 := same_upd nT (o := .tup [V.int (i : Nat), .ref rr])
              have k3 := kG.trans (lkN s3)
              refine ⟨T', _, rfl, .of upd_same, rfl, _, _, rfl, _, _, rfl, rfl, ?_⟩
              refine ⟨.ref rr, rfl, rr, _, rfl, .of (k3.1.lst hral2), ?_⟩
              refine for_it (walk_enum (xs := ras2.map V.ref)) (fun j σ G => LkN H G ∧ GxR.TabG G P2 ∧ (∃ (v4 v5 : Option V), σ = [some (.ref a), some (.ref ca), some (.int (i : Nat)), some (.ref rr), v4, v5]) ∧ ∀ (j' : Nat) (e : List Int), j' < j → r[j']? = some e → e = if i = j' then [n] else []) ⟨k3, tabG_same tG s3, ⟨v4, v5, rfl⟩, fun _ _ h => absurd h (Nat.not_lt_zero _)⟩ (fun j σ G _ hP => .of (hP.1.1.lst hral2)) (fun j x σ G Gx hj hP y => ?_) (fun σ G hP => ?_)
              · obtain ⟨kG, tG, ⟨v4, v5, rfl⟩, hel⟩ := hP
                obtain ⟨T2, j', x', rfl, nT2, rfl, ej, hx2⟩ := y
                obtain rfl := Option.some.inj ej
                obtain ⟨ea, hea, rfl⟩ := row_ref hx2
                obtain ⟨e, he, hI⟩ := hE2.get hea
                have s4 := same_upd nT2 (o := .tup [V.int (j : Nat), .ref ea])
                have k4 := kG.trans (lkN s4)
                have t4 := tabG_same tG s4
                refine ⟨T2, _, rfl, .of upd_same, rfl, _, _, rfl, _, _, rfl, rfl, ?_⟩
                have hI4 : IL (upd G T2 (.tup [V.int (j : Nat), .ref ea])) ea e := hI.lk k4.1
                refine ⟨.ref ea, rfl, _, rfl, _, rfl, rfl, _, rfl, ?_⟩
                have nG : e ≠ (if i = j then [n] else []) → ∀ c, ¬ Good tab c := fun ne c hc => by
                  have e0 := cE c hc
                  injection e0 with e0
                  rcases hc with ⟨h1, _⟩ | ⟨_, _, _, h4⟩
                  · exact te h1
                  · exact ne (by rw [e0]; exact h4 i r hr2 j e he)
                have ok2 : e = (if i = j then [n] else []) → ∀ (j' : Nat) (e : List Int), j' < j + 1 → r[j']? = some e → e = if i = j' then [n] else [] := fun ee j' e' hj' he' => by
                  rcases Nat.lt_or_ge j' j with z | z
                  · exact hel j' e' z he'
                  · obtain rfl : j' = j := by omega
                    rw [he] at he'
                    cases he'
                    exact ee
                have hC4 : IL (upd G T2 (.tup [V.int (j : Nat), .ref ea])) ca [n] := hC0.lk k4.1
                show (if decide (V.int ((i : Nat) : Int) = V.int ((j : Nat) : Int)) = true then _ else _)
                by_cases z : i = j
                · rw [decide_eq_true (by rw [z])]
                  refine iteT ⟨.ref ca, rfl, dI e, dI [n], dpI hI4.sq, dpI hC4.sq, shaped_dI e, shaped_dI _, _, rfl, ?_⟩
                  rw [eqv_dI]
                  rw [if_pos z] at nG ok2
                  by_cases ee : e = [n]
                  · rw [decide_eq_true ee]
                    exact iteF ⟨k4, t4, ⟨_, _, rfl⟩, ok2 ee⟩
                  · rw [decide_eq_false ee]
                    exact iteT (q _ _ k4 t4 (.inr ⟨rfl, nG ee⟩))
                · rw [decide_eq_false (fun y => z (by have := V.int.inj y; omega))]
                  refine iteF ⟨by show 0 ≤ sizeLine; decide, fun l2 nl2 => ?_⟩
                  have s5 := same_upd nl2 (o := .lst [])
                  refine ⟨dI e, .list [], dpI (hI4.same s5).sq, .lst (.of upd_same) .nil, shaped_dI e, rfl, _, rfl, ?_⟩
                  rw [eqv_nil]
                  rw [if_neg z] at nG ok2
                  have k5 := k4.trans (lkN s5)
                  have t5 := tabG_same t4 s5
                  by_cases ee : e = []
                  · rw [decide_eq_true ee]
                    exact iteF ⟨k5, t5, ⟨_, _, rfl⟩, ok2 ee⟩
                  · rw [decide_eq_false ee]
                    exact iteT (q _ _ k5 t5 (.inr ⟨rfl, nG ee⟩))
              · obtain ⟨kG, tG, ⟨v4, v5, rfl⟩, hel⟩ := hP
                rw [List.length_map, lra2] at hel
                refine ⟨kG, tG, ⟨_, _, _, _, rfl⟩, fun i' r' hi' hr' j e he => ?_⟩
                rcases Nat.lt_or_ge i' i with z | z
                · exact hrow i' r' z hr' j e he
                · obtain rfl : i' = i := by omega
                  rw [hr2] at hr'
                  cases hr'
                  exact hel j e (List.getElem?_eq_some_iff.mp he).1 he
            · obtain ⟨kG, tG, ⟨v2, v3, v4, v5, rfl⟩, hrow⟩ := hP
              rw [List.length_map, las] at hrow
              refine ⟨.ref ca, rfl, ca, _, _, _, rfl, rfl, (hC0.lk kG.1).sq, at_map' (m := 0) (ns := [n]) rfl Nat.one_pos, q _ _ kG tG (.inl ⟨n, rfl, .inr ⟨te, n0, sq, fun i r hr2 j e he => hrow i r (List.getElem?_eq_some_iff.mp hr2).1 hr2 j e he⟩⟩)⟩
end
-- W01
def oneT (many : Nat) (n : Int) : Tb := (List.range many).map fun i => (List.range many).map fun j => if i = j then [n] else []
/-- a row of a new table -/
def RowN (D : Addr) (H0 H : Hp) (r : Addr) (row : List (List Int)) : Prop := r ≠ D ∧ H0 r = none ∧ ∃ es : List Addr, H r = some (.lst (es.map V.ref)) ∧ A2 (fun e ns => e ≠ D ∧ H0 e = none ∧ IL H e ns) es row
theorem RowN.up {D : Addr} {H0 H H' : Hp} {r : Addr} {row : List (List Int)} (s : SameX D H H') (h : RowN D H0 H r row) : RowN D H0 H' r row := let ⟨n, z, es, hr, hE⟩ := h; ⟨n, z, es, s _ _ n hr, hE.mono fun _ _ y => ⟨y.1, y.2.1, s _ _ y.1 y.2.2⟩⟩
/-- the rows of a new table, no two of them the same -/
def TabN (D : Addr) (H0 H : Hp) (ys : List V) (tab : Tb) : Prop := ∃ as : List Addr, ys = as.map V.ref ∧ as.Nodup ∧ A2 (RowN D H0 H) as tab
theorem TabN.nil {D : Addr} {H0 H : Hp} : TabN D H0 H [] [] := ⟨[], rfl, .nil, .nil⟩
theorem a2_memA {α : Type} {R : Addr → α → Prop} {xs : List Addr} {ys : List α} (h : A2 R xs ys) {v : Addr} (hv : v ∈ xs) : ∃ a ∈ ys, R v a := by
  induction h with
  | nil => cases hv
  | cons h _ ih =>
    rcases List.mem_cons.mp hv with rfl | hv
    · exact ⟨_, List.mem_cons_self, h⟩
    · obtain ⟨a, ha, z⟩ := ih hv
      exact ⟨a, List.mem_cons_of_mem _ ha, z⟩
theorem TabN.snoc {D D2 : Addr} {H0 Gx G2 : Hp} {ys : List V} {tab : Tb} {row : List (List Int)} {o : HO} (h : TabN D H0 Gx ys tab) (s0 : Same H0 Gx) (hD : Gx D ≠ none) (s : Same Gx G2) (nD2 : Gx D2 = none)
    (hr : ∃ es : List Addr, G2 D2 = some (.lst (es.map V.ref)) ∧ A2 (fun e ns => Gx e = none ∧ IL G2 e ns) es row) : TabN D H0 (upd G2 D o) (ys ++ [.ref D2]) (tab ++ [row]) := by
  obtain ⟨as, rfl, nd, hA⟩ := h
  have nDD : D2 ≠ D := fun z => hD (z ▸ nD2)
  obtain ⟨es, he, hE⟩ := hr
  refine ⟨as ++ [D2], by rw [List.map_append]; rfl, ?_, A2.snoc ⟨nDD, s0.free nD2, es, by rw [upd_ne nDD]; exact he, hE.mono fun e ns z => ⟨fun y => hD (y ▸ z.1), s0.free z.1, by unfold IL; rw [upd_ne (show e ≠ D from fun y => hD (y ▸ z.1))]; exact z.2⟩⟩ (hA.mono fun _ _ z => (z.up (sx s)).up SameX.put)⟩
  refine List.nodup_append.mpr ⟨nd, by simp, fun a ha b hb => ?_⟩
  obtain rfl := List.mem_singleton.mp hb
  obtain ⟨_, _, _, _, es2, hr2, _⟩ := a2_memA hA ha
  exact fun z => by rw [z, nD2] at hr2; cases hr2
/-- a new table -/
def TbF (H0 H : Hp) (p : Addr) (tab : Tb) : Prop := ∃ ys, H p = some (.lst ys) ∧ TabN p H0 H ys tab
theorem TbF.r {H0 H : Hp} {p : Addr} {tab : Tb} (h : TbF H0 H p tab) : TbR H p tab := let ⟨ys, hp, as, e, _, hA⟩ := h; ⟨as, by rw [hp, e], hA.mono fun _ _ z => let ⟨_, _, es, hr, hE⟩ := z; ⟨es, hr, hE.mono fun _ _ y => y.2.2⟩⟩
section
variable {P : Program} {w : World} {K : PySem.W.Frag} {mg : Str → Option Value} {base : Heap}
def sp_law_one : Sp := fun vs H Q _ => ∃ (many : Nat) (n : Int), vs = [.int (many : Nat), .int n] ∧ many ≤ 16 ∧ ∀ H' p, Same H H' → H p = none → TbF H H' p (oneT many n) → Q (.ref p) H'
theorem ok_law_one (T : Txt K mg) : FnOk P w K mg base CX0 1 T.law_one.a T.law_one.fd ["many", "number"] sp_law_one := by
  refine T.law_one.F.ok sc_law_one (fun vs H Q E h => ?_) (fun cdv A outer s H vs Q E hr h => ?_)
  · obtain ⟨many, n, rfl, _⟩ := h
    rfl
  · obtain ⟨many, n, rfl, hm, q⟩ := h
    refine ⟨_, (pss_one (ps_ret (pe_lc (own := [("i", 2)]) rfl sc_law_one.nd (pi_range1 (by rfl) T.m_range (pa_cons (pv 0) pa_nil)) (blkOk_by (N := ["many", "number", "i", "j"]) (sc := defScope s_law_one) (by decide +kernel)) (fun _ _ _ _ _ => (pg_name (i := 2) sc_law_one.nd rfl (.inr rfl))) (fun _ _ _ _ _ => pts_nil) (fun _ _ _ _ _ => (pe_lc (own := [("j", 3)]) rfl sc_law_one.nd (pi_range1 (by rfl) T.m_range (pa_cons (pv 0) pa_nil)) (blkOk_by (N := ["many", "number", "i", "j"]) (sc := { kind := .function, names := [(".0", .local), ("i", .cell), ("range", .globalImplicit), ("many", .cell), ("number", .cell)], isGenerator := false, isCoroutine := false, more := [] }) (by decide +kernel)) (fun _ _ _ _ _ => (pg_name (i := 3) sc_law_one.nd rfl (.inl rfl))) (fun _ _ _ _ _ => pts_nil) (fun _ _ _ _ _ => (pe_op op_rep (pe_lst (pa_cons (pv 1) pa_nil)) (pe_callTy call_int1 (by rfl) T.m_int (by decide +kernel) (pa_cons (pe_cmpR op_eq (pv 2) (pv 3) (nomark _)) pa_nil))))))))), ?_⟩
    refine ⟨_, rfl, (many : Nat), rfl, by omega, by omega, fun D nD => ?_⟩
    rw [Int.toNat_natCast]
    refine lc_inv (walk_range (lo := 0) (n := many)) (fun i G ys => TabN D H G ys ((List.range i).map fun i => (List.range many).map fun j => if i = j then [n] else [])) nD (fun _ _ => trivial) (small' (by omega)) .nil (fun i x G Gx ys hi sm hD hR y Qt Qf qt qf => ?_) (fun G ys sm hD hR => ?_)
    · obtain ⟨rfl, rfl⟩ := y
      refine ⟨rfl, _, rfl, (many : Nat), rfl, by omega, by omega, fun D2 nD2 => ?_⟩
      rw [Int.toNat_natCast]
      refine lc_inv (walk_range (lo := 0) (n := many)) (fun j G2 ys2 => ∃ es : List Addr, ys2 = es.map V.ref ∧ A2 (fun e ns => e ≠ D2 ∧ Gx e = none ∧ IL G2 e ns) es ((List.range j).map fun j => if i = j then [n] else [])) nD2 (fun _ _ => trivial) (small' (by omega)) ⟨[], rfl, .nil⟩ (fun j x2 G2 Gx2 ys2 hj sm2 hD2 hR2 y2 Qt2 Qf2 qt2 qf2 => ?_) (fun G2 ys2 sm2 hD2 hR2 => ?_)
      · obtain ⟨rfl, rfl⟩ := y2
        obtain ⟨es, rfl, hE⟩ := hR2
        refine ⟨rfl, _, rfl, by show 1 ≤ sizeLine; decide, fun l nl => ?_⟩
        have s3 := same_upd nl (o := .lst [.int n])
        refine ⟨_, rfl, _, rfl, rfl, .inr ⟨_, rfl, ?_⟩⟩
        have ei : decide (V.int (0 + (i : Int)) = V.int (0 + (j : Int))) = decide (i = j) := decide_eq_decide.mpr ⟨fun z => by have := V.int.inj z; omega, fun z => by rw [z]⟩
        refine ⟨l, (if decide (i = j) = true then (1 : Int) else 0), [.int n], rfl, by rw [← ei], upd_same, by split <;> decide, by split <;> decide, by split <;> exact small (by show 1 * _ ≤ 60000; decide), fun a na => ?_⟩
        rw [rep_flat]
        have s4 := same_upd na (o := .lst (if decide (i = j) = true then [V.int n] else []))
        have s34 := s3.trans s4
        have aD : a ≠ D2 := fun z => by rw [z, s3 _ _ hD2] at na; cases na
        refine qt2 _ _ s34 ⟨es ++ [a], by rw [List.map_append]; rfl, ?_⟩
        rw [List.range_succ, List.map_append]
        refine A2.snoc ⟨aD, sm2.free (s3.free na), ?_⟩ (hE.mono fun e ns z => ⟨z.1, z.2.1, by unfold IL; rw [upd_ne z.1]; exact s34 _ _ z.2.2⟩)
        unfold IL
        rw [upd_ne aD, upd_same]
        show _ = some (HO.lst ((if i = j then [n] else []).map V.int))
        by_cases z : i = j
        · rw [decide_eq_true z, if_pos rfl, if_pos z]; rfl
        · rw [decide_eq_false z, if_neg (by decide), if_neg z]; rfl
      · obtain ⟨es, rfl, hE⟩ := hR2
        refine qt _ _ sm2 ?_
        rw [List.range_succ, List.map_append]
        exact hR.snoc sm (by rw [hD]; exact fun z => nomatch z) sm2 nD2 ⟨es, hD2, hE.mono fun _ _ z => z.2⟩
    · exact q G D sm nD ⟨ys, hD, hR⟩
theorem eqv_maps {α : Type} [DecidableEq α] {f : α → PyData} (h : ∀ x y, PyData.eqv (f x) (f y) = decide (x = y)) : ∀ xs ys : List α, PyData.eqvAll (xs.map f) (ys.map f) = decide (xs = ys)
  | [], [] => rfl
  | [], _ :: _ => rfl
  | _ :: _, [] => rfl
  | x :: r, y :: q => by
    show (PyData.eqv (f x) (f y) && PyData.eqvAll (r.map f) (q.map f)) = _
    rw [eqv_maps h r q, h x y]
    by_cases h1 : x = y
    · by_cases h2 : r = q
      · simp [h1, h2]
      · simp [h1, h2]
    · simp [h1]
theorem eqv_els (a b : List (List Int)) : PyData.eqv (dEls a) (dEls b) = decide (a = b) := eqv_maps eqv_dI a b
theorem eqv_tb (a b : Tb) : PyData.eqv (dTb a) (dTb b) = decide (a = b) := eqv_maps eqv_els a b
theorem oneT_len (many : Nat) (n : Int) : (oneT many n).length = many := by unfold oneT; rw [List.length_map, List.length_range]
theorem oneT_at {many i : Nat} {n : Int} (h : i < many) : (oneT many n)[i]? = some ((List.range many).map fun j => if i = j then [n] else []) := by
  unfold oneT
  rw [List.getElem?_map, List.getElem?_range h]; rfl
theorem oneT_el {many i j : Nat} {n : Int} (h : j < many) : ((List.range many).map fun j => if i = j then [n] else [])[j]? = some (if i = j then [n] else []) := by
  rw [List.getElem?_map, List.getElem?_range h]; rfl
theorem good_one {many : Nat} {n : Int} (hm : 0 < many) (h : n ≠ 0) : Good (oneT many n) n := by
  refine .inr ⟨fun z => by have := oneT_len many n; rw [z] at this; simp at this; omega, h, fun r hr => ?_, fun i r hr j e he => ?_⟩
  · rw [oneT_len]
    obtain ⟨i, _, rfl⟩ := List.mem_map.mp hr
    rw [List.length_map, List.length_range]
  · have hi : i < many := by have := (List.getElem?_eq_some_iff.mp hr).1; rw [oneT_len] at this; exact this
    rw [oneT_at hi] at hr
    cases hr
    have hj : j < many := by have := (List.getElem?_eq_some_iff.mp he).1; rw [List.length_map, List.length_range] at this; exact this
    rw [oneT_el hj] at he
    cases he; rfl
theorem good_is {tab : Tb} {c : Int} (te : tab ≠ []) (h : Good tab c) : tab = oneT tab.length c := by
  rcases h with ⟨h1, _⟩ | ⟨_, _, h3, h4⟩
  · exact absurd h1 te
  · refine List.ext_getElem? fun i => ?_
    by_cases hi : i < tab.length
    · obtain ⟨r, hr⟩ := some_at (xs := tab) hi
      rw [hr, oneT_at hi]
      refine congrArg some (List.ext_getElem? fun j => ?_)
      have lr := h3 r (mem_at hr)
      by_cases hj : j < r.length
      · obtain ⟨e, he⟩ := some_at (xs := r) hj
        rw [he, oneT_el (by omega), h4 i r hr j e he]
      · rw [List.getElem?_eq_none (by omega), List.getElem?_eq_none (by rw [List.length_map, List.length_range]; omega)]
    · rw [List.getElem?_eq_none (by omega), List.getElem?_eq_none (by rw [oneT_len]; omega)]
def sp_law_due : Sp := fun vs H Q _ => ∃ (a : Addr) (tab : Tb), vs = [.ref a] ∧ TbR H a tab ∧ tab ≠ [] ∧ tab.length ≤ 16 ∧ (∀ r ∈ tab, r ≠ [] ∧ ∀ e ∈ r, Can e) ∧ ∀ H' v, Same H H' → MRes tab v → Q v H'
theorem ok_law_due (T : Txt K mg) : FnOk P w K mg base CX0 2 T.law_due.a T.law_due.fd ["table"] sp_law_due := by
  refine T.law_due.F.ok sc_law_due (fun vs H Q E h => ?_) (fun cdv A outer s H vs Q E hr h => ?_)
  · obtain ⟨a, tab, rfl, _⟩ := h
    rfl
  · obtain ⟨a, tab, rfl, htab, te, l16, hrow, q⟩ := h
    have htab0 := htab
    obtain ⟨as, htl, hA⟩ := htab
    have las := hA.len
    have lpos : 0 < tab.length := List.length_pos_iff.mpr te
    obtain ⟨r0, hr0⟩ := some_at (xs := tab) (i := 0) lpos
    obtain ⟨ra, hra, ras, hral, hE0⟩ := hA.get' hr0
    obtain ⟨rne, rcan⟩ := hrow r0 (mem_at hr0)
    obtain ⟨c0, hc0⟩ := some_at (xs := r0) (i := 0) (List.length_pos_iff.mpr rne)
    obtain ⟨ca, hca, hC⟩ := hE0.get' hc0
    have lra := hE0.len
    have cE : ∀ c, Good tab c → c0 = [c] ∧ r0.length = tab.length := fun c hc => by
      rcases hc with ⟨h1, _⟩ | ⟨_, _, h3, h4⟩
      · exact absurd h1 te
      · have := h4 0 r0 hr0 0 c0 hc0
        rw [if_pos rfl] at this
        exact ⟨this, h3 r0 (mem_at hr0)⟩
    have at0 : atI (as.map V.ref) 0 = some (.ref ra) := atI_nat (j := 0) (by rw [List.getElem?_map, hra]; rfl)
    have at1 : atI (ras.map V.ref) 0 = some (.ref ca) := atI_nat (j := 0) (by rw [List.getElem?_map, hca]; rfl)
    refine ⟨_, (pss_cons (ps_set (i := 1) sc_law_due.nd rfl (.inl rfl) (pe_callB call_len_seq (by rfl) T.m_len (by decide +kernel) (pa_cons (pv 0) pa_nil)))
      (pss_cons (ps_if (PW.pt (pw_or (pt_cmpR op_ne (pe_callB call_len_seq (by rfl) T.m_len (by decide +kernel) (pa_cons (pe_ix ix_list (pv 0) pe_int (fun _ _ => rfl)) pa_nil)) (pv 1) (nomark _)) (pw_or1 (pt_cmpR op_ne (pe_callB call_len_seq (by rfl) T.m_len (by decide +kernel) (pa_cons (pe_ix ix_list (pe_ix ix_list (pv 0) pe_int (fun _ _ => rfl)) pe_int (fun _ _ => rfl)) pa_nil)) pe_int (nomark _)))))
        (pss_one (ps_ret pe_non))
        pss_nil)
      (pss_cons (ps_if (pt_cmpR (op_eqD hr.units) (pv 0) (pe_call (ok_law_one T) (hr.mono (by decide)) (by rfl) T.law_one.g T.law_one.F.kp T.law_one.b .nil pass0 (pa_cons (pv 1) (pa_cons (pe_ix ix_list (pe_ix ix_list (pe_ix ix_list (pv 0) pe_int (fun _ _ => rfl)) pe_int (fun _ _ => rfl)) pe_int (fun _ _ => rfl)) pa_nil))) (nomark _))
        (pss_one (ps_ret (pe_ix ix_list (pe_ix ix_list (pe_ix ix_list (pv 0) pe_int (fun _ _ => rfl)) pe_int (fun _ _ => rfl)) pe_int (fun _ _ => rfl))))
        pss_nil)
      (pss_one (ps_ret pe_non))))), ?_⟩
    refine ⟨.ref a, rfl, a, _, rfl, .inl (.of htl), ?_⟩
    refine ⟨.ref a, rfl, a, _, _, _, rfl, rfl, .of htl, at0, ra, _, rfl, .inl (.of hral), _, rfl, rfl, _, rfl, ?_⟩
    rw [List.length_map, List.length_map, lra, las]
    refine ite2 (fun h => iteT (q _ _ (Same.refl _) (.inr ⟨rfl, fun c hc => ?_⟩))) (fun h => ?_)
    · rw [(cE c hc).2] at h
      simp at h
    have lr0 : r0.length = tab.length := by
      by_cases z : r0.length = tab.length
      · exact z
      · exact absurd (by rw [Bool.not_eq_true']; exact decide_eq_false fun y => z (by have := V.int.inj y; omega)) h
    refine ⟨.ref a, rfl, a, _, _, _, rfl, rfl, .of htl, at0, ra, _, _, _, rfl, rfl, .of hral, at1, ca, _, rfl, .inl hC.sq, rfl, _, rfl, ?_⟩
    rw [List.length_map]
    refine ite2 (fun h => q _ _ (Same.refl _) (.inr ⟨rfl, fun c hc => ?_⟩)) (fun h => ?_)
    · rw [(cE c hc).1] at h
      cases h
    have lc : c0.length = 1 := by
      by_cases z : c0.length = 1
      · exact z
      · exact absurd (by rw [Bool.not_eq_true']; exact decide_eq_false fun y => z (by have := V.int.inj y; omega)) h
    obtain ⟨n, rfl⟩ : ∃ n, c0 = [n] := by
      cases c0 with
      | nil => simp at lc
      | cons n t => cases t with
        | nil => exact ⟨n, rfl⟩
        | cons m t => simp at lc
    have n0 : n ≠ 0 := by
      rcases rcan [n] (mem_at hc0) with z | z
      · cases z
      · exact z
    refine ⟨.ref a, rfl, _, rfl, .ref a, rfl, a, _, _, _, rfl, rfl, .of htl, at0, ra, _, _, _, rfl, rfl, .of hral, at1, ca, _, _, _, rfl, rfl, hC.sq, at_map' (m := 0) (ns := [n]) rfl Nat.one_pos, tab.length, n, rfl, l16, fun H2 p s2 np hp => ?_⟩
    have hp2 := hp.r
    refine ⟨dTb tab, dTb (oneT tab.length n), dp_tb (htab0.lk (K01.lk s2)), dp_tb hp2, shaped_tb _, shaped_tb _, _, rfl, ?_⟩
    rw [eqv_tb]
    refine ite2 (fun h => ?_) (fun h => ?_)
    · have e := of_decide_eq_true h
      refine ⟨.ref a, rfl, a, _, _, _, rfl, rfl, .of (s2 _ _ htl), at0, ra, _, _, _, rfl, rfl, .of (s2 _ _ hral), at1, ca, _, _, _, rfl, rfl, (hC.same s2).sq, at_map' (m := 0) (ns := [n]) rfl Nat.one_pos, q _ _ s2 (.inl ⟨n, rfl, by rw [e]; exact good_one lpos n0⟩)⟩
    · refine q _ _ s2 (.inr ⟨rfl, fun c hc => h (decide_eq_true ?_)⟩)
      have e0 := (cE c hc).1
      injection e0 with e0
      rw [e0]
      exact good_is te hc
end
-- Y01
def T5F (K : PySem.W.Frag) (a b C : Addr) (E : XK) : TS := fun D σ H => σ = [some (.ref a), some (.ref b), none, none] ∧ ∃ (as : List Addr) (ls : List Nat) (ys : List V), SqL K H a (as.map V.ref) ∧ A2 (fun r n => ∃ xs, SqL K H r xs ∧ xs.length = n) as ls ∧ SqL K H b ys ∧
  (as ≠ [] → ls.headD 0 ≠ ys.length → ∀ dd, H dd = none → E (.ref C) (some dd) (upd H dd (.xd [("at", .int 0)]))) ∧ ((as ≠ [] → ls.headD 0 = ys.length) → D.nx σ H)
section
variable {P : Program} {w : World} {K : PySem.W.Frag} {mg : Str → Option Value} {base : Heap}
def sp_productF (C : Addr) : Sp := fun vs H Q E => ∃ (a b : Addr) (one two : Tb), vs = [.ref a, .ref b] ∧ TbR H a one ∧ TbR H b two ∧
  (one ≠ [] → wdt one ≠ two.length → ∀ dd, H dd = none → E (.ref C) (some dd) (upd H dd (.xd [("at", .int 0)]))) ∧
  ((one ≠ [] → wdt one = two.length) → ∃ m : Nat, one.length ≤ 16 ∧ two.length ≤ 16 ∧ (∀ r ∈ one, r.length = two.length ∧ ∀ e ∈ r, Pb e) ∧ (∀ t ∈ two, t.length = m ∧ ∀ e ∈ t, Pb e) ∧ m ≤ 16 ∧ ∀ H' p, Same H H' → H p = none → TbF H H' p (prodT one two) → Q (.ref p) H')
theorem ok_productF (T : Txt K mg) (X : Errs K mg) : FnOk P w K mg base (L2.CX P w) 4 T.product.a T.product.fd ["one", "two"] (sp_productF X.WrongSize.C) := by
  refine T.product.F.okX sc_product (fun vs H Q E h => ?_) (fun cdv A outer s H vs Q E hr h => ?_)
  · obtain ⟨a, b, one, two, rfl, _⟩ := h
    rfl
  · obtain ⟨a, b, one, two, rfl, ha, hb, qE, qT⟩ := h
    have hb0 := hb
    obtain ⟨as, hal, hA⟩ := ha
    obtain ⟨bs, hbl, hB⟩ := hb
    have la := hA.len
    have lb := hB.len
    refine ⟨_, (pss_cons (ps_via (t' := T5F K a b X.WrongSize.C E) (ps_if (PW.pt (pw_and (pt_truth (pv 0) (by intro _; rfl)) (pw_and1 (pt_cmpR op_ne (pe_call (ok_width T) (hr.mono (by decide)) (by rfl) T.width.g T.width.F.kp T.width.b .nil pass0 (pa_cons (pv 0) pa_nil)) (pe_callB call_len_seq (by rfl) T.m_len (by decide +kernel) (pa_cons (pv 1) pa_nil)) (nomark _)))))
        (pss_one (ps_raise rfl (takes_of rfl rfl rfl rfl) (pmk_oex X.WrongSize.oex X.WrongSize.iC X.e0.tI (ok_init T X) (hr.mono (by decide)) X.e0.b .nil pass0 (by rfl) X.WrongSize.g (pa_cons pe_int pa_nil))))
        pss_nil) ?t5)
      (pss_one (ps_ret (pe_lc (own := [("row", 2)]) rfl sc_product.nd (pi_list (pv 0)) (blkOk_by (N := ["one", "two", "row", "j"]) (sc := defScope s_product) (by decide +kernel)) (fun _ _ _ _ _ => (pg_name (i := 2) sc_product.nd rfl (.inr rfl))) (fun _ _ _ _ _ => pts_nil) (fun _ _ _ _ _ => (pe_lc (own := [("j", 3)]) rfl sc_product.nd (pi_range1 (by rfl) T.m_range (pa_cons (pe_call (ok_width T) (hr.mono (by decide)) (by rfl) T.width.g T.width.F.kp T.width.b .nil pass0 (pa_cons (pv 1) pa_nil)) pa_nil)) (blkOk_by (N := ["one", "two", "row", "j"]) (sc := { kind := .function, names := [(".0", .local), ("row", .cell), ("range", .globalImplicit), ("_width", .globalImplicit), ("two", .cell)], isGenerator := false, isCoroutine := false, more := [] }) (by decide +kernel)) (fun _ _ _ _ _ => (pg_name (i := 3) sc_product.nd rfl (.inl rfl))) (fun _ _ _ _ _ => pts_nil) (fun _ _ _ _ _ => (pe_call (ok_cell T) (hr.mono (by decide)) (by rfl) T.cell.g T.cell.F.kp T.cell.b .nil pass0 (pa_cons (pv 2) (pa_cons (pv 1) (pa_cons (pv 3) pa_nil))))))))))), ?_⟩
    case t5 =>
      rintro D σ H ⟨rfl, as, ls, ys, h1, h2, h3, h4, nx⟩
      refine ⟨.ref a, rfl, _, .inl ⟨_, h1, rfl⟩, ?_⟩
      refine ite2 (fun h => ?_) (fun h => iteF (nx fun ne => ?_))
      · have ne : as ≠ [] := fun z => by rw [z] at h; cases h
        refine ⟨.ref a, rfl, a, as, ls, rfl, h1, h2, .ref b, rfl, b, _, rfl, .inl h3, rfl, _, rfl, ?_⟩
        by_cases z : ls.headD 0 = ys.length
        · rw [z, decide_eq_true rfl]
          exact iteF (nx fun _ => z)
        · rw [decide_eq_false (fun y => z (by have := V.int.inj y; omega))]
          exact iteT ⟨by show 1 ≤ 1000; decide, LX.raised X.WrongSize (by decide) fun dd hdd => h4 ne z dd hdd⟩
      · cases as with
        | nil => exact absurd rfl ne
        | cons x r => exact absurd rfl h
    have hw : (one.map List.length).headD 0 = wdt one := headD_wdt one
    have ln : as ≠ [] ↔ one ≠ [] := by
      constructor
      · intro h z
        rw [z] at la
        exact h (List.length_eq_zero_iff.mp la)
      · intro h z
        rw [z] at la
        exact h (List.length_eq_zero_iff.mp la.symm)
    refine ⟨rfl, as, one.map List.length, bs.map V.ref, .of hal, TbR.wd (as := as) hA, .of hbl, fun ne z dd hdd => qE (ln.mp ne) (fun y => z (by rw [hw, List.length_map, lb]; exact y)) dd hdd, fun hz => ?_⟩
    obtain ⟨m, l1, l2, p1, p2, hm, q⟩ := qT fun ne => by have := hz (ln.mpr ne); rw [hw, List.length_map, lb] at this; exact this
    have wl := wdt_le fun t ht => (p2 t ht).1
    refine ⟨.ref a, rfl, a, rfl, ⟨_, .of hal⟩, fun D nD => ?_⟩
    refine lc_inv (walk_list (xs := as.map V.ref)) (fun i G ys => TabN D H G ys ((one.take i).map fun row => (List.range (wdt two)).map (cellv row two))) nD (fun H' s => s.seq (.of hal)) (small' (by rw [List.length_map]; omega)) .nil (fun i x H' Hx ys hi sm hD hR y Qt Qf qt qf => ?_) (fun G ys sm hD hR => ?_)
    · obtain ⟨rfl, hxi⟩ := y
      obtain ⟨c, hc, rfl⟩ := row_ref hxi
      obtain ⟨row, hrow, hRow⟩ := hA.get hc
      refine ⟨rfl, .ref b, rfl, b, bs, two.map List.length, rfl, .of (sm _ _ hbl), TbR.wd (as := bs) (hB.mono fun _ _ y => y.same sm), ?_⟩
      rw [headD_wdt]
      refine ⟨(wdt two : Nat), rfl, by omega, by omega, fun D2 nD2 => ?_⟩
      rw [Int.toNat_natCast]
      refine lc_inv (walk_range (lo := 0) (n := wdt two)) (fun i G2 ys => ∃ cs : List Addr, ys = cs.map V.ref ∧ RN D2 Hx G2 cs ((List.range i).map (cellv row two))) nD2 (fun _ _ => trivial) (small' (by omega)) ⟨[], rfl, .nil⟩ (fun j x2 G2 Hx2 ys2 hj sm2 hD2 hR2 y2 Qt2 Qf2 qt2 qf2 => ?_) (fun G2 ys2 sm2 hD2 hR2 => ?_)
      · obtain ⟨rfl, rfl⟩ := y2
        obtain ⟨cs, rfl, hrn⟩ := hR2
        have pr := p1 row (mem_at hrow)
        refine ⟨rfl, _, rfl, .ref b, rfl, _, rfl, c, b, row, two, j, ?_, (hRow.same sm).same sm2, hb0.lk (K01.lk (sm.trans sm2)), pr.1, fun t ht => by have := (p2 t ht).1; omega, pr.2, fun t ht => (p2 t ht).2, by have := pr.1; omega, fun G3 n s3 nn hn => ?_⟩
        · show [V.ref c, V.ref b, V.int (0 + (j : Int))] = _
          rw [Int.zero_add]
        have nD3 : n ≠ D2 := fun z => by rw [z, hD2] at nn; cases nn
        refine qt2 _ _ s3 ⟨cs ++ [n], by rw [List.map_append]; rfl, ?_⟩
        rw [List.range_succ, List.map_append]
        exact hrn.snoc s3 nD3 (sm2.free nn) hn
      · obtain ⟨cs, rfl, hrn⟩ := hR2
        refine qt _ _ sm2 ?_
        rw [take_snoc hrow, List.map_append]
        exact hR.snoc sm (by rw [hD]; exact fun z => nomatch z) sm2 nD2 ⟨cs, hD2, hrn.mono fun _ _ z => ⟨z.1.2, z.2⟩⟩
    · rw [List.length_map, List.take_of_length_le (by omega)] at hR
      exact q G D sm nD ⟨ys, hD, hR⟩
def sp_law_refused (K : PySem.W.Frag) : Sp := fun vs H Q _ => ∃ (a b : Addr) (one two : Tb), vs = [.ref a, .ref b] ∧ TbR H a one ∧ TbR H b two ∧ one ≠ [] ∧ wdt one ≠ two.length ∧ ∀ H', Same H H' → Q (.bl true) H'
theorem ok_law_refused (T : Txt K mg) (X : Errs K mg) : FnOk P w K mg base CX0 5 T.law_refused.a T.law_refused.fd ["one", "two"] (sp_law_refused K) := by
  refine T.law_refused.F.ok sc_law_refused (fun vs H Q E h => ?_) (fun cdv A outer s H vs Q E hr h => ?_)
  · obtain ⟨a, b, one, two, rfl, _⟩ := h
    rfl
  · obtain ⟨a, b, one, two, rfl, ha, hb, ne, nw, q⟩ := h
    refine ⟨_, (pss_cons (ps_try_as (i := 2) rfl rfl sc_law_refused.nd rfl rfl ⟨rfl, by decide, .inl X.WrongSize.g⟩ takes0
        (fun W pn xe tk _ => (pss_one (ps_expr (pe_callS (ok_productF T X) (hr.mono (by decide)) (by rfl) T.product.g T.product.F.kp T.product.b (fun σ => passAt tk σ) (pa_cons (pv 0) (pa_cons (pv 1) pa_nil))))))
        (fun a oe cls d pn hz hf => (pss_one (ps_ret (pe_and (pe_callB (LX.call_isX hz hf) (by rfl) T.m_isinstance (by decide +kernel) (pa_cons (pv 2) (pa_cons (pe_glob (v := .ref X.e0.CM) rfl X.e0.gM rfl) pa_nil))) (pe_one (pe_cmpR op_eq (pe_xf X.WrongSize.xf X.WrongSize.noAt hz hf (pv 2)) pe_int (nomark _))))))))
      (pss_one (ps_ret pe_bl))), ?_⟩
    refine ⟨_, rfl, _, rfl, a, b, one, two, rfl, ha, hb, fun _ _ dd hdd => ?_, fun z => absurd (z ne) nw⟩
    refine ⟨true, X.exS, fun _ a0 ha0 => ?_, fun q => nomatch q⟩
    refine ⟨_, rfl, X.WrongSize.C, dd, _, _, true, _, rfl, rfl, X.WrongSize.named.own, rfl, .own _, upd_same, X.kitM, true, rfl, ?_⟩
    refine iteT ⟨_, rfl, rfl, rfl, dd, _, _, rfl, upd_same, rfl, rfl, ?_⟩
    exact q _ (same_upd hdd)
end
-- Z01
def Ge (e : List Int) : Prop := Can e ∧ Bd e ∧ e.length ≤ 41
theorem can_snoc {xs : List Int} {x : Int} (h : x ≠ 0) : Can (xs ++ [x]) := .inr (by
  rw [List.length_append]
  show cf (xs ++ [x]) (xs.length + 1 - 1) ≠ 0
  unfold cf
  rw [List.getD_eq_getElem?_getD, List.getElem?_append_right (by omega), show xs.length + 1 - 1 - xs.length = 0 by omega]
  exact h)
theorem bd_all {xs : List Int} (h : ∀ x ∈ xs, x.natAbs < 2 ^ 200) : Bd xs := fun m => by
  rcases Nat.lt_or_ge m xs.length with q | q
  · exact h _ (mem_at (at_map q))
  · rw [cf_ge q]; decide
section
variable {P : Program} {w : World} {K : PySem.W.Frag} {mg : Str → Option Value} {base : Heap}
def sp_law_long : Sp := fun vs H Q _ => ∃ (st i j : Int), vs = [.int st, .int i, .int j] ∧ 0 ≤ st ∧ st ≤ 1000 ∧ 0 ≤ i ∧ i ≤ 1000 ∧ 0 ≤ j ∧ j ≤ 1000 ∧ OutP H Q
theorem ok_law_long (T : Txt K mg) : FnOk P w K mg base CX0 1 T.law_long.a T.law_long.fd ["step", "i", "j"] sp_law_long := by
  refine T.law_long.F.ok sc_law_long (fun vs H Q E h => ?_) (fun cdv A outer s H vs Q E hr h => ?_)
  · obtain ⟨st, i, j, rfl, _⟩ := h
    rfl
  · obtain ⟨st, i, j, rfl, s0, s1, i0, i1, j0, j1, q⟩ := h
    refine ⟨_, (pss_one (ps_ret (pe_op op_cat (pe_lc (own := [("k", 3)]) rfl sc_law_long.nd (pi_range1 (by rfl) T.m_range (pa_cons (pe_op op_mod (pe_callTy call_int1 (by rfl) T.m_int (by decide +kernel) (pa_cons (pe_op op_add (pe_op op_add (pv 0) (pv 1)) (pe_op op_mul pe_int (pv 2))) pa_nil)) pe_int) pa_nil)) (blkOk_by (N := ["step", "i", "j", "k"]) (sc := defScope s_law_long) (by decide +kernel)) (fun _ _ _ _ _ => (pg_name (i := 3) sc_law_long.nd rfl (.inl rfl))) (fun _ _ _ _ _ => pts_nil) (fun _ _ _ _ _ => (pe_op op_sub (pe_op op_mod (pe_callTy call_int1 (by rfl) T.m_int (by decide +kernel) (pa_cons (pe_op op_add (pe_op op_mul (pe_op op_mul (pv 0) (pe_op op_add (pv 1) pe_int)) (pe_op op_add (pv 3) pe_int)) (pe_op op_mul (pv 2) (pv 3))) pa_nil)) pe_int) pe_int))) (pe_lst (pa_cons (pe_op op_add (pe_op op_add pe_int (pv 1)) (pv 2)) pa_nil))))), ?_⟩
    refine ⟨_, rfl, _, rfl, _, _, rfl, rfl, _, rfl, _, _, rfl, rfl, .inl ⟨by decide, by decide⟩, _, _, rfl, rfl, .inl ⟨_, rfl, _, _, rfl, rfl, by show (0 : Int) < 12; omega, _, rfl, by omega, by omega, fun D nD => ?_⟩⟩
    obtain ⟨n, en, hn⟩ : ∃ n : Nat, (st + i + 5 * j) % 12 = (n : Int) ∧ n ≤ 12 := ⟨((st + i + 5 * j) % 12).toNat, by omega, by omega⟩
    rw [en, Int.toNat_natCast]
    refine lc_inv (walk_range (lo := 0) (n := n)) (fun k G ys => ∃ ns : List Int, ys = ns.map V.int ∧ ns.length = k ∧ ∀ x ∈ ns, x.natAbs < 2 ^ 200) nD (fun _ _ => trivial) (small' (by omega)) ⟨[], rfl, rfl, fun _ h => by cases h⟩ (fun k x G Gx ys hk sm hD hR y Qt Qf qt qf => ?_) (fun G ys sm hD hR => ?_)
    · obtain ⟨rfl, rfl⟩ := y
      obtain ⟨ns, rfl, ln, hns⟩ := hR
      refine ⟨rfl, _, rfl, _, rfl, _, _, rfl, rfl, _, _, rfl, rfl, .inl ⟨by omega, by omega⟩, _, rfl, _, _, rfl, rfl, _, _, rfl, rfl, .inr ⟨by omega, by omega⟩, _, rfl, _, rfl, _, _, rfl, rfl, .inl ⟨by omega, by omega⟩, _, _, rfl, rfl, .inl ⟨_, rfl, _, _, rfl, rfl, by show (0 : Int) < 2001; omega, _, _, rfl, rfl, ?_⟩⟩
      generalize (st * (i + 2) * (0 + (k : Int) + 1) + j * (0 + (k : Int))) = z
      refine qt _ _ (Same.refl _) ⟨ns ++ [z % 2001 - 1000], app_ints, by rw [List.length_append, ln]; rfl, fun x hx => ?_⟩
      rcases List.mem_append.mp hx with hx | hx
      · exact hns x hx
      · obtain rfl := List.mem_singleton.mp hx
        exact Nat.lt_of_le_of_lt (show _ ≤ 5000 by omega) (by decide)
    · obtain ⟨ns, rfl, ln, hns⟩ := hR
      refine ⟨_, rfl, _, _, rfl, rfl, _, rfl, _, _, rfl, rfl, by show 1 ≤ sizeLine; decide, fun l nl => ?_⟩
      have s3 := same_upd nl (o := .lst [.int (1 + i + j)])
      refine ⟨D, l, _, _, rfl, rfl, s3 _ _ hD, upd_same, by rw [List.length_map]; exact small (by show _ + 1 ≤ _; omega), fun c nc => ?_⟩
      have s4 := same_upd nc (o := .lst (ns.map V.int ++ [.int (1 + i + j)]))
      refine q _ c (ns ++ [1 + i + j]) (sm.trans (s3.trans s4)) (sm.free (s3.free nc)) (by unfold IL; rw [upd_same, app_ints]) (can_snoc (by omega)) (bd_all fun x hx => ?_) (by rw [List.length_append]; show _ + 1 ≤ _; omega)
      rcases List.mem_append.mp hx with hx | hx
      · exact hns x hx
      · obtain rfl := List.mem_singleton.mp hx
        exact Nat.lt_of_le_of_lt (show _ ≤ 5000 by omega) (by decide)
def sp_law_table : Sp := fun vs H Q _ => ∃ (a : Addr) (ds : List Int) (k : Int) (rows columns : Nat) (long : Bool), vs = [.ref a, .int k, .int (rows : Nat), .int (columns : Nat), .bl long] ∧ IL H a ds ∧ 0 ≤ k ∧ rows ≤ 12 ∧ columns ≤ 12 ∧
  ∀ H' p tab, Same H H' → H p = none → TbF H H' p tab → tab.length = rows → (∀ r ∈ tab, r.length = columns ∧ ∀ e ∈ r, Ge e) → Q (.ref p) H'
theorem ok_law_table (T : Txt K mg) : FnOk P w K mg base CX0 4 T.law_table.a T.law_table.fd ["draws", "k", "rows", "columns", "long"] sp_law_table := by
  refine T.law_table.F.ok sc_law_table (fun vs H Q E h => ?_) (fun cdv A outer s H vs Q E hr h => ?_)
  · obtain ⟨a, ds, k, rows, columns, long, rfl, _⟩ := h
    rfl
  · obtain ⟨a, ds, k, rows, columns, long, rfl, ha, hk, hr1, hc1, q⟩ := h
    refine ⟨_, (pss_cons (ps_set (i := 5) sc_law_table.nd rfl (.inr rfl) (pe_op op_add pe_int (pe_call (ok_law_at T) (hr.mono (by decide)) (by rfl) T.law_at.g T.law_at.F.kp T.law_at.b .nil pass0 (pa_cons (pv 0) (pa_cons (pv 1) (pa_cons pe_int pa_nil))))))
      (pss_cons (ps_if (pt_val (pv 4))
        (pss_one (ps_ret (pe_lc (own := [("i", 6)]) rfl sc_law_table.nd (pi_range1 (by rfl) T.m_range (pa_cons (pv 2) pa_nil)) (blkOk_by (N := ["draws", "k", "rows", "columns", "long", "step", "i", "j"]) (sc := defScope s_law_table) (by decide +kernel)) (fun _ _ _ _ _ => (pg_name (i := 6) sc_law_table.nd rfl (.inr rfl))) (fun _ _ _ _ _ => pts_nil) (fun _ _ _ _ _ => (pe_lc (own := [("j", 7)]) rfl sc_law_table.nd (pi_range1 (by rfl) T.m_range (pa_cons (pv 3) pa_nil)) (blkOk_by (N := ["draws", "k", "rows", "columns", "long", "step", "i", "j"]) (sc := { kind := .function, names := [(".0", .local), ("i", .cell), ("range", .globalImplicit), ("columns", .cell), ("step", .cell)], isGenerator := false, isCoroutine := false, more := [] }) (by decide +kernel)) (fun _ _ _ _ _ => (pg_name (i := 7) sc_law_table.nd rfl (.inl rfl))) (fun _ _ _ _ _ => pts_nil) (fun _ _ _ _ _ => (pe_call (ok_law_long T) (hr.mono (by decide)) (by rfl) T.law_long.g T.law_long.F.kp T.law_long.b .nil pass0 (pa_cons (pv 5) (pa_cons (pv 6) (pa_cons (pv 7) pa_nil))))))))))
        pss_nil)
      (pss_cons (ps_if (PW.pt (pw_or (pt_cmpR op_gt (pv 2) pe_int (nomark _)) (pw_or1 (pt_cmpR op_gt (pv 3) pe_int (nomark _)))))
        (pss_one (ps_ret (pe_lc (own := [("i", 6)]) rfl sc_law_table.nd (pi_range1 (by rfl) T.m_range (pa_cons (pv 2) pa_nil)) (blkOk_by (N := ["draws", "k", "rows", "columns", "long", "step", "i", "j"]) (sc := defScope s_law_table) (by decide +kernel)) (fun _ _ _ _ _ => (pg_name (i := 6) sc_law_table.nd rfl (.inr rfl))) (fun _ _ _ _ _ => pts_nil) (fun _ _ _ _ _ => (pe_lc (own := [("j", 7)]) rfl sc_law_table.nd (pi_range1 (by rfl) T.m_range (pa_cons (pv 3) pa_nil)) (blkOk_by (N := ["draws", "k", "rows", "columns", "long", "step", "i", "j"]) (sc := { kind := .function, names := [(".0", .local), ("i", .cell), ("range", .globalImplicit), ("columns", .cell), ("step", .cell)], isGenerator := false, isCoroutine := false, more := [] }) (by decide +kernel)) (fun _ _ _ _ _ => (pg_name (i := 7) sc_law_table.nd rfl (.inl rfl))) (fun _ _ _ _ _ => pts_nil) (fun _ _ _ _ _ => (pe_call (ok_law_plus T) (hr.mono (by decide)) (by rfl) T.law_plus.g T.law_plus.F.kp T.law_plus.b .nil pass0 (pa_cons (pe_lst (pa_cons (pe_op op_sub (pe_op op_mod (pe_callTy call_int1 (by rfl) T.m_int (by decide +kernel) (pa_cons (pe_op op_add (pe_op op_mul (pe_op op_mul (pv 5) (pe_op op_add (pv 6) pe_int)) (pe_op op_add (pv 7) pe_int)) (pe_op op_mul (pv 6) (pv 7))) pa_nil)) pe_int) pe_int) pa_nil)) (pa_cons (pe_lst pa_nil) pa_nil)))))))))
        pss_nil)
      (pss_one (ps_ret (pe_lc (own := [("i", 6)]) rfl sc_law_table.nd (pi_range1 (by rfl) T.m_range (pa_cons (pv 2) pa_nil)) (blkOk_by (N := ["draws", "k", "rows", "columns", "long", "step", "i", "j"]) (sc := defScope s_law_table) (by decide +kernel)) (fun _ _ _ _ _ => (pg_name (i := 6) sc_law_table.nd rfl (.inr rfl))) (fun _ _ _ _ _ => pts_nil) (fun _ _ _ _ _ => (pe_lc (own := [("j", 7)]) rfl sc_law_table.nd (pi_range1 (by rfl) T.m_range (pa_cons (pv 3) pa_nil)) (blkOk_by (N := ["draws", "k", "rows", "columns", "long", "step", "i", "j"]) (sc := { kind := .function, names := [(".0", .local), ("i", .cell), ("range", .globalImplicit), ("columns", .cell), ("draws", .cell), ("k", .cell)], isGenerator := false, isCoroutine := false, more := [] }) (by decide +kernel)) (fun _ _ _ _ _ => (pg_name (i := 7) sc_law_table.nd rfl (.inl rfl))) (fun _ _ _ _ _ => pts_nil) (fun _ _ _ _ _ => (pe_call (ok_law_poly T) (hr.mono (by decide)) (by rfl) T.law_poly.g T.law_poly.F.kp T.law_poly.b .nil pass0 (pa_cons (pv 0) (pa_cons (pe_op op_add (pv 1) (pe_op op_mul pe_int (pe_op op_add (pe_op op_mul pe_int (pv 6)) (pv 7)))) (pa_cons pe_int pa_nil))))))))))))), ?_⟩
    refine ⟨.ref a, rfl, _, rfl, a, ds, _, _, rfl, ha, hk, by decide, fun st st0 st1 => ?_⟩
    refine ⟨_, _, rfl, rfl, _, rfl, _, rfl, ?_⟩
    cases long with
    | true =>
      refine iteT ?_
      refine ⟨_, rfl, (rows : Nat), rfl, by omega, by omega, fun D nD => ?_⟩
      rw [Int.toNat_natCast]
      refine lc_inv (walk_range (lo := 0) (n := rows)) (fun i G ys => ∃ tab : Tb, TabN D H G ys tab ∧ tab.length = i ∧ ∀ r ∈ tab, r.length = columns ∧ ∀ e ∈ r, Ge e) nD (fun _ _ => trivial) (small' (by omega)) ⟨[], .nil, rfl, fun _ h => by cases h⟩ (fun i x G Gx ys hi sm hD hR y Qt Qf qt qf => ?_) (fun G ys sm hD hR => ?_)
      · obtain ⟨rfl, rfl⟩ := y
        obtain ⟨tab, hT, lt, hall⟩ := hR
        refine ⟨rfl, _, rfl, (columns : Nat), rfl, by omega, by omega, fun D2 nD2 => ?_⟩
        rw [Int.toNat_natCast]
        refine lc_inv (walk_range (lo := 0) (n := columns)) (fun j G2 ys2 => ∃ (es : List Addr) (row : List (List Int)), ys2 = es.map V.ref ∧ A2 (fun e ns => e ≠ D2 ∧ Gx e = none ∧ IL G2 e ns) es row ∧ row.length = j ∧ ∀ e ∈ row, Ge e) nD2 (fun _ _ => trivial) (small' (by omega)) ⟨[], [], rfl, .nil, rfl, fun _ h => by cases h⟩ (fun j x2 G2 Gx2 ys2 hj sm2 hD2 hR2 y2 Qt2 Qf2 qt2 qf2 => ?_) (fun G2 ys2 sm2 hD2 hR2 => ?_)
        · obtain ⟨rfl, rfl⟩ := y2
          obtain ⟨es, row, rfl, hE, lrw, hge⟩ := hR2
          have go : ∀ G3 n ns, Same Gx2 G3 → Gx2 n = none → IL G3 n ns → Ge ns → Qt2 (.ref n) G3 := fun G3 n ns s3 nn hn hg => by
            have nD3 : n ≠ D2 := fun z => by rw [z, hD2] at nn; cases nn
            refine qt2 _ _ s3 ⟨es ++ [n], row ++ [ns], by rw [List.map_append]; rfl, A2.snoc ⟨nD3, sm2.free nn, by unfold IL; rw [upd_ne nD3]; exact hn⟩ (hE.mono fun e ns z => ⟨z.1, z.2.1, by unfold IL; rw [upd_ne z.1]; exact s3 _ _ z.2.2⟩), by rw [List.length_append, lrw]; rfl, fun e he => ?_⟩
            rcases List.mem_append.mp he with he | he
            · exact hge e he
            · obtain rfl := List.mem_singleton.mp he
              exact hg
          exact ⟨rfl, _, rfl, _, rfl, _, rfl, _, _, _, rfl, by omega, by omega, by omega, by omega, by omega, by omega, fun G3 n ns s3 nn hn c1 c2 c3 => go G3 n ns s3 nn hn ⟨c1, c2, c3⟩⟩
        · obtain ⟨es, row, rfl, hE, lrw, hge⟩ := hR2
          refine qt _ _ sm2 ⟨tab ++ [row], hT.snoc sm (by rw [hD]; exact fun z => nomatch z) sm2 nD2 ⟨es, hD2, hE.mono fun _ _ z => z.2⟩, by rw [List.length_append, lt]; rfl, fun r hr => ?_⟩
          rcases List.mem_append.mp hr with hr | hr
          · exact hall r hr
          · obtain rfl := List.mem_singleton.mp hr
            exact ⟨lrw, hge⟩
      · obtain ⟨tab, hT, lt, hall⟩ := hR
        exact q G D tab sm nD ⟨ys, hD, hT⟩ lt hall
    | false =>
      refine iteF ⟨_, rfl, _, _, rfl, rfl, _, rfl, ?_⟩
      refine ite2 (fun h => iteT ?_) (fun h => ⟨_, rfl, _, _, rfl, rfl, _, rfl, ?_⟩)
      · refine ⟨_, rfl, (rows : Nat), rfl, by omega, by omega, fun D nD => ?_⟩
        rw [Int.toNat_natCast]
        refine lc_inv (walk_range (lo := 0) (n := rows)) (fun i G ys => ∃ tab : Tb, TabN D H G ys tab ∧ tab.length = i ∧ ∀ r ∈ tab, r.length = columns ∧ ∀ e ∈ r, Ge e) nD (fun _ _ => trivial) (small' (by omega)) ⟨[], .nil, rfl, fun _ h => by cases h⟩ (fun i x G Gx ys hi sm hD hR y Qt Qf qt qf => ?_) (fun G ys sm hD hR => ?_)
        · obtain ⟨rfl, rfl⟩ := y
          obtain ⟨tab, hT, lt, hall⟩ := hR
          refine ⟨rfl, _, rfl, (columns : Nat), rfl, by omega, by omega, fun D2 nD2 => ?_⟩
          rw [Int.toNat_natCast]
          refine lc_inv (walk_range (lo := 0) (n := columns)) (fun j G2 ys2 => ∃ (es : List Addr) (row : List (List Int)), ys2 = es.map V.ref ∧ A2 (fun e ns => e ≠ D2 ∧ Gx e = none ∧ IL G2 e ns) es row ∧ row.length = j ∧ ∀ e ∈ row, Ge e) nD2 (fun _ _ => trivial) (small' (by omega)) ⟨[], [], rfl, .nil, rfl, fun _ h => by cases h⟩ (fun j x2 G2 Gx2 ys2 hj sm2 hD2 hR2 y2 Qt2 Qf2 qt2 qf2 => ?_) (fun G2 ys2 sm2 hD2 hR2 => ?_)
          · obtain ⟨rfl, rfl⟩ := y2
            obtain ⟨es, row, rfl, hE, lrw, hge⟩ := hR2
            have go : ∀ G3 n ns, Same Gx2 G3 → Gx2 n = none → IL G3 n ns → Ge ns → Qt2 (.ref n) G3 := fun G3 n ns s3 nn hn hg => by
              have nD3 : n ≠ D2 := fun z => by rw [z, hD2] at nn; cases nn
              refine qt2 _ _ s3 ⟨es ++ [n], row ++ [ns], by rw [List.map_append]; rfl, A2.snoc ⟨nD3, sm2.free nn, by unfold IL; rw [upd_ne nD3]; exact hn⟩ (hE.mono fun e ns z => ⟨z.1, z.2.1, by unfold IL; rw [upd_ne z.1]; exact s3 _ _ z.2.2⟩), by rw [List.length_append, lrw]; rfl, fun e he => ?_⟩
              rcases List.mem_append.mp he with he | he
              · exact hge e he
              · obtain rfl := List.mem_singleton.mp he
                exact hg
            refine ⟨rfl, _, rfl, _, rfl, _, _, rfl, rfl, _, _, rfl, rfl, .inl ⟨by omega, by omega⟩, _, rfl, _, _, rfl, rfl, _, _, rfl, rfl, .inr ⟨by omega, by omega⟩, _, rfl, _, rfl, _, _, rfl, rfl, .inl ⟨by omega, by omega⟩, _, _, rfl, rfl, .inl ⟨_, rfl, _, _, rfl, rfl, by show (0 : Int) < 19; omega, _, _, rfl, rfl, ?_⟩⟩
            generalize ((1 + st) * (0 + (i : Int) + 1) * (0 + (j : Int) + 2) + (0 + (i : Int)) * (0 + (j : Int))) = z
            refine ⟨by show 1 ≤ sizeLine; decide, fun l1 nl1 => ?_⟩
            have u1 := same_upd nl1 (o := .lst [.int (z % 19 - 9)])
            refine ⟨by show 0 ≤ sizeLine; decide, fun l2 nl2 => ?_⟩
            have u2 := same_upd nl2 (o := .lst [])
            refine ⟨l1, l2, [z % 19 - 9], [], rfl, u2 _ _ upd_same, upd_same, by show 1 ≤ 400; decide, by show 0 ≤ 400; decide, fun G3 n s3 nn hn => ?_⟩
            refine go G3 n _ ((u1.trans u2).trans s3) (u1.free (u2.free nn)) hn ⟨can_padd _ _, fun m => ?_, Nat.le_trans (padd_len _ _) (by show max 1 0 ≤ 41; decide)⟩
            rw [cf_padd, show cf [] m = 0 from cf_ge (Nat.zero_le _), Int.add_zero]
            exact bd_all (xs := [z % 19 - 9]) (fun x hx => by obtain rfl := List.mem_singleton.mp hx; exact Nat.lt_of_le_of_lt (show _ ≤ 5000 by omega) (by decide)) m
          · obtain ⟨es, row, rfl, hE, lrw, hge⟩ := hR2
            refine qt _ _ sm2 ⟨tab ++ [row], hT.snoc sm (by rw [hD]; exact fun z => nomatch z) sm2 nD2 ⟨es, hD2, hE.mono fun _ _ z => z.2⟩, by rw [List.length_append, lt]; rfl, fun r hr => ?_⟩
            rcases List.mem_append.mp hr with hr | hr
            · exact hall r hr
            · obtain rfl := List.mem_singleton.mp hr
              exact ⟨lrw, hge⟩
        · obtain ⟨tab, hT, lt, hall⟩ := hR
          exact q G D tab sm nD ⟨ys, hD, hT⟩ lt hall
      · refine ite2 (fun h => ?_) (fun h => ?_)
        · refine ⟨_, rfl, (rows : Nat), rfl, by omega, by omega, fun D nD => ?_⟩
          rw [Int.toNat_natCast]
          refine lc_inv (walk_range (lo := 0) (n := rows)) (fun i G ys => ∃ tab : Tb, TabN D H G ys tab ∧ tab.length = i ∧ ∀ r ∈ tab, r.length = columns ∧ ∀ e ∈ r, Ge e) nD (fun _ _ => trivial) (small' (by omega)) ⟨[], .nil, rfl, fun _ h => by cases h⟩ (fun i x G Gx ys hi sm hD hR y Qt Qf qt qf => ?_) (fun G ys sm hD hR => ?_)
          · obtain ⟨rfl, rfl⟩ := y
            obtain ⟨tab, hT, lt, hall⟩ := hR
            refine ⟨rfl, _, rfl, (columns : Nat), rfl, by omega, by omega, fun D2 nD2 => ?_⟩
            rw [Int.toNat_natCast]
            refine lc_inv (walk_range (lo := 0) (n := columns)) (fun j G2 ys2 => ∃ (es : List Addr) (row : List (List Int)), ys2 = es.map V.ref ∧ A2 (fun e ns => e ≠ D2 ∧ Gx e = none ∧ IL G2 e ns) es row ∧ row.length = j ∧ ∀ e ∈ row, Ge e) nD2 (fun _ _ => trivial) (small' (by omega)) ⟨[], [], rfl, .nil, rfl, fun _ h => by cases h⟩ (fun j x2 G2 Gx2 ys2 hj sm2 hD2 hR2 y2 Qt2 Qf2 qt2 qf2 => ?_) (fun G2 ys2 sm2 hD2 hR2 => ?_)
            · obtain ⟨rfl, rfl⟩ := y2
              obtain ⟨es, row, rfl, hE, lrw, hge⟩ := hR2
              have go : ∀ G3 n ns, Same Gx2 G3 → Gx2 n = none → IL G3 n ns → Ge ns → Qt2 (.ref n) G3 := fun G3 n ns s3 nn hn hg => by
                have nD3 : n ≠ D2 := fun z => by rw [z, hD2] at nn; cases nn
                refine qt2 _ _ s3 ⟨es ++ [n], row ++ [ns], by rw [List.map_append]; rfl, A2.snoc ⟨nD3, sm2.free nn, by unfold IL; rw [upd_ne nD3]; exact hn⟩ (hE.mono fun e ns z => ⟨z.1, z.2.1, by unfold IL; rw [upd_ne z.1]; exact s3 _ _ z.2.2⟩), by rw [List.length_append, lrw]; rfl, fun e he => ?_⟩
                rcases List.mem_append.mp he with he | he
                · exact hge e he
                · obtain rfl := List.mem_singleton.mp he
                  exact hg
              refine ⟨rfl, _, rfl, _, rfl, _, _, rfl, rfl, _, _, rfl, rfl, .inl ⟨by omega, by omega⟩, _, rfl, _, _, rfl, rfl, _, _, rfl, rfl, .inr ⟨by omega, by omega⟩, _, rfl, _, rfl, _, _, rfl, rfl, .inl ⟨by omega, by omega⟩, _, _, rfl, rfl, .inl ⟨_, rfl, _, _, rfl, rfl, by show (0 : Int) < 19; omega, _, _, rfl, rfl, ?_⟩⟩
              generalize ((1 + st) * (0 + (i : Int) + 1) * (0 + (j : Int) + 2) + (0 + (i : Int)) * (0 + (j : Int))) = z
              refine ⟨by show 1 ≤ sizeLine; decide, fun l1 nl1 => ?_⟩
              have u1 := same_upd nl1 (o := .lst [.int (z % 19 - 9)])
              refine ⟨by show 0 ≤ sizeLine; decide, fun l2 nl2 => ?_⟩
              have u2 := same_upd nl2 (o := .lst [])
              refine ⟨l1, l2, [z % 19 - 9], [], rfl, u2 _ _ upd_same, upd_same, by show 1 ≤ 400; decide, by show 0 ≤ 400; decide, fun G3 n s3 nn hn => ?_⟩
              refine go G3 n _ ((u1.trans u2).trans s3) (u1.free (u2.free nn)) hn ⟨can_padd _ _, fun m => ?_, Nat.le_trans (padd_len _ _) (by show max 1 0 ≤ 41; decide)⟩
              rw [cf_padd, show cf [] m = 0 from cf_ge (Nat.zero_le _), Int.add_zero]
              exact bd_all (xs := [z % 19 - 9]) (fun x hx => by obtain rfl := List.mem_singleton.mp hx; exact Nat.lt_of_le_of_lt (show _ ≤ 5000 by omega) (by decide)) m
            · obtain ⟨es, row, rfl, hE, lrw, hge⟩ := hR2
              refine qt _ _ sm2 ⟨tab ++ [row], hT.snoc sm (by rw [hD]; exact fun z => nomatch z) sm2 nD2 ⟨es, hD2, hE.mono fun _ _ z => z.2⟩, by rw [List.length_append, lt]; rfl, fun r hr => ?_⟩
              rcases List.mem_append.mp hr with hr | hr
              · exact hall r hr
              · obtain rfl := List.mem_singleton.mp hr
                exact ⟨lrw, hge⟩
          · obtain ⟨tab, hT, lt, hall⟩ := hR
            exact q G D tab sm nD ⟨ys, hD, hT⟩ lt hall
        · refine ⟨_, rfl, (rows : Nat), rfl, by omega, by omega, fun D nD => ?_⟩
          rw [Int.toNat_natCast]
          refine lc_inv (walk_range (lo := 0) (n := rows)) (fun i G ys => ∃ tab : Tb, TabN D H G ys tab ∧ tab.length = i ∧ ∀ r ∈ tab, r.length = columns ∧ ∀ e ∈ r, Ge e) nD (fun _ _ => trivial) (small' (by omega)) ⟨[], .nil, rfl, fun _ h => by cases h⟩ (fun i x G Gx ys hi sm hD hR y Qt Qf qt qf => ?_) (fun G ys sm hD hR => ?_)
          · obtain ⟨rfl, rfl⟩ := y
            obtain ⟨tab, hT, lt, hall⟩ := hR
            refine ⟨rfl, _, rfl, (columns : Nat), rfl, by omega, by omega, fun D2 nD2 => ?_⟩
            rw [Int.toNat_natCast]
            refine lc_inv (walk_range (lo := 0) (n := columns)) (fun j G2 ys2 => ∃ (es : List Addr) (row : List (List Int)), ys2 = es.map V.ref ∧ A2 (fun e ns => e ≠ D2 ∧ Gx e = none ∧ IL G2 e ns) es row ∧ row.length = j ∧ ∀ e ∈ row, Ge e) nD2 (fun _ _ => trivial) (small' (by omega)) ⟨[], [], rfl, .nil, rfl, fun _ h => by cases h⟩ (fun j x2 G2 Gx2 ys2 hj sm2 hD2 hR2 y2 Qt2 Qf2 qt2 qf2 => ?_) (fun G2 ys2 sm2 hD2 hR2 => ?_)
            · obtain ⟨rfl, rfl⟩ := y2
              obtain ⟨es, row, rfl, hE, lrw, hge⟩ := hR2
              have go : ∀ G3 n ns, Same Gx2 G3 → Gx2 n = none → IL G3 n ns → Ge ns → Qt2 (.ref n) G3 := fun G3 n ns s3 nn hn hg => by
                have nD3 : n ≠ D2 := fun z => by rw [z, hD2] at nn; cases nn
                refine qt2 _ _ s3 ⟨es ++ [n], row ++ [ns], by rw [List.map_append]; rfl, A2.snoc ⟨nD3, sm2.free nn, by unfold IL; rw [upd_ne nD3]; exact hn⟩ (hE.mono fun e ns z => ⟨z.1, z.2.1, by unfold IL; rw [upd_ne z.1]; exact s3 _ _ z.2.2⟩), by rw [List.length_append, lrw]; rfl, fun e he => ?_⟩
                rcases List.mem_append.mp he with he | he
                · exact hge e he
                · obtain rfl := List.mem_singleton.mp he
                  exact hg
              exact ⟨rfl, .ref a, rfl, _, rfl, _, rfl, _, _, rfl, rfl, .inl ⟨by decide, by decide⟩, _, rfl, _, _, rfl, rfl, _, _, rfl, rfl, .inl ⟨by decide, by decide⟩, _, _, rfl, rfl, a, ds, _, rfl, (ha.same sm).same sm2, by omega, fun G3 n ns s3 nn hn c1 c2 c3 => go G3 n ns s3 nn hn ⟨c1, c2, c3⟩⟩
            · obtain ⟨es, row, rfl, hE, lrw, hge⟩ := hR2
              refine qt _ _ sm2 ⟨tab ++ [row], hT.snoc sm (by rw [hD]; exact fun z => nomatch z) sm2 nD2 ⟨es, hD2, hE.mono fun _ _ z => z.2⟩, by rw [List.length_append, lt]; rfl, fun r hr => ?_⟩
              rcases List.mem_append.mp hr with hr | hr
              · exact hall r hr
              · obtain rfl := List.mem_singleton.mp hr
                exact ⟨lrw, hge⟩
          · obtain ⟨tab, hT, lt, hall⟩ := hR
            exact q G D tab sm nD ⟨ys, hD, hT⟩ lt hall
end
-- A01
section
variable {P : Program} {w : World} {K : PySem.W.Frag} {mg : Str → Option Value} {base : Heap}
def sp_law_product : Sp := fun vs H Q _ => ∃ (a b : Addr) (one two : Tb) (m : Nat), vs = [.ref a, .ref b, .int (wdt two : Nat)] ∧ TbR H a one ∧ TbR H b two ∧ one.length ≤ 16 ∧ two.length ≤ 16 ∧ (∀ r ∈ one, r.length = two.length ∧ ∀ e ∈ r, Pb e) ∧ (∀ t ∈ two, t.length = m ∧ ∀ e ∈ t, Pb e) ∧ m ≤ 16 ∧ ∀ H' p, Same H H' → TbR H' p (prodT one two) → Q (.ref p) H'
theorem ok_law_product (T : Txt K mg) : FnOk P w K mg base CX0 3 T.law_product.a T.law_product.fd ["one", "two", "columns"] sp_law_product := by
  refine T.law_product.F.ok sc_law_product (fun vs H Q E h => ?_) (fun cdv A outer s H vs Q E hr h => ?_)
  · obtain ⟨a, b, one, two, m, rfl, _⟩ := h
    rfl
  · obtain ⟨a, b, one, two, m, rfl, ha, hb, l1, l2, p1, p2, hm, q⟩ := h
    obtain ⟨as, hal, hA⟩ := ha
    obtain ⟨bs, hbl, hB⟩ := hb
    have la := hA.len
    have lb := hB.len
    have wl := wdt_le fun t ht => (p2 t ht).1
    refine ⟨_, (pss_cons (ps_set (i := 3) sc_law_product.nd rfl (.inl rfl) (pe_lst pa_nil))
      (pss_cons (ps_for PassesOwn.never rfl (pi_list (pv 0)) (pg_name (i := 4) sc_law_product.nd rfl (.inl rfl))
        (pss_cons (ps_set (i := 5) sc_law_product.nd rfl (.inl rfl) (pe_lst pa_nil))
        (pss_cons (ps_for PassesOwn.never rfl (pi_range1 (by rfl) T.m_range (pa_cons (pv 2) pa_nil)) (pg_name (i := 6) sc_law_product.nd rfl (.inl rfl))
          (pss_cons (ps_set (i := 7) sc_law_product.nd rfl (.inl rfl) (pe_lst pa_nil))
          (pss_cons (ps_for PassesOwn.never rfl (pi_range1 (by rfl) T.m_range (pa_cons (pe_callB call_len_seq (by rfl) T.m_len (by decide +kernel) (pa_cons (pv 1) pa_nil)) pa_nil)) (pg_name (i := 8) sc_law_product.nd rfl (.inl rfl))
            (pss_one (ps_set (i := 7) sc_law_product.nd rfl (.inl rfl) (pe_call (ok_law_plus T) (hr.mono (by decide)) (by rfl) T.law_plus.g T.law_plus.F.kp T.law_plus.b .nil pass0 (pa_cons (pv 7) (pa_cons (pe_call (ok_law_times T) (hr.mono (by decide)) (by rfl) T.law_times.g T.law_times.F.kp T.law_times.b .nil pass0 (pa_cons (pe_ix ix_list (pv 4) (pv 8) (fun _ _ => rfl)) (pa_cons (pe_ix ix_list (pe_ix ix_list (pv 1) (pv 8) (fun _ _ => rfl)) (pv 6) (fun _ _ => rfl)) pa_nil))) pa_nil))))))
          (pss_one (ps_expr (pe_bm PySem.F.plainAttrs_list PySem.F.slot_list_append PySem.F.type_list_append mt_append (pv 5) (pa_cons (pv 7) pa_nil)))))))
        (pss_one (ps_expr (pe_bm PySem.F.plainAttrs_list PySem.F.slot_list_append PySem.F.type_list_append mt_append (pv 3) (pa_cons (pv 5) pa_nil)))))))
      (pss_one (ps_ret (pv 3))))), ?_⟩
    refine ⟨by show 0 ≤ sizeLine; decide, fun O nO => ?_⟩
    have s0 := same_upd nO (o := .lst [])
    refine ⟨.ref a, rfl, a, rfl, ⟨_, .of (s0 _ _ hal)⟩, ?_⟩
    refine for_it (walk_list (xs := as.map V.ref)) (fun i σ G => SameX O (upd H O (.lst [])) G ∧ ∃ (v4 v5 v6 v7 v8 : Option V) (ys : List V), σ = [some (.ref a), some (.ref b), some (.int (wdt two : Nat)), some (.ref O), v4, v5, v6, v7, v8] ∧ G O = some (.lst ys) ∧ A2 (TRow O G) ys ((one.take i).map fun row => (List.range (wdt two)).map (cellv row two))) ⟨fun _ _ _ h => h, _, _, _, _, _, [], rfl, upd_same, .nil⟩ (fun i σ G _ hP => .of ((same_x s0 (fun c o n h => hP.1 c o n h) nO) _ _ hal)) (fun i x σ G Gx hi hP y => ?_) (fun σ G hP => ?_)
    · obtain ⟨sX, v4, v5, v6, v7, v8, ys, rfl, hO, hY⟩ := hP
      obtain ⟨rfl, hxi⟩ := y
      obtain ⟨c, hc, rfl⟩ := row_ref hxi
      obtain ⟨row, hrow, hRow⟩ := hA.get hc
      have sG : Same H Gx := same_x s0 sX nO
      obtain ⟨ras, hral, hE⟩ := RowL.same hRow sG
      have pr := p1 row (mem_at hrow)
      have hBG : A2 (RowL Gx) bs two := hB.mono fun _ _ z => RowL.same z sG
      have hblG := sG _ _ hbl
      have lY := hY.len
      refine ⟨by show 0 ≤ sizeLine; decide, fun Ln nLn => ?_⟩
      have LnO : Ln ≠ O := fun z => by rw [z, hO] at nLn; cases nLn
      have s3 := same_upd nLn (o := .lst [])
      refine ⟨_, rfl, (wdt two : Nat), rfl, by omega, by omega, ?_⟩
      rw [Int.toNat_natCast]
      refine for_range (n := wdt two) (lo := 0) (fun j σ G3 => Same Gx G3 ∧ ∃ (v6 v7 v8 : Option V) (cs : List Addr), σ = [some (.ref a), some (.ref b), some (.int (wdt two : Nat)), some (.ref O), some (.ref c), some (.ref Ln), v6, v7, v8] ∧ G3 Ln = some (.lst (cs.map V.ref)) ∧ A2 (fun e ns => (e ≠ O ∧ e ≠ Ln) ∧ IL G3 e ns) cs ((List.range j).map (cellv row two))) ⟨s3, _, _, _, [], rfl, upd_same, .nil⟩ (fun j σ G3 hj hP => ?_) (fun σ G3 hP => ?_)
      · obtain ⟨s4, v6, v7, v8, cs, rfl, hLn, hcs⟩ := hP
        have lcs := hcs.len
        rw [List.length_map, List.length_range] at lcs
        refine ⟨by show 0 ≤ sizeLine; decide, fun t0 nt0 => ?_⟩
        have s5 := same_upd nt0 (o := .lst [])
        have s45 := s4.trans s5
        refine ⟨.ref b, rfl, b, _, rfl, .inl (.of (s45 _ _ hblG)), (two.length : Nat), by rw [List.length_map, lb], by omega, by omega, ?_⟩
        rw [Int.toNat_natCast]
        refine for_range (n := two.length) (lo := 0) (fun l σ G4 => Same G3 G4 ∧ ∃ (t : Addr) (v8 : Option V), σ = [some (.ref a), some (.ref b), some (.int (wdt two : Nat)), some (.ref O), some (.ref c), some (.ref Ln), some (.int (0 + (j : Int))), some (.ref t), v8] ∧ G3 t = none ∧ IL G4 t (((row.zip (pick two j)).take l).foldl pstep []) ∧ (((row.zip (pick two j)).take l).foldl pstep []).length ≤ 200) ⟨s5, t0, v8, rfl, nt0, upd_same, Nat.zero_le _⟩ (fun l σ G4 hl hP => ?_) (fun σ G4 hP => ?_)
        · obtain ⟨s6, t, v8, rfl, nt, ht, hlen⟩ := hP
          have s26 := s4.trans s6
          obtain ⟨e, he⟩ := some_at (xs := row) (i := l) (by have := pr.1; omega)
          obtain ⟨ea, hea, hI⟩ := hE.get' he
          obtain ⟨er, her⟩ := some_at (xs := two) (i := l) hl
          obtain ⟨xa, hxa, xas, hxl, hXE⟩ := hBG.get' her
          have pt := p2 er (mem_at her)
          have wd : wdt two = m := wl.2 (fun z => by rw [z] at hl; exact absurd hl (Nat.not_lt_zero _))
          obtain ⟨f, hf⟩ := some_at (xs := er) (i := j) (by omega)
          obtain ⟨fa, hfa, hF⟩ := hXE.get' hf
          have zp : (row.zip (pick two j))[l]? = some (e, f) := by
            rw [List.getElem?_zip_eq_some]
            refine ⟨he, ?_⟩
            unfold pick
            rw [List.getElem?_map, her]
            show some (er.getD j []) = some f
            rw [List.getD_eq_getElem?_getD, hf]; rfl
          have pe := pr.2 e (mem_at he)
          have pf := pt.2 f (mem_at hf)
          refine ⟨.ref t, rfl, .ref c, rfl, _, rfl, c, _, _, _, rfl, rfl, .of (s26 _ _ hral), by rw [Int.zero_add]; exact atI_nat (by rw [List.getElem?_map, hea]; rfl), .ref b, rfl, _, rfl, b, _, _, _, rfl, rfl, .of (s26 _ _ hblG), by rw [Int.zero_add]; exact atI_nat (by rw [List.getElem?_map, hxa]; rfl), _, rfl, xa, _, _, _, rfl, rfl, .of (s26 _ _ hxl), by rw [Int.zero_add]; exact atI_nat (by rw [List.getElem?_map, hfa]; rfl), ?_⟩
          refine ⟨ea, fa, e, f, rfl, hI.same s26, hF.same s26, pe.1, pf.1, pe.2, pf.2, fun G5 m2 s7 nm hm2 => ?_⟩
          refine ⟨t, m2, _, _, rfl, ht.same s7, hm2, by omega, by have := pmul_len e f; have := pe.1; have := pf.1; omega, fun G6 n s8 nn hn => ?_⟩
          refine ⟨s6.trans (s7.trans s8), n, _, rfl, (s6.trans s7).free nn, ?_, ?_⟩
          · rw [fold_take _ _ zp]; exact hn
          · rw [fold_take _ _ zp]; exact pstep_len hlen pe pf
        · obtain ⟨s6, t, v8, rfl, nt, ht, hlen⟩ := hP
          rw [List.take_of_length_le (by rw [List.length_zip]; unfold pick; rw [List.length_map]; omega)] at ht
          have hLn6 := s6 _ _ hLn
          have tO : t ≠ O := fun z => by rw [z, s4 _ _ hO] at nt; cases nt
          have tL : t ≠ Ln := fun z => by rw [z, hLn] at nt; cases nt
          refine ⟨.ref Ln, rfl, .inl ⟨rfl, _, .of hLn6⟩, _, rfl, Ln, _, _, rfl, rfl, hLn6, small' (by rw [List.length_map]; omega), ?_⟩
          refine ⟨same_over (s4.trans s6) nLn, _, _, _, cs ++ [t], rfl, by rw [upd_same, List.map_append]; rfl, ?_⟩
          rw [List.range_succ, List.map_append]
          exact A2.snoc ⟨⟨tO, tL⟩, by unfold IL; rw [upd_ne tL]; exact ht⟩ (hcs.mono fun e ns z => ⟨z.1, by unfold IL; rw [upd_ne z.1.2]; exact s6 _ _ z.2⟩)
      · obtain ⟨s4, v6, v7, v8, cs, rfl, hLn, hcs⟩ := hP
        refine ⟨.ref O, rfl, .inl ⟨rfl, _, .of (s4 _ _ hO)⟩, _, rfl, O, _, _, rfl, rfl, s4 _ _ hO, small' (by rw [lY, List.length_map, List.length_take]; omega), ?_⟩
        refine ⟨(sX.trans (sx s4)).trans SameX.put, _, _, _, _, _, ys ++ [.ref Ln], rfl, upd_same, ?_⟩
        rw [take_snoc hrow, List.map_append]
        exact A2.snoc ⟨Ln, cs, rfl, LnO, by rw [upd_ne LnO]; exact hLn, hcs.mono fun e ns z => ⟨z.1.1, by unfold IL; rw [upd_ne z.1.1]; exact z.2⟩⟩ (hY.mono fun _ _ z => (z.up (sx s4)).up SameX.put)
    · obtain ⟨sX, v4, v5, v6, v7, v8, ys, rfl, hO, hY⟩ := hP
      rw [List.length_map, List.take_of_length_le (by omega)] at hY
      exact ⟨.ref O, rfl, q G O (same_x s0 sX nO) (TbR.of hO hY)⟩
end
-- C01
set_option exponentiation.threshold 500
def Oe (e : List Int) : Prop := Can e ∧ e.length ≤ 14 ∧ ∀ x ∈ e, x.natAbs < 2 ^ 200
def OKt (tab : Tb) : Prop := tab ≠ [] ∧ tab.length ≤ 13 ∧ ∀ r ∈ tab, r ≠ [] ∧ r.length ≤ 13 ∧ ∀ e ∈ r, Oe e
theorem oe_nil : Oe [] := ⟨.inl rfl, Nat.zero_le _, fun _ h => by cases h⟩
theorem oe_snoc {m : Nat} {x : Int} (hm : m ≤ 13) (h0 : x ≠ 0) (h : x.natAbs < 2 ^ 200) : Oe (List.replicate m 0 ++ [x]) := ⟨can_snoc h0, by rw [List.length_append, List.length_replicate]; show m + 1 ≤ 14; omega, fun y hy => by
  rcases List.mem_append.mp hy with hy | hy
  · rw [(List.mem_replicate.mp hy).2]; decide
  · obtain rfl := List.mem_singleton.mp hy; exact h⟩
theorem A2.all {α β : Type} {R S : α → β → Prop} : ∀ {as : List α} {bs : List β}, A2 R as bs → (∀ (k : Nat) a b, as[k]? = some a → R a b → S a b) → A2 S as bs
  | _, _, .nil, _ => .nil
  | _, _, .cons h t, f => .cons (f 0 _ _ rfl h) (A2.all t fun k a b e r => f (k + 1) a b e r)
theorem A2.setAt {α β : Type} {R S : α → β → Prop} : ∀ {as : List α} {bs : List β}, A2 R as bs → ∀ (i : Nat) (a : α) (b' : β), as[i]? = some a → S a b' → (∀ (k : Nat) a' b, k ≠ i → as[k]? = some a' → R a' b → S a' b) → A2 S as (bs.set i b')
  | _, _, .nil, _, _, _, h, _, _ => by simp at h
  | _, _, .cons h t, 0, a, b', e, s, f => by
    obtain rfl := Option.some.inj e
    exact .cons s (A2.all t fun k a b e r => f (k + 1) a b (by omega) e r)
  | _, _, .cons h t, i + 1, a, b', e, s, f => .cons (f 0 _ _ (by omega) rfl h) (A2.setAt t i a b' e s fun k a b n e r => f (k + 1) a b (by omega) e r)
theorem not_refs {G : Hp} {b e x : Addr} {as : List V} {ns : List Int} (hb : G b = some (.lst (.ref x :: as))) (he : IL G e ns) : b ≠ e := fun z => by
  rw [z] at hb
  have e2 := hb.symm.trans he
  cases ns with
  | nil => cases e2
  | cons n r => cases e2
/-- one place of a new table is set -/
theorem set_row {H G G' : Hp} {p r e' : Addr} {as es : List Addr} {tab : Tb} {row : List (List Int)} {i j : Nat} {ns' : List Int} (hp : G p = some (.lst (as.map V.ref))) (nd : as.Nodup) (hT : A2 (RowN p H G) as tab) (s0 : Same H G) (s : Same G G') (hi : as[i]? = some r) (ht : tab[i]? = some row)
    (hr : G r = some (.lst (es.map V.ref))) (hE : A2 (fun e ns => IL G e ns) es row) (hj : j < row.length) (ne : G e' = none) (he' : IL G' e' ns') : TbR (upd G' r (.lst ((es.map V.ref).set j (.ref e')))) p (tab.set i (row.set j ns')) ∧ Same H (upd G' r (.lst ((es.map V.ref).set j (.ref e')))) := by
  obtain ⟨row2, hr2, nrp, nr0, es2, hes2, hE2⟩ := hT.get hi
  have er : e' ≠ r := fun z => by rw [z, hr] at ne; cases ne
  have les := hE.len
  have nE : ∀ {e : Addr} {ns : List Int}, IL G e ns → e ≠ r := fun {e ns} h => by
    cases es with
    | nil => rw [List.length_nil] at les; omega
    | cons x xs => exact (not_refs (as := xs.map V.ref) (x := x) hr h).symm
  have up : ∀ {e : Addr} {ns : List Int}, IL G e ns → IL (upd G' r (.lst ((es.map V.ref).set j (.ref e')))) e ns := fun {e ns} h => by unfold IL; rw [upd_ne (nE h)]; exact s _ _ h
  have h' : IL (upd G' r (.lst ((es.map V.ref).set j (.ref e')))) e' ns' := by unfold IL; rw [upd_ne er]; exact he'
  refine ⟨⟨as, by rw [upd_ne nrp.symm]; exact s _ _ hp, A2.setAt hT i r _ hi ⟨es.set j e', by rw [upd_same, List.map_set], A2.set h' (hE.mono fun _ _ z => up z) j⟩ fun k a' b nk ha' hR => ?_⟩, same_over (s0.trans s) nr0⟩
  obtain ⟨_, _, es3, h3, hE3⟩ := hR
  have na : a' ≠ r := fun z => nk (by
    have hlt : k < as.length := (List.getElem?_eq_some_iff.mp ha').1
    exact (List.getElem?_inj hlt nd).mp (by rw [ha', hi, z]))
  exact ⟨es3, by rw [upd_ne na]; exact s _ _ h3, hE3.mono fun _ _ z => up z.2.2⟩
section
variable {P : Program} {w : World} {K : PySem.W.Frag} {mg : Str → Option Value} {base : Heap}
theorem ok_one {many : Nat} {n : Int} (hm : 0 < many) (h12 : many ≤ 12) (n0 : n ≠ 0) (nb : n.natAbs < 2 ^ 100) : OKt (oneT many n) := by
  refine ⟨fun z => by have := oneT_len many n; rw [z] at this; simp at this; omega, by rw [oneT_len]; omega, fun r hr => ?_⟩
  obtain ⟨i, _, rfl⟩ := List.mem_map.mp hr
  refine ⟨fun z => by have := congrArg List.length z; rw [List.length_map, List.length_range] at this; simp at this; omega, by rw [List.length_map, List.length_range]; omega, fun e he => ?_⟩
  obtain ⟨j, _, rfl⟩ := List.mem_map.mp he
  show Oe (if i = j then [n] else [])
  by_cases z : i = j
  · rw [if_pos z]
    exact oe_snoc (m := 0) (by decide) n0 (Nat.lt_trans nb (by decide))
  · rw [if_neg z]; exact oe_nil
theorem ok_set {tab : Tb} {row : List (List Int)} {i j : Nat} {e : List Int} (h : OKt tab) (ht : tab[i]? = some row) (he : Oe e) : OKt (tab.set i (row.set j e)) := by
  obtain ⟨h1, h2, h3⟩ := h
  refine ⟨fun z => h1 (List.length_eq_zero_iff.mp (by have := congrArg List.length z; rw [List.length_set] at this; exact this)), by rw [List.length_set]; exact h2, fun r hr => ?_⟩
  rcases mem_set hr with z | rfl
  · exact h3 r z
  · obtain ⟨a, b, c⟩ := h3 row (mem_at ht)
    refine ⟨fun z => a (List.length_eq_zero_iff.mp (by have := congrArg List.length z; rw [List.length_set] at this; exact this)), by rw [List.length_set]; exact b, fun x hx => ?_⟩
    rcases mem_set hx with z | rfl
    · exact c x z
    · exact he
def sp_law_spoilt : Sp := fun vs H Q _ => ∃ (a t : Addr) (ds : List Int) (many : Nat) (n : Int), vs = [.ref a, .ref t, .int n] ∧ IL H a ds ∧ TbR H t (oneT many n) ∧ 0 < many ∧ many ≤ 12 ∧ n ≠ 0 ∧ n.natAbs < 2 ^ 100 ∧ ∀ H' p tab, Same H H' → TbR H' p tab → OKt tab → Q (.ref p) H'
theorem ok_law_spoilt (T : Txt K mg) : FnOk P w K mg base CX0 2 T.law_spoilt.a T.law_spoilt.fd ["draws", "table", "number"] sp_law_spoilt := by
  refine T.law_spoilt.F.ok sc_law_spoilt (fun vs H Q E h => ?_) (fun cdv A outer s H vs Q E hr h => ?_)
  · obtain ⟨a, t, ds, many, n, rfl, _⟩ := h
    rfl
  · obtain ⟨a, t, ds, many, n, rfl, ha, htab, hm, h12, n0, nb, q⟩ := h
    have ok0 := ok_one hm h12 n0 nb
    have l0 := oneT_len many n
    generalize htt : oneT many n = tab at htab ok0 l0
    obtain ⟨tas, htl, hTA⟩ := htab
    have lta := hTA.len
    refine ⟨_, (pss_cons (ps_set (i := 3) sc_law_spoilt.nd rfl (.inl rfl) (pe_call (ok_law_at T) (hr.mono (by decide)) (by rfl) T.law_at.g T.law_at.F.kp T.law_at.b .nil pass0 (pa_cons (pv 0) (pa_cons pe_int (pa_cons pe_int pa_nil)))))
      (pss_cons (ps_set (i := 4) sc_law_spoilt.nd rfl (.inl rfl) (pe_callB call_len_seq (by rfl) T.m_len (by decide +kernel) (pa_cons (pv 1) pa_nil)))
      (pss_cons (ps_set (i := 5) sc_law_spoilt.nd rfl (.inl rfl) (pe_call (ok_law_at T) (hr.mono (by decide)) (by rfl) T.law_at.g T.law_at.F.kp T.law_at.b .nil pass0 (pa_cons (pv 0) (pa_cons pe_int (pa_cons (pv 4) pa_nil)))))
      (pss_cons (ps_set (i := 6) sc_law_spoilt.nd rfl (.inl rfl) (pe_op op_mod (pe_callTy call_int1 (by rfl) T.m_int (by decide +kernel) (pa_cons (pe_op op_add (pe_op op_add (pv 5) pe_int) (pe_call (ok_law_at T) (hr.mono (by decide)) (by rfl) T.law_at.g T.law_at.F.kp T.law_at.b .nil pass0 (pa_cons (pv 0) (pa_cons pe_int (pa_cons (pv 4) pa_nil))))) pa_nil)) (pv 4)))
      (pss_cons (ps_setLc (i := 1) (own := [("row", 7)]) rfl sc_law_spoilt.nd rfl rfl (sw_true rfl rfl rfl (by decide +kernel)) (pi_list (pv 1)) (blkOk_by (N := ["draws", "table", "number", "word", "many", "i", "j", "row", "element", "k"]) (sc := defScope s_law_spoilt) (by decide +kernel)) (fun _ _ _ _ _ => (pg_name (i := 7) sc_law_spoilt.nd rfl (.inl rfl))) (fun _ _ _ _ _ => pts_nil) (fun _ _ _ _ _ => (pe_lc (wi := iList K _) (own := [("element", 8)]) rfl sc_law_spoilt.nd (pi_list (pv 7)) (blkOk_by (N := ["draws", "table", "number", "word", "many", "i", "j", "row", "element", "k"]) (sc := { kind := .function, names := [(".0", .local), ("row", .local)], isGenerator := false, isCoroutine := false, more := [] }) (by decide +kernel)) (fun _ _ _ _ _ => (pg_name (i := 8) sc_law_spoilt.nd rfl (.inl rfl))) (fun _ _ _ _ _ => pts_nil) (fun _ _ _ _ _ => (pe_callTy (T := "list") (r := rListC K) call_listC (by rfl) T.m_list (by decide +kernel) (pa_cons (pv 8) pa_nil))))))
      (pss_cons (ps_if (pt_cmpR op_eq (pv 3) pe_int (nomark _))
        (pss_one (ps_asg (pe_lst (pa_cons (pe_op op_mul (pv 2) (pe_op op_add pe_int (pe_call (ok_law_at T) (hr.mono (by decide)) (by rfl) T.law_at.g T.law_at.F.kp T.law_at.b .nil pass0 (pa_cons (pv 0) (pa_cons pe_int (pa_cons pe_int pa_nil)))))) pa_nil)) (pg_sub (pe_ix ix_list (pv 1) (pv 5) (fun _ _ => rfl)) (pv 5) set_list)))
        (pss_one (ps_if (pt_cmpR op_eq (pv 3) pe_int (nomark _))
          (pss_one (ps_asg (pe_lst pa_nil) (pg_sub (pe_ix ix_list (pv 1) (pv 5) (fun _ _ => rfl)) (pv 5) set_list)))
          (pss_one (ps_if (pt_cmpR op_eq (pv 3) pe_int (nomark _))
            (pss_one (ps_asg (pe_lst (pa_cons (pv 2) (pa_cons (pe_op op_add pe_int (pe_call (ok_law_at T) (hr.mono (by decide)) (by rfl) T.law_at.g T.law_at.F.kp T.law_at.b .nil pass0 (pa_cons (pv 0) (pa_cons pe_int (pa_cons pe_int pa_nil))))) pa_nil))) (pg_sub (pe_ix ix_list (pv 1) (pv 5) (fun _ _ => rfl)) (pv 5) set_list)))
            (pss_one (ps_if (PW.pt (pw_and (pt_cmpR op_eq (pv 3) pe_int (nomark _)) (pw_and1 (pt_cmpR op_ne (pv 5) (pv 6) (nomark _)))))
              (pss_one (ps_asg (pe_op op_cat (pe_lc (own := [("k", 9)]) rfl sc_law_spoilt.nd (pi_range1 (by rfl) T.m_range (pa_cons (pe_call (ok_law_at T) (hr.mono (by decide)) (by rfl) T.law_at.g T.law_at.F.kp T.law_at.b .nil pass0 (pa_cons (pv 0) (pa_cons pe_int (pa_cons pe_int pa_nil)))) pa_nil)) (blkOk_by (N := ["draws", "table", "number", "word", "many", "i", "j", "row", "element", "k"]) (sc := defScope s_law_spoilt) (by decide +kernel)) (fun _ _ _ _ _ => (pg_name (i := 9) sc_law_spoilt.nd rfl (.inl rfl))) (fun _ _ _ _ _ => pts_nil) (fun _ _ _ _ _ => pe_int)) (pe_lst (pa_cons (pe_op op_add pe_int (pe_call (ok_law_at T) (hr.mono (by decide)) (by rfl) T.law_at.g T.law_at.F.kp T.law_at.b .nil pass0 (pa_cons (pv 0) (pa_cons pe_int (pa_cons pe_int pa_nil))))) pa_nil))) (pg_sub (pe_ix ix_list (pv 1) (pv 5) (fun _ _ => rfl)) (pv 6) set_list)))
              (pss_one (ps_if (pt_cmpR op_eq (pv 3) pe_int (nomark _))
                (pss_one (ps_set (i := 1) sc_law_spoilt.nd rfl (.inl rfl) (pe_op op_cat (pv 1) (pe_lst (pa_cons (pe_lc (own := [("k", 9)]) rfl sc_law_spoilt.nd (pi_range1 (by rfl) T.m_range (pa_cons (pv 4) pa_nil)) (blkOk_by (N := ["draws", "table", "number", "word", "many", "i", "j", "row", "element", "k"]) (sc := defScope s_law_spoilt) (by decide +kernel)) (fun _ _ _ _ _ => (pg_name (i := 9) sc_law_spoilt.nd rfl (.inl rfl))) (fun _ _ _ _ _ => pts_nil) (fun _ _ _ _ _ => (pe_lst pa_nil))) pa_nil)))))
                (pss_one (ps_if (pt_cmpR op_eq (pv 3) pe_int (nomark _))
                  (pss_one (ps_setLc (i := 1) (own := [("row", 7)]) rfl sc_law_spoilt.nd rfl rfl (sw_true rfl rfl rfl (by decide +kernel)) (pi_list (pv 1)) (blkOk_by (N := ["draws", "table", "number", "word", "many", "i", "j", "row", "element", "k"]) (sc := defScope s_law_spoilt) (by decide +kernel)) (fun _ _ _ _ _ => (pg_name (i := 7) sc_law_spoilt.nd rfl (.inl rfl))) (fun _ _ _ _ _ => pts_nil) (fun _ _ _ _ _ => (pe_op op_cat (pv 7) (pe_lst (pa_cons (pe_lst pa_nil) pa_nil))))))
                  (pss_one (ps_if (pt_cmpR op_eq (pv 3) pe_int (nomark _))
                    (pss_one (ps_asg (pe_op op_cat (pe_lc (own := [("k", 9)]) rfl sc_law_spoilt.nd (pi_range1 (by rfl) T.m_range (pa_cons (pe_op op_add pe_int (pe_call (ok_law_at T) (hr.mono (by decide)) (by rfl) T.law_at.g T.law_at.F.kp T.law_at.b .nil pass0 (pa_cons (pv 0) (pa_cons pe_int (pa_cons pe_int pa_nil))))) pa_nil)) (blkOk_by (N := ["draws", "table", "number", "word", "many", "i", "j", "row", "element", "k"]) (sc := defScope s_law_spoilt) (by decide +kernel)) (fun _ _ _ _ _ => (pg_name (i := 9) sc_law_spoilt.nd rfl (.inl rfl))) (fun _ _ _ _ _ => pts_nil) (fun _ _ _ _ _ => pe_int)) (pe_lst (pa_cons (pv 2) pa_nil))) (pg_sub (pe_ix ix_list (pv 1) (pv 5) (fun _ _ => rfl)) (pv 5) set_list)))
                    pss_nil)))))))))))))
      (pss_one (ps_ret (pv 1))))))))), ?_⟩
    refine ⟨.ref a, rfl, a, ds, _, _, rfl, ha, by decide, by decide, fun wd w0 w1 => ?_⟩
    refine ⟨.ref t, rfl, t, _, rfl, .inl (.of htl), ?_⟩
    rw [List.length_map, lta, l0]
    refine ⟨.ref a, rfl, _, rfl, a, ds, _, _, rfl, ha, by decide, by omega, fun i i0 i1 => ?_⟩
    refine ⟨_, rfl, _, _, rfl, rfl, .ref a, rfl, _, rfl, a, ds, _, _, rfl, ha, by decide, by omega, fun r r0 r1 => ⟨_, _, rfl, rfl, .inl ⟨_, rfl, _, rfl, _, _, rfl, rfl, by show (0 : Int) < many; omega, ?_⟩⟩⟩
    obtain ⟨x, ex, hx⟩ : ∃ x : Nat, i = (x : Int) ∧ x < many := ⟨i.toNat, by omega, by omega⟩
    subst ex
    obtain ⟨y, ey, hy⟩ : ∃ y : Nat, ((x : Int) + 1 + r) % (many : Int) = (y : Int) ∧ y < many := ⟨(((x : Int) + 1 + r) % (many : Int)).toNat, by
      have := Int.emod_nonneg ((x : Int) + 1 + r) (show (many : Int) ≠ 0 by omega); omega, by
      have := Int.emod_nonneg ((x : Int) + 1 + r) (show (many : Int) ≠ 0 by omega)
      have := Int.emod_lt_of_pos ((x : Int) + 1 + r) (show 0 < (many : Int) by omega); omega⟩
    refine ⟨.ref t, rfl, t, rfl, ⟨_, .of htl⟩, fun D nD => ?_⟩
    refine lc_inv (walk_list (xs := tas.map V.ref)) (fun i G ys => TabN D H G ys (tab.take i)) nD (fun H' s => s.seq (.of htl)) (small' (by rw [List.length_map]; omega)) .nil (fun i u G Gx ys hi sm hD hR y Qt Qf qt qf => ?_) (fun G ys sm hD hR => ?_)
    · obtain ⟨rfl, hxi⟩ := y
      obtain ⟨c, hc, rfl⟩ := row_ref hxi
      obtain ⟨row, hrow, hRow⟩ := hTA.get hc
      obtain ⟨ras, hral, hE⟩ := RowL.same hRow sm
      have lra := hE.len
      have lrow := (ok0.2.2 row (mem_at hrow)).2.1
      refine ⟨rfl, .ref c, rfl, c, rfl, ⟨_, .of hral⟩, fun D2 nD2 => ?_⟩
      refine lc_inv (walk_list (xs := ras.map V.ref)) (fun j G2 ys2 => ∃ es : List Addr, ys2 = es.map V.ref ∧ A2 (fun e ns => e ≠ D2 ∧ Gx e = none ∧ IL G2 e ns) es (row.take j)) nD2 (fun H' s => s.seq (.of hral)) (small' (by rw [List.length_map]; omega)) ⟨[], rfl, .nil⟩ (fun j u2 G2 Gx2 ys2 hj sm2 hD2 hR2 y2 Qt2 Qf2 qt2 qf2 => ?_) (fun G2 ys2 sm2 hD2 hR2 => ?_)
      · obtain ⟨rfl, hx2⟩ := y2
        obtain ⟨ea, hea, rfl⟩ := row_ref hx2
        obtain ⟨e, he, hI⟩ := hE.get hea
        obtain ⟨es, rfl, hES⟩ := hR2
        refine ⟨rfl, .ref ea, rfl, ea, _, rfl, .inl (hI.same sm2).sq, fun n2 nn => ?_⟩
        have s3 := same_upd nn (o := .lst (e.map V.int))
        have nD3 : n2 ≠ D2 := fun z => by rw [z, hD2] at nn; cases nn
        refine qt2 _ _ s3 ⟨es ++ [n2], by rw [List.map_append]; rfl, ?_⟩
        rw [take_snoc he]
        exact A2.snoc ⟨nD3, sm2.free nn, by unfold IL; rw [upd_ne nD3, upd_same]⟩ (hES.mono fun e ns z => ⟨z.1, z.2.1, by unfold IL; rw [upd_ne z.1]; exact s3 _ _ z.2.2⟩)
      · obtain ⟨es, rfl, hES⟩ := hR2
        rw [List.length_map, List.take_of_length_le (by omega)] at hES
        refine qt _ _ sm2 ?_
        rw [take_snoc hrow]
        exact hR.snoc sm (by rw [hD]; exact fun z => nomatch z) sm2 nD2 ⟨es, hD2, hES.mono fun _ _ z => z.2⟩
    rw [List.length_map, List.take_of_length_le (by omega)] at hR
    obtain ⟨as, rfl, nd, hT⟩ := hR
    have haG := ha.same sm
    have las := hT.len
    have tbG : TbR G D tab := ⟨as, hD, hT.mono fun _ _ z => let ⟨_, _, es, hr, hE⟩ := z; ⟨es, hr, hE.mono fun _ _ y => y.2.2⟩⟩
    obtain ⟨row, hrow⟩ := some_at (xs := tab) (i := x) (by omega)
    obtain ⟨ra, hra, nrD, nr0, es, hral, hE0⟩ := hT.get' hrow
    have hE : A2 (fun e ns => IL G e ns) es row := hE0.mono fun _ _ z => z.2.2
    have les := hE.len
    have lrow : row.length = many := by
      rw [← htt, oneT_at hx] at hrow
      cases hrow
      rw [List.length_map, List.length_range]
    have ixr : ixN (as.map V.ref).length (x : Int) = some x := ix_ok rfl (by rw [List.length_map]; omega)
    have atx : atI (as.map V.ref) (x : Int) = some (.ref ra) := atI_nat (by rw [List.getElem?_map, hra]; rfl)
    -- a place is set
    have put : ∀ (G2 : Hp) (e' : Addr) (ns' : List Int) (j : Nat), Same G G2 → G e' = none → IL G2 e' ns' → j < many → Oe ns' → Q (.ref D) (upd G2 ra (.lst ((es.map V.ref).set j (.ref e')))) := fun G2 e' ns' j s ne hI hj ho => by
      obtain ⟨z1, z2⟩ := set_row hD nd hT sm s hra hrow hral hE (show j < row.length by omega) ne hI
      exact q _ D _ z2 z1 (ok_set ok0 hrow ho)
    refine ⟨_, rfl, rfl, _, rfl, ?_⟩
    refine ite2 (fun _ => ?_) (fun _ => ?_)
    · -- 0
      refine ⟨_, rfl, .ref a, rfl, a, ds, _, _, rfl, haG, by decide, by decide, fun r5 p5 u5 => ⟨_, _, rfl, rfl, _, _, rfl, rfl, .inr ⟨by omega, by omega⟩, by show 1 ≤ sizeLine; decide, fun e' ne' => ?_⟩⟩
      have s4 := same_upd ne' (o := .lst [.int (n * (2 + r5))])
      refine ⟨.ref D, rfl, _, rfl, D, _, _, _, rfl, rfl, .of (s4 _ _ hD), atx, _, rfl, ra, _, _, x, rfl, rfl, s4 _ _ hral, ix_ok rfl (by rw [List.length_map]; omega), .ref D, rfl, put _ e' [n * (2 + r5)] x s4 ne' upd_same hx ?_⟩
      refine oe_snoc (m := 0) (by decide) (Int.mul_ne_zero n0 (by omega)) ?_
      rw [Int.natAbs_mul]
      exact Nat.lt_of_lt_of_le (Nat.mul_lt_mul_of_lt_of_le nb (show (2 + r5).natAbs ≤ 16 by omega) (by decide)) (by decide)
    refine ⟨_, rfl, rfl, _, rfl, ?_⟩
    refine ite2 (fun _ => ?_) (fun _ => ?_)
    · -- 1
      refine ⟨by show 0 ≤ sizeLine; decide, fun e' ne' => ?_⟩
      have s4 := same_upd ne' (o := .lst [])
      exact ⟨.ref D, rfl, _, rfl, D, _, _, _, rfl, rfl, .of (s4 _ _ hD), atx, _, rfl, ra, _, _, x, rfl, rfl, s4 _ _ hral, ix_ok rfl (by rw [List.length_map]; omega), .ref D, rfl, put _ e' [] x s4 ne' upd_same hx oe_nil⟩
    refine ⟨_, rfl, rfl, _, rfl, ?_⟩
    refine ite2 (fun _ => ?_) (fun _ => ?_)
    · -- 2
      refine ⟨_, rfl, .ref a, rfl, a, ds, _, _, rfl, haG, by decide, by decide, fun r5 p5 u5 => ⟨_, _, rfl, rfl, by show 2 ≤ sizeLine; decide, fun e' ne' => ?_⟩⟩
      have s4 := same_upd ne' (o := .lst [.int n, .int (1 + r5)])
      refine ⟨.ref D, rfl, _, rfl, D, _, _, _, rfl, rfl, .of (s4 _ _ hD), atx, _, rfl, ra, _, _, x, rfl, rfl, s4 _ _ hral, ix_ok rfl (by rw [List.length_map]; omega), .ref D, rfl, put _ e' [n, 1 + r5] x s4 ne' upd_same hx ⟨can_snoc (xs := [n]) (by omega), by show 2 ≤ 14; decide, fun z hz => ?_⟩⟩
      rcases List.mem_cons.mp hz with rfl | hz
      · exact Nat.lt_trans nb (by decide)
      · obtain rfl := List.mem_singleton.mp hz
        exact Nat.lt_of_le_of_lt (show _ ≤ 100 by omega) (by decide)
    refine ⟨_, rfl, rfl, _, rfl, ?_⟩
    have tbG2 : ∀ G2, Same G G2 → A2 (RowL G2) as tab := fun G2 s => hT.mono fun _ _ z => let ⟨_, _, es, hr, hE⟩ := z; ⟨es, s _ _ hr, hE.mono fun _ _ y => y.2.2.same s⟩
    refine ite2 (fun _ => ⟨_, rfl, _, rfl, rfl, _, rfl, ?_⟩) (fun _ => iteF ?_)
    · refine ite2 (fun _ => ?_) (fun _ => ?_)
      · refine ⟨.ref a, rfl, a, ds, _, _, rfl, haG, by decide, by decide, fun m5 p5 u5 => ?_⟩
        obtain ⟨m, em, hm13⟩ : ∃ m : Nat, m5 = (m : Int) ∧ m ≤ 13 := ⟨(m5).toNat, by omega, by omega⟩
        refine ⟨m5, rfl, by omega, by omega, fun D5 nD5 => ?_⟩
        rw [em, Int.toNat_natCast]
        refine lc_inv (walk_range (lo := 0) (n := m)) (fun k G ys => ys = (List.replicate k (0 : Int)).map V.int) nD5 (fun _ _ => trivial) (small' (by omega)) rfl (fun k u G5 Gx ys hk sm5 hD5 hR y Qt Qf qt qf => ?_) (fun G5 ys sm5 hD5 hR => ?_)
        · obtain ⟨rfl, rfl⟩ := y
          exact ⟨rfl, qt _ _ (Same.refl _) (by rw [hR, List.replicate_succ', List.map_append]; rfl)⟩
        rw [hR] at hD5
        refine ⟨.ref a, rfl, a, ds, _, _, rfl, haG.same sm5, by decide, by decide, fun r5 p6 u6 => ⟨_, _, rfl, rfl, by show 1 ≤ sizeLine; decide, fun l nl => ?_⟩⟩
        have u1 := same_upd nl (o := .lst [.int (1 + r5)])
        refine ⟨D5, l, _, _, rfl, rfl, u1 _ _ hD5, upd_same, by rw [List.length_map, List.length_replicate]; exact small (by show _ + 1 ≤ _; omega), fun e' ne' => ?_⟩
        have s4 := (sm5.trans u1).trans (same_upd ne' (o := .lst ((List.replicate m (0 : Int)).map V.int ++ [.int (1 + r5)])))
        exact ⟨.ref D, rfl, _, rfl, D, _, _, _, rfl, rfl, .of (s4 _ _ hD), atx, _, rfl, ra, _, _, y, rfl, rfl, s4 _ _ hral, ix_ok ey (by rw [List.length_map]; omega), .ref D, rfl, put _ e' (List.replicate m 0 ++ [1 + r5]) y s4 (sm5.free (u1.free ne')) (by unfold IL; rw [upd_same, app_ints]) hy (oe_snoc hm13 (by omega) (Nat.lt_of_le_of_lt (show _ ≤ 100 by omega) (by decide)))⟩
      refine ⟨_, rfl, rfl, _, rfl, ?_⟩
      refine ite2 (fun _ => ?_) (fun _ => ?_)
      · refine ⟨.ref D, rfl, _, rfl, (many : Nat), rfl, by omega, by omega, fun D4 nD4 => ?_⟩
        rw [Int.toNat_natCast]
        refine lc_inv (walk_range (lo := 0) (n := many)) (fun k G4 ys4 => ∃ cs : List Addr, ys4 = cs.map V.ref ∧ A2 (fun e ns => e ≠ D4 ∧ IL G4 e ns) cs (List.replicate k [])) nD4 (fun _ _ => trivial) (small' (by omega)) ⟨[], rfl, .nil⟩ (fun k u G4 Gx ys hk sm4 hD4 hR y Qt Qf qt qf => ?_) (fun G4 ys sm4 hD4 hR => ?_)
        · obtain ⟨rfl, rfl⟩ := y
          obtain ⟨cs, rfl, hcs⟩ := hR
          refine ⟨rfl, by show 0 ≤ sizeLine; decide, fun l nl => ?_⟩
          have u1 := same_upd nl (o := .lst [])
          have lD : l ≠ D4 := fun z => by rw [z, hD4] at nl; cases nl
          refine qt _ _ u1 ⟨cs ++ [l], by rw [List.map_append]; rfl, ?_⟩
          rw [List.replicate_succ']
          exact A2.snoc ⟨lD, by unfold IL; rw [upd_ne lD, upd_same]; rfl⟩ (hcs.mono fun e ns z => ⟨z.1, by unfold IL; rw [upd_ne z.1]; exact u1 _ _ z.2⟩)
        obtain ⟨cs, rfl, hcs⟩ := hR
        refine ⟨by show 1 ≤ sizeLine; decide, fun l nl => ?_⟩
        have u1 := same_upd nl (o := .lst [.ref D4])
        have u2 := sm4.trans u1
        refine ⟨D, l, _, _, rfl, rfl, u2 _ _ hD, upd_same, by rw [List.length_map]; exact small (by show _ + 1 ≤ _; omega), fun c nc => ?_⟩
        have u3a := same_upd nc (o := .lst (as.map V.ref ++ [.ref D4]))
        have u13 := u1.trans u3a
        refine ⟨.ref c, rfl, q _ c (tab ++ [List.replicate many []]) (sm.trans (sm4.trans u13)) ⟨as ++ [D4], by rw [upd_same, List.map_append]; rfl, A2.snoc ⟨cs, u13 _ _ hD4, hcs.mono fun _ _ z => z.2.same u13⟩ (tbG2 _ (sm4.trans u13))⟩ ⟨by simp, by rw [List.length_append]; show _ + 1 ≤ 13; omega, fun r hr => ?_⟩⟩
        rcases List.mem_append.mp hr with hr | hr
        · exact ok0.2.2 r hr
        · obtain rfl := List.mem_singleton.mp hr
          exact ⟨fun z => by have := congrArg List.length z; rw [List.length_replicate] at this; simp at this; omega, by rw [List.length_replicate]; omega, fun e he => by rw [(List.mem_replicate.mp he).2]; exact oe_nil⟩
      refine ⟨_, rfl, rfl, _, rfl, ?_⟩
      refine ite2 (fun _ => ?_) (fun _ => ?_)
      · refine ⟨.ref D, rfl, D, rfl, ⟨_, .of hD⟩, fun D5 nD5 => ?_⟩
        refine lc_fm (walk_list (xs := as.map V.ref)) tab (fun row => some (row ++ [[]])) (TRow D5) (fun _ _ _ _ s h => h.up s) (by rw [List.length_map, las]) nD5 (fun H' s => s.seq (.of hD)) (small' (by rw [List.length_map]; omega)) (fun k u G5 Gx ys r5 hr5 sm5 hD5 y Qt Qf qt qf => ?_) (fun G5 ys sm5 hD5 hR => ?_)
        · obtain ⟨rfl, hxi⟩ := y
          obtain ⟨c, hc, rfl⟩ := row_ref hxi
          obtain ⟨r6, hr6, _, _, es6, hl6, hE6⟩ := hT.get hc
          obtain rfl := Option.some.inj (hr5.symm.trans hr6)
          have l6 := hE6.len
          have o6 := (ok0.2.2 r5 (mem_at hr5)).2.1
          refine ⟨rfl, .ref c, rfl, by show 0 ≤ sizeLine; decide, fun l0' n0' => ?_⟩
          have u1 := same_upd n0' (o := .lst [])
          refine ⟨by show 1 ≤ sizeLine; decide, fun l1' n1' => ?_⟩
          have u2 := same_upd n1' (o := .lst [.ref l0'])
          have u12 := u1.trans u2
          refine ⟨c, l1', _, _, rfl, rfl, u12 _ _ (sm5 _ _ hl6), upd_same, by rw [List.length_map]; exact small (by show _ + 1 ≤ _; omega), fun c2 nc2 => ?_⟩
          have u3 := same_upd nc2 (o := .lst (es6.map V.ref ++ [.ref l0']))
          have off : ∀ {e : Addr} {ns : List Int}, IL G e ns → e ≠ D5 := fun {e ns} h z => by
            have := h
            unfold IL at this
            rw [z, nD5] at this
            cases this
          have nl0 : l0' ≠ D5 := fun z => by rw [z, hD5] at n0'; cases n0'
          have nc2' : c2 ≠ D5 := fun z => by rw [z, u12 _ _ hD5] at nc2; cases nc2
          exact qt _ _ _ rfl (u12.trans u3) ⟨c2, es6 ++ [l0'], rfl, nc2', by rw [upd_same, List.map_append]; rfl, A2.snoc ⟨nl0, by unfold IL; rw [u3 _ _ (u2 _ _ upd_same)]; rfl⟩ (hE6.mono fun e ns z => ⟨off z.2.2, ((z.2.2.same sm5).same u12).same u3⟩)⟩
        rw [fm_some] at hR
        refine ⟨.ref D5, rfl, q G5 D5 _ (sm.trans sm5) (TbR.of hD5 hR) ⟨fun z => ok0.1 (List.map_eq_nil_iff.mp z), by rw [List.length_map]; exact ok0.2.1, fun r hr => ?_⟩⟩
        obtain ⟨r7, hr7, rfl⟩ := List.mem_map.mp hr
        have l7 : r7.length = many := by
          rw [← htt] at hr7
          obtain ⟨i7, _, rfl⟩ := List.mem_map.mp hr7
          rw [List.length_map, List.length_range]
        refine ⟨by simp, by rw [List.length_append, l7]; show many + 1 ≤ 13; omega, fun e he => ?_⟩
        rcases List.mem_append.mp he with he | he
        · exact (ok0.2.2 r7 hr7).2.2 e he
        · obtain rfl := List.mem_singleton.mp he
          exact oe_nil
      refine ⟨_, rfl, rfl, _, rfl, ?_⟩
      refine ite2 (fun _ => ?_) (fun _ => ?_)
      · refine ⟨.ref a, rfl, a, ds, _, _, rfl, haG, by decide, by decide, fun m5 p5 u5 => ⟨_, _, rfl, rfl, ?_⟩⟩
        obtain ⟨m, em, hm13⟩ : ∃ m : Nat, 1 + m5 = (m : Int) ∧ m ≤ 13 := ⟨(1 + m5).toNat, by omega, by omega⟩
        refine ⟨1 + m5, rfl, by omega, by omega, fun D5 nD5 => ?_⟩
        rw [em, Int.toNat_natCast]
        refine lc_inv (walk_range (lo := 0) (n := m)) (fun k G ys => ys = (List.replicate k (0 : Int)).map V.int) nD5 (fun _ _ => trivial) (small' (by omega)) rfl (fun k u G5 Gx ys hk sm5 hD5 hR y Qt Qf qt qf => ?_) (fun G5 ys sm5 hD5 hR => ?_)
        · obtain ⟨rfl, rfl⟩ := y
          exact ⟨rfl, qt _ _ (Same.refl _) (by rw [hR, List.replicate_succ', List.map_append]; rfl)⟩
        rw [hR] at hD5
        refine ⟨_, rfl, by show 1 ≤ sizeLine; decide, fun l nl => ?_⟩
        have u1 := same_upd nl (o := .lst [.int n])
        refine ⟨D5, l, _, _, rfl, rfl, u1 _ _ hD5, upd_same, by rw [List.length_map, List.length_replicate]; exact small (by show _ + 1 ≤ _; omega), fun e' ne' => ?_⟩
        have s4 := (sm5.trans u1).trans (same_upd ne' (o := .lst ((List.replicate m (0 : Int)).map V.int ++ [.int n])))
        exact ⟨.ref D, rfl, _, rfl, D, _, _, _, rfl, rfl, .of (s4 _ _ hD), atx, _, rfl, ra, _, _, x, rfl, rfl, s4 _ _ hral, ix_ok rfl (by rw [List.length_map]; omega), .ref D, rfl, put _ e' (List.replicate m 0 ++ [n]) x s4 (sm5.free (u1.free ne')) (by unfold IL; rw [upd_same, app_ints]) hx (oe_snoc hm13 n0 (Nat.lt_trans nb (by decide)))⟩
      exact ⟨.ref D, rfl, q G D tab sm tbG ok0⟩
    · refine ⟨_, rfl, rfl, _, rfl, ?_⟩
      refine ite2 (fun _ => ?_) (fun _ => ?_)
      · refine ⟨.ref D, rfl, _, rfl, (many : Nat), rfl, by omega, by omega, fun D4 nD4 => ?_⟩
        rw [Int.toNat_natCast]
        refine lc_inv (walk_range (lo := 0) (n := many)) (fun k G4 ys4 => ∃ cs : List Addr, ys4 = cs.map V.ref ∧ A2 (fun e ns => e ≠ D4 ∧ IL G4 e ns) cs (List.replicate k [])) nD4 (fun _ _ => trivial) (small' (by omega)) ⟨[], rfl, .nil⟩ (fun k u G4 Gx ys hk sm4 hD4 hR y Qt Qf qt qf => ?_) (fun G4 ys sm4 hD4 hR => ?_)
        · obtain ⟨rfl, rfl⟩ := y
          obtain ⟨cs, rfl, hcs⟩ := hR
          refine ⟨rfl, by show 0 ≤ sizeLine; decide, fun l nl => ?_⟩
          have u1 := same_upd nl (o := .lst [])
          have lD : l ≠ D4 := fun z => by rw [z, hD4] at nl; cases nl
          refine qt _ _ u1 ⟨cs ++ [l], by rw [List.map_append]; rfl, ?_⟩
          rw [List.replicate_succ']
          exact A2.snoc ⟨lD, by unfold IL; rw [upd_ne lD, upd_same]; rfl⟩ (hcs.mono fun e ns z => ⟨z.1, by unfold IL; rw [upd_ne z.1]; exact u1 _ _ z.2⟩)
        obtain ⟨cs, rfl, hcs⟩ := hR
        refine ⟨by show 1 ≤ sizeLine; decide, fun l nl => ?_⟩
        have u1 := same_upd nl (o := .lst [.ref D4])
        have u2 := sm4.trans u1
        refine ⟨D, l, _, _, rfl, rfl, u2 _ _ hD, upd_same, by rw [List.length_map]; exact small (by show _ + 1 ≤ _; omega), fun c nc => ?_⟩
        have u3a := same_upd nc (o := .lst (as.map V.ref ++ [.ref D4]))
        have u13 := u1.trans u3a
        refine ⟨.ref c, rfl, q _ c (tab ++ [List.replicate many []]) (sm.trans (sm4.trans u13)) ⟨as ++ [D4], by rw [upd_same, List.map_append]; rfl, A2.snoc ⟨cs, u13 _ _ hD4, hcs.mono fun _ _ z => z.2.same u13⟩ (tbG2 _ (sm4.trans u13))⟩ ⟨by simp, by rw [List.length_append]; show _ + 1 ≤ 13; omega, fun r hr => ?_⟩⟩
        rcases List.mem_append.mp hr with hr | hr
        · exact ok0.2.2 r hr
        · obtain rfl := List.mem_singleton.mp hr
          exact ⟨fun z => by have := congrArg List.length z; rw [List.length_replicate] at this; simp at this; omega, by rw [List.length_replicate]; omega, fun e he => by rw [(List.mem_replicate.mp he).2]; exact oe_nil⟩
      refine ⟨_, rfl, rfl, _, rfl, ?_⟩
      refine ite2 (fun _ => ?_) (fun _ => ?_)
      · refine ⟨.ref D, rfl, D, rfl, ⟨_, .of hD⟩, fun D5 nD5 => ?_⟩
        refine lc_fm (walk_list (xs := as.map V.ref)) tab (fun row => some (row ++ [[]])) (TRow D5) (fun _ _ _ _ s h => h.up s) (by rw [List.length_map, las]) nD5 (fun H' s => s.seq (.of hD)) (small' (by rw [List.length_map]; omega)) (fun k u G5 Gx ys r5 hr5 sm5 hD5 y Qt Qf qt qf => ?_) (fun G5 ys sm5 hD5 hR => ?_)
        · obtain ⟨rfl, hxi⟩ := y
          obtain ⟨c, hc, rfl⟩ := row_ref hxi
          obtain ⟨r6, hr6, _, _, es6, hl6, hE6⟩ := hT.get hc
          obtain rfl := Option.some.inj (hr5.symm.trans hr6)
          have l6 := hE6.len
          have o6 := (ok0.2.2 r5 (mem_at hr5)).2.1
          refine ⟨rfl, .ref c, rfl, by show 0 ≤ sizeLine; decide, fun l0' n0' => ?_⟩
          have u1 := same_upd n0' (o := .lst [])
          refine ⟨by show 1 ≤ sizeLine; decide, fun l1' n1' => ?_⟩
          have u2 := same_upd n1' (o := .lst [.ref l0'])
          have u12 := u1.trans u2
          refine ⟨c, l1', _, _, rfl, rfl, u12 _ _ (sm5 _ _ hl6), upd_same, by rw [List.length_map]; exact small (by show _ + 1 ≤ _; omega), fun c2 nc2 => ?_⟩
          have u3 := same_upd nc2 (o := .lst (es6.map V.ref ++ [.ref l0']))
          have off : ∀ {e : Addr} {ns : List Int}, IL G e ns → e ≠ D5 := fun {e ns} h z => by
            have := h
            unfold IL at this
            rw [z, nD5] at this
            cases this
          have nl0 : l0' ≠ D5 := fun z => by rw [z, hD5] at n0'; cases n0'
          have nc2' : c2 ≠ D5 := fun z => by rw [z, u12 _ _ hD5] at nc2; cases nc2
          exact qt _ _ _ rfl (u12.trans u3) ⟨c2, es6 ++ [l0'], rfl, nc2', by rw [upd_same, List.map_append]; rfl, A2.snoc ⟨nl0, by unfold IL; rw [u3 _ _ (u2 _ _ upd_same)]; rfl⟩ (hE6.mono fun e ns z => ⟨off z.2.2, ((z.2.2.same sm5).same u12).same u3⟩)⟩
        rw [fm_some] at hR
        refine ⟨.ref D5, rfl, q G5 D5 _ (sm.trans sm5) (TbR.of hD5 hR) ⟨fun z => ok0.1 (List.map_eq_nil_iff.mp z), by rw [List.length_map]; exact ok0.2.1, fun r hr => ?_⟩⟩
        obtain ⟨r7, hr7, rfl⟩ := List.mem_map.mp hr
        have l7 : r7.length = many := by
          rw [← htt] at hr7
          obtain ⟨i7, _, rfl⟩ := List.mem_map.mp hr7
          rw [List.length_map, List.length_range]
        refine ⟨by simp, by rw [List.length_append, l7]; show many + 1 ≤ 13; omega, fun e he => ?_⟩
        rcases List.mem_append.mp he with he | he
        · exact (ok0.2.2 r7 hr7).2.2 e he
        · obtain rfl := List.mem_singleton.mp he
          exact oe_nil
      refine ⟨_, rfl, rfl, _, rfl, ?_⟩
      refine ite2 (fun _ => ?_) (fun _ => ?_)
      · refine ⟨.ref a, rfl, a, ds, _, _, rfl, haG, by decide, by decide, fun m5 p5 u5 => ⟨_, _, rfl, rfl, ?_⟩⟩
        obtain ⟨m, em, hm13⟩ : ∃ m : Nat, 1 + m5 = (m : Int) ∧ m ≤ 13 := ⟨(1 + m5).toNat, by omega, by omega⟩
        refine ⟨1 + m5, rfl, by omega, by omega, fun D5 nD5 => ?_⟩
        rw [em, Int.toNat_natCast]
        refine lc_inv (walk_range (lo := 0) (n := m)) (fun k G ys => ys = (List.replicate k (0 : Int)).map V.int) nD5 (fun _ _ => trivial) (small' (by omega)) rfl (fun k u G5 Gx ys hk sm5 hD5 hR y Qt Qf qt qf => ?_) (fun G5 ys sm5 hD5 hR => ?_)
        · obtain ⟨rfl, rfl⟩ := y
          exact ⟨rfl, qt _ _ (Same.refl _) (by rw [hR, List.replicate_succ', List.map_append]; rfl)⟩
        rw [hR] at hD5
        refine ⟨_, rfl, by show 1 ≤ sizeLine; decide, fun l nl => ?_⟩
        have u1 := same_upd nl (o := .lst [.int n])
        refine ⟨D5, l, _, _, rfl, rfl, u1 _ _ hD5, upd_same, by rw [List.length_map, List.length_replicate]; exact small (by show _ + 1 ≤ _; omega), fun e' ne' => ?_⟩
        have s4 := (sm5.trans u1).trans (same_upd ne' (o := .lst ((List.replicate m (0 : Int)).map V.int ++ [.int n])))
        exact ⟨.ref D, rfl, _, rfl, D, _, _, _, rfl, rfl, .of (s4 _ _ hD), atx, _, rfl, ra, _, _, x, rfl, rfl, s4 _ _ hral, ix_ok rfl (by rw [List.length_map]; omega), .ref D, rfl, put _ e' (List.replicate m 0 ++ [n]) x s4 (sm5.free (u1.free ne')) (by unfold IL; rw [upd_same, app_ints]) hx (oe_snoc hm13 n0 (Nat.lt_trans nb (by decide)))⟩
      exact ⟨.ref D, rfl, q G D tab sm tbG ok0⟩
end
-- J01
/-! ### sums of products -/
abbrev Co := Nat → Int
def cv (u v : Co) : Nat → Nat → Int
  | 0, _ => 0
  | n + 1, m => cv u v n m + u n * (if n ≤ m then v (m - n) else 0)
theorem conv_cv (a b : List Int) : ∀ n m, conv a b n m = cv (cf a) (cf b) n m
  | 0, _ => rfl
  | n + 1, m => by
    show conv a b n m + _ = cv _ _ n m + _
    rw [conv_cv a b n m]
theorem cv_ge {u v : Co} {l m : Nat} (h0 : ∀ k, l ≤ k → u k = 0) : ∀ {n : Nat}, l ≤ n → cv u v n m = cv u v l m
  | 0, h => by rw [show l = 0 by omega]
  | n + 1, h => by
    by_cases z : l = n + 1
    · rw [z]
    · show cv u v n m + u n * _ = _
      rw [cv_ge h0 (by omega), h0 n (by omega), Int.zero_mul, Int.add_zero]
theorem cv_stop {u v : Co} {m : Nat} : ∀ {n : Nat}, m + 1 ≤ n → cv u v n m = cv u v (m + 1) m
  | 0, h => by omega
  | n + 1, h => by
    by_cases z : n = m
    · rw [z]
    · show cv u v n m + u n * (if n ≤ m then _ else 0) = _
      rw [if_neg (by omega), Int.mul_zero, Int.add_zero, cv_stop (by omega)]
/-- the product -/
def PC (u v : Co) : Co := fun m => cv u v (m + 1) m
theorem cf_pc (a b : List Int) : cf (pmul a b) = PC (cf a) (cf b) := funext fun m => by
  rw [cf_pmul, conv_cv]
  have h0 : ∀ k, a.length ≤ k → cf a k = 0 := fun k h => cf_ge h
  rcases Nat.le_total a.length (m + 1) with h | h
  · exact (cv_ge h0 h).symm
  · exact cv_stop h
def ad (u v : Co) : Co := fun m => u m + v m
theorem cf_ad (a b : List Int) : cf (padd a b) = ad (cf a) (cf b) := funext fun m => cf_padd a b m
theorem cv_adl (u u' v : Co) : ∀ n m, cv (ad u u') v n m = cv u v n m + cv u' v n m
  | 0, _ => rfl
  | n + 1, m => by
    show cv (ad u u') v n m + (u n + u' n) * _ = (cv u v n m + u n * _) + (cv u' v n m + u' n * _)
    rw [cv_adl u u' v n m, Int.add_mul]; omega
theorem cv_adr (u v v' : Co) : ∀ n m, cv u (ad v v') n m = cv u v n m + cv u v' n m
  | 0, _ => rfl
  | n + 1, m => by
    show cv u (ad v v') n m + u n * (if n ≤ m then v (m - n) + v' (m - n) else 0) = (cv u v n m + u n * (if n ≤ m then v (m - n) else 0)) + (cv u v' n m + u n * (if n ≤ m then v' (m - n) else 0))
    rw [cv_adr u v v' n m]
    by_cases z : n ≤ m
    · rw [if_pos z, if_pos z, if_pos z, Int.mul_add]; omega
    · rw [if_neg z, if_neg z, if_neg z]; omega
theorem pc_adl (u u' v : Co) : PC (ad u u') v = ad (PC u v) (PC u' v) := funext fun m => cv_adl u u' v _ m
theorem pc_adr (u v v' : Co) : PC u (ad v v') = ad (PC u v) (PC u v') := funext fun m => cv_adr u v v' _ m
def sc (c : Int) (u : Co) : Co := fun m => c * u m
def sh (u : Co) : Co := fun m => if m = 0 then 0 else u (m - 1)
theorem cv_scl (c : Int) (u v : Co) : ∀ n m, cv (sc c u) v n m = c * cv u v n m
  | 0, _ => (Int.mul_zero c).symm
  | n + 1, m => by
    show cv (sc c u) v n m + c * u n * _ = c * (cv u v n m + u n * _)
    rw [cv_scl c u v n m, Int.mul_add, Int.mul_assoc]
theorem cv_scr (c : Int) (u v : Co) : ∀ n m, cv u (sc c v) n m = c * cv u v n m
  | 0, _ => (Int.mul_zero c).symm
  | n + 1, m => by
    show cv u (sc c v) n m + u n * (if n ≤ m then c * v (m - n) else 0) = c * (cv u v n m + u n * (if n ≤ m then v (m - n) else 0))
    rw [cv_scr c u v n m, Int.mul_add]
    by_cases z : n ≤ m
    · rw [if_pos z, if_pos z, ← Int.mul_assoc, ← Int.mul_assoc, Int.mul_comm (u n) c]
    · rw [if_neg z, if_neg z, Int.mul_zero, Int.mul_zero]
theorem pc_scl (c : Int) (u v : Co) : PC (sc c u) v = sc c (PC u v) := funext fun m => cv_scl c u v _ m
theorem pc_scr (c : Int) (u v : Co) : PC u (sc c v) = sc c (PC u v) := funext fun m => cv_scr c u v _ m
theorem cv_shr (u v : Co) : ∀ n m, cv u (sh v) n (m + 1) = cv u v n m + (if m + 1 < n then 0 else 0)
  | 0, _ => by simp [cv]
  | n + 1, m => by
    show cv u (sh v) n (m + 1) + u n * (if n ≤ m + 1 then sh v (m + 1 - n) else 0) = cv u v n m + u n * (if n ≤ m then v (m - n) else 0) + _
    rw [cv_shr u v n m]
    have e : (if n ≤ m + 1 then sh v (m + 1 - n) else 0) = (if n ≤ m then v (m - n) else 0) := by
      unfold sh
      by_cases z : n ≤ m
      · rw [if_pos (by omega), if_neg (by omega), if_pos z, show m + 1 - n - 1 = m - n by omega]
      · by_cases y : n ≤ m + 1
        · rw [if_pos y, if_pos (by omega), if_neg z]
        · rw [if_neg y, if_neg z]
    rw [e]
    simp
theorem pc_shr (u v : Co) : PC u (sh v) = sh (PC u v) := funext fun m => by
  cases m with
  | zero =>
    show 0 + u 0 * (if 0 ≤ 0 then sh v 0 else 0) = 0
    simp [sh]
  | succ m =>
    show cv u (sh v) (m + 2) (m + 1) = cv u v (m + 1) m
    rw [cv_shr, cv_stop (by omega)]
    simp
theorem cv_shl (u v : Co) : ∀ n m, cv (sh u) v (n + 1) m = if m = 0 then 0 else cv u v n (m - 1)
  | 0, m => by
    show 0 + sh u 0 * _ = _
    simp [sh, cv]
  | n + 1, m => by
    show cv (sh u) v (n + 1) m + u n * (if n + 1 ≤ m then v (m - (n + 1)) else 0) = _
    rw [cv_shl u v n m]
    by_cases z : m = 0
    · rw [if_pos z, if_pos z, if_neg (by omega)]; simp
    · rw [if_neg z, if_neg z]
      show _ = cv u v n (m - 1) + u n * (if n ≤ m - 1 then v (m - 1 - n) else 0)
      by_cases y : n + 1 ≤ m
      · rw [if_pos y, if_pos (by omega), show m - (n + 1) = m - 1 - n by omega]
      · rw [if_neg y, if_neg (by omega)]
theorem pc_shl (u v : Co) : PC (sh u) v = sh (PC u v) := funext fun m => by
  show cv (sh u) v (m + 1) m = if m = 0 then 0 else cv u v (m - 1 + 1) (m - 1)
  rw [cv_shl]
  by_cases z : m = 0
  · rw [if_pos z, if_pos z]
  · rw [if_neg z, if_neg z]
    show _ = cv u v (m - 1 + 1) (m - 1)
    rw [show m - 1 + 1 = m by omega]
/-! ### what a factor does -/
def zr : Co := fun _ => 0
structure Fac (F : Co → Co) : Prop where
  add : ∀ u v, F (ad u v) = ad (F u) (F v)
  pcl : ∀ u v, PC (F u) v = F (PC u v)
  pcr : ∀ u v, PC u (F v) = F (PC u v)
theorem ad_zr (u : Co) : ad u zr = u := funext fun m => Int.add_zero _
theorem Fac.zr {F : Co → Co} (h : Fac F) : F zr = zr := funext fun m => by
  have e := congrFun (h.add K01.zr K01.zr) m
  rw [ad_zr] at e
  have e : F K01.zr m = F K01.zr m + F K01.zr m := e
  show F K01.zr m = 0
  omega
theorem sc_ad (c : Int) (u v : Co) : sc c (ad u v) = ad (sc c u) (sc c v) := funext fun m => Int.mul_add ..
theorem sh_ad (u v : Co) : sh (ad u v) = ad (sh u) (sh v) := funext fun m => by
  show (if m = 0 then 0 else u (m - 1) + v (m - 1)) = (if m = 0 then 0 else u (m - 1)) + (if m = 0 then 0 else v (m - 1))
  by_cases z : m = 0
  · rw [if_pos z, if_pos z, if_pos z]; rfl
  · rw [if_neg z, if_neg z, if_neg z]
theorem fac_sc (c : Int) : Fac (sc c) := ⟨sc_ad c, pc_scl c, pc_scr c⟩
theorem fac_sh (c : Int) : Fac (fun u => sc c (sh u)) := ⟨fun u v => by rw [sh_ad, sc_ad], fun u v => by rw [pc_scl, pc_shl], fun u v => by rw [pc_scr, pc_shr]⟩
def sumC : Nat → (Nat → Co) → Co
  | 0, _ => zr
  | n + 1, g => ad (sumC n g) (g n)
theorem sum_ad (g h : Nat → Co) : ∀ n, sumC n (fun k => ad (g k) (h k)) = ad (sumC n g) (sumC n h)
  | 0 => rfl
  | n + 1 => by
    show ad (sumC n _) _ = _
    rw [sum_ad g h n]
    exact funext fun m => by show (sumC n g m + sumC n h m) + (g n m + h n m) = (sumC n g m + g n m) + (sumC n h m + h n m); omega
theorem sum_F {F : Co → Co} (hF : Fac F) (g : Nat → Co) : ∀ n, sumC n (fun k => F (g k)) = F (sumC n g)
  | 0 => hF.zr.symm
  | n + 1 => by
    show ad (sumC n _) (F (g n)) = F (ad (sumC n g) (g n))
    rw [sum_F hF g n, hF.add]
theorem sum_eq {g h : Nat → Co} : ∀ n, (∀ k, k < n → g k = h k) → sumC n g = sumC n h
  | 0, _ => rfl
  | n + 1, e => by
    show ad _ _ = ad _ _
    rw [sum_eq n fun k hk => e k (by omega), e n (by omega)]
def ng (u : Co) : Co := sc (-1) u
/-- two of them may change, if together they stay -/
theorem sum_two {g h : Nat → Co} {i o : Nat} (io : i ≠ o) (e : ∀ k, k ≠ i → k ≠ o → g k = h k) (m : Nat) : ∀ n, sumC n g m - sumC n h m = (if i < n then g i m - h i m else 0) + (if o < n then g o m - h o m else 0)
  | 0 => by rw [if_neg (Nat.not_lt_zero _), if_neg (Nat.not_lt_zero _)]; rfl
  | n + 1 => by
    have ih := sum_two io e m n
    show (sumC n g m + g n m) - (sumC n h m + h n m) = _
    by_cases a : n = i
    · subst a
      rw [if_neg (Nat.lt_irrefl _)] at ih
      rw [if_pos (Nat.lt_succ_self _)]
      by_cases b : o < n
      · rw [if_pos b] at ih; rw [if_pos (by omega)]; omega
      · rw [if_neg b] at ih; rw [if_neg (by omega)]; omega
    · by_cases b : n = o
      · subst b
        rw [if_neg (Nat.lt_irrefl n)] at ih
        rw [if_pos (Nat.lt_succ_self n)]
        by_cases c : i < n
        · rw [if_pos c] at ih; rw [if_pos (by omega)]; omega
        · rw [if_neg c] at ih; rw [if_neg (by omega)]; omega
      · have z := congrFun (e n a b) m
        by_cases c : i < n
        · rw [if_pos c] at ih; rw [if_pos (show i < n + 1 by omega)]
          by_cases d : o < n
          · rw [if_pos d] at ih; rw [if_pos (show o < n + 1 by omega)]; omega
          · rw [if_neg d] at ih; rw [if_neg (show ¬ o < n + 1 by omega)]; omega
        · rw [if_neg c] at ih; rw [if_neg (show ¬ i < n + 1 by omega)]
          by_cases d : o < n
          · rw [if_pos d] at ih; rw [if_pos (show o < n + 1 by omega)]; omega
          · rw [if_neg d] at ih; rw [if_neg (show ¬ o < n + 1 by omega)]; omega
def dl (c : Int) : Co := fun m => if m = 0 then c else 0
def Dg (c : Int) (x y : Nat) : Co := if x = y then dl c else zr
/-- both products are this number times the one -/
def Two (n : Nat) (c : Int) (U V : Nat → Nat → Co) : Prop := (∀ x y, x < n → y < n → sumC n (fun k => PC (U x k) (V k y)) = Dg c x y) ∧ ∀ x y, x < n → y < n → sumC n (fun k => PC (V x k) (U k y)) = Dg c x y
theorem two_step {n : Nat} {c : Int} {U V U' V' : Nat → Nat → Co} {F : Co → Co} {i o : Nat} (hF : Fac F) (h : Two n c U V) (hi : i < n) (ho : o < n) (io : i ≠ o)
    (hU : ∀ x k, x < n → k < n → U' x k = if x = i then ad (U i k) (F (U o k)) else U x k) (hV : ∀ k y, k < n → y < n → V' k y = if y = o then ad (V k o) (ng (F (V k i))) else V k y) : Two n c U' V' := by
  have fn := fac_sc (-1)
  refine ⟨fun x y hx hy => ?_, fun x y hx hy => ?_⟩
  · have a1 : ∀ y, y < n → sumC n (fun k => PC (U' x k) (V k y)) = if x = i then ad (Dg c i y) (F (Dg c o y)) else Dg c x y := fun y hy => by
      by_cases xi : x = i
      · rw [if_pos xi, ← h.1 i y hi hy, ← h.1 o y ho hy, ← sum_F hF, ← sum_ad]
        refine sum_eq n fun k hk => ?_
        rw [hU x k hx hk, if_pos xi, pc_adl, hF.pcl]
      · rw [if_neg xi, ← h.1 x y hx hy]
        refine sum_eq n fun k hk => ?_
        rw [hU x k hx hk, if_neg xi]
    by_cases yo : y = o
    · have a2 : sumC n (fun k => PC (U' x k) (V' k y)) = ad (sumC n (fun k => PC (U' x k) (V k o))) (ng (F (sumC n (fun k => PC (U' x k) (V k i))))) := by
        unfold ng
        rw [← sum_F hF, ← sum_F fn, ← sum_ad]
        refine sum_eq n fun k hk => ?_
        rw [hV k y hk hy, if_pos yo, pc_adr]
        unfold ng
        rw [fn.pcr, hF.pcr]
      rw [a2, a1 o ho, a1 i hi]
      by_cases xi : x = i
      · rw [if_pos xi, if_pos xi]
        unfold Dg
        rw [if_neg io, if_pos rfl, if_pos rfl, if_neg (Ne.symm io), hF.zr, ad_zr, if_neg (by rw [xi, yo]; exact io)]
        exact funext fun m => by show (0 + F (dl c) m) + -1 * F (dl c) m = 0; omega
      · rw [if_neg xi, if_neg xi]
        unfold Dg
        rw [if_neg xi, hF.zr, yo]
        exact funext fun m => by show _ + -1 * 0 = _; omega
    · have a2 : sumC n (fun k => PC (U' x k) (V' k y)) = sumC n (fun k => PC (U' x k) (V k y)) := sum_eq n fun k hk => by rw [hV k y hk hy, if_neg yo]
      rw [a2, a1 y hy]
      by_cases xi : x = i
      · rw [if_pos xi]
        unfold Dg
        rw [if_neg (show o ≠ y from fun z => yo z.symm), hF.zr, ad_zr, xi]
      · rw [if_neg xi]
  · rw [← h.2 x y hx hy]
    refine funext fun m => ?_
    let g : Nat → Co := fun k => if k < n then PC (V' x k) (U' k y) else PC (V x k) (U k y)
    have eg : sumC n (fun k => PC (V' x k) (U' k y)) = sumC n g := sum_eq n fun k hk => (if_pos hk).symm
    rw [eg]
    have t := sum_two (g := g) (h := fun k => PC (V x k) (U k y)) io (fun k ki ko => by
      show (if k < n then PC (V' x k) (U' k y) else PC (V x k) (U k y)) = _
      by_cases hk : k < n
      · rw [if_pos hk, hV x k hx hk, hU k y hk hy, if_neg ko, if_neg ki]
      · rw [if_neg hk]) m n
    rw [if_pos hi, if_pos ho] at t
    have gi : g i = ad (PC (V x i) (U i y)) (F (PC (V x i) (U o y))) := by
      show (if i < n then PC (V' x i) (U' i y) else PC (V x i) (U i y)) = _
      rw [if_pos hi, hV x i hx hi, hU i y hi hy, if_neg io, if_pos rfl, pc_adr, hF.pcr]
    have go : g o = ad (PC (V x o) (U o y)) (ng (F (PC (V x i) (U o y)))) := by
      show (if o < n then PC (V' x o) (U' o y) else PC (V x o) (U o y)) = _
      rw [if_pos ho, hV x o hx ho, hU o y ho hy, if_pos rfl, if_neg (Ne.symm io), pc_adl]
      unfold ng
      rw [fn.pcl, hF.pcl]
    rw [gi, go] at t
    have t : sumC n g m - sumC n (fun k => PC (V x k) (U k y)) m = (PC (V x i) (U i y) m + F (PC (V x i) (U o y)) m - PC (V x i) (U i y) m) + (PC (V x o) (U o y) m + -1 * F (PC (V x i) (U o y)) m - PC (V x o) (U o y) m) := t
    omega
-- K01
def ent (tab : Tb) (x k : Nat) : List Int := (tab.getD x []).getD k []
def En (tab : Tb) : Nat → Nat → Co := fun x k => cf (ent tab x k)
theorem ent_at {tab : Tb} {x k : Nat} {r : List (List Int)} {e : List Int} (hr : tab[x]? = some r) (he : r[k]? = some e) : ent tab x k = e := by
  unfold ent
  rw [show tab.getD x [] = r by rw [List.getD_eq_getElem?_getD, hr]; rfl, List.getD_eq_getElem?_getD, he]; rfl
theorem pc_dl (a : Int) (v : Co) : PC (dl a) v = sc a v := funext fun m => by
  show cv (dl a) v (m + 1) m = a * v m
  rw [cv_ge (l := 1) (fun k hk => by show (if k = 0 then a else 0) = 0; rw [if_neg (by omega)]) (by omega)]
  show 0 + dl a 0 * (if 0 ≤ m then v (m - 0) else 0) = _
  rw [if_pos (Nat.zero_le _), Nat.sub_zero]
  show 0 + (if 0 = 0 then a else 0) * _ = _
  rw [if_pos rfl, Int.zero_add]
theorem pc_zl (v : Co) : PC zr v = zr := by
  have : zr = dl 0 := funext fun m => by show (0 : Int) = if m = 0 then 0 else 0; split <;> rfl
  rw [this, pc_dl]
  exact funext fun m => by show 0 * _ = _; rw [Int.zero_mul]; show (0 : Int) = if m = 0 then 0 else 0; split <;> rfl
theorem cv_zr (u : Co) : ∀ n m, cv u zr n m = 0
  | 0, _ => rfl
  | n + 1, m => by
    show cv u zr n m + u n * (if n ≤ m then (0 : Int) else 0) = 0
    rw [cv_zr u n m]; simp
theorem pc_zr (u : Co) : PC u zr = zr := funext fun m => cv_zr u _ m
theorem sum_one {g : Nat → Co} {x : Nat} (h : ∀ k, k ≠ x → g k = zr) : ∀ n, sumC n g = if x < n then g x else zr
  | 0 => rfl
  | n + 1 => by
    show ad (sumC n g) (g n) = _
    rw [sum_one h n]
    by_cases z : n = x
    · subst z
      rw [if_neg (Nat.lt_irrefl _), if_pos (Nat.lt_succ_self _)]
      exact funext fun m => Int.zero_add _
    · rw [h n z, ad_zr]
      by_cases y : x < n
      · rw [if_pos y, if_pos (by omega)]
      · rw [if_neg y, if_neg (by omega)]
theorem cf_one (c : Int) : cf [c] = dl c := funext fun m => by
  cases m with
  | zero => rfl
  | succ m => rfl
theorem cf_nil0 : cf [] = zr := funext fun m => cf_ge (Nat.zero_le _)
theorem en_one {many x k : Nat} {n : Int} (hx : x < many) (hk : k < many) : En (oneT many n) x k = Dg n x k := by
  unfold En
  rw [ent_at (oneT_at hx) (oneT_el hk)]
  unfold Dg
  by_cases z : x = k
  · rw [if_pos z, if_pos z, cf_one]
  · rw [if_neg z, if_neg z, cf_nil0]
theorem two_base (many : Nat) (n : Int) : Two many n (En (oneT many 1)) (En (oneT many n)) := by
  have key : ∀ (a b : Int) x y, x < many → y < many → sumC many (fun k => PC (Dg a x k) (Dg b k y)) = Dg (a * b) x y := fun a b x y hx hy => by
    rw [sum_one (x := x) (fun k hk => by unfold Dg; rw [if_neg (Ne.symm hk), pc_zl]) many, if_pos hx]
    unfold Dg
    rw [if_pos rfl, pc_dl]
    by_cases z : x = y
    · rw [if_pos z, if_pos z]
      exact funext fun m => by show a * (if m = 0 then b else 0) = if m = 0 then a * b else 0; split <;> simp
    · rw [if_neg z, if_neg z]
      exact funext fun m => by show a * 0 = 0; exact Int.mul_zero _
  refine ⟨fun x y hx hy => ?_, fun x y hx hy => ?_⟩
  · rw [sum_eq (h := fun k => PC (Dg 1 x k) (Dg n k y)) many fun k hk => by rw [en_one hx hk, en_one hk hy], key 1 n x y hx hy, Int.one_mul]
  · rw [sum_eq (h := fun k => PC (Dg n x k) (Dg 1 k y)) many fun k hk => by rw [en_one hx hk, en_one hk hy], key n 1 x y hx hy, Int.mul_one]
theorem cf_cell {row : List (List Int)} {two : Tb} {j : Nat} (h : row.length = two.length) : ∀ l, l ≤ two.length → cf (((row.zip (pick two j)).take l).foldl pstep []) = sumC l (fun k => PC (cf (row.getD k [])) (cf (ent two k j)))
  | 0, _ => cf_nil0
  | l + 1, hl => by
    obtain ⟨e, he⟩ := some_at (xs := row) (i := l) (by omega)
    obtain ⟨r, hr⟩ := some_at (xs := two) (i := l) (by omega)
    have zp : (row.zip (pick two j))[l]? = some (e, r.getD j []) := by
      rw [List.getElem?_zip_eq_some]
      refine ⟨he, ?_⟩
      unfold pick
      rw [List.getElem?_map, hr]; rfl
    rw [fold_take _ _ zp]
    show cf (padd _ (pmul e (r.getD j []))) = ad (sumC l _) _
    rw [cf_ad, cf_pc, cf_cell h l (by omega)]
    show ad _ _ = ad _ (PC (cf (row.getD l [])) (cf (ent two l j)))
    rw [show row.getD l [] = e by rw [List.getD_eq_getElem?_getD, he]; rfl, show ent two l j = r.getD j [] by unfold ent; rw [show two.getD l [] = r by rw [List.getD_eq_getElem?_getD, hr]; rfl]]
theorem fold_can : ∀ (ps : List (List Int × List Int)) (t : List Int), Can t → Can (ps.foldl pstep t)
  | [], _, h => h
  | p :: ps, t, _ => fold_can ps _ (can_padd _ _)
theorem good_prod {many : Nat} {c : Int} {one two : Tb} (hm : 0 < many) (c0 : c ≠ 0) (l1 : one.length = many) (l2 : two.length = many) (r1 : ∀ r ∈ one, r.length = many) (r2 : ∀ r ∈ two, r.length = many)
    (h : ∀ x y, x < many → y < many → sumC many (fun k => PC (En one x k) (En two k y)) = Dg c x y) : Good (prodT one two) c := by
  have wd : wdt two = many := (wdt_le r2).2 fun z => by rw [z] at l2; simp at l2; omega
  have lp : (prodT one two).length = many := by unfold prodT; rw [List.length_map, l1]
  refine .inr ⟨fun z => by rw [z] at lp; simp at lp; omega, c0, fun r hr => ?_, fun x r hr y e he => ?_⟩
  · rw [lp]
    obtain ⟨row, _, rfl⟩ := List.mem_map.mp hr
    rw [List.length_map, List.length_range, wd]
  · have hx : x < many := by have := (List.getElem?_eq_some_iff.mp hr).1; omega
    obtain ⟨row, hrow⟩ := some_at (xs := one) (i := x) (by omega)
    unfold prodT at hr
    rw [List.getElem?_map, hrow] at hr
    obtain rfl := Option.some.inj hr
    have hy : y < many := by have := (List.getElem?_eq_some_iff.mp he).1; rw [List.length_map, List.length_range, wd] at this; exact this
    rw [List.getElem?_map, wd, List.getElem?_range hy] at he
    obtain rfl := Option.some.inj he
    have lr : row.length = two.length := by rw [r1 row (mem_at hrow), l2]
    have e1 : cf (cellv row two y) = Dg c x y := by
      have := cf_cell (j := y) lr two.length (Nat.le_refl _)
      rw [List.take_of_length_le (by rw [List.length_zip]; unfold pick; rw [List.length_map]; omega)] at this
      unfold cellv
      rw [this, l2, ← h x y hx hy]
      refine sum_eq many fun k hk => ?_
      have : En one x k = cf (row.getD k []) := by
        unfold En ent
        rw [show one.getD x [] = row by rw [List.getD_eq_getElem?_getD, hrow]; rfl]
      rw [this]; rfl
    refine can_ext (fold_can _ _ (.inl rfl)) (by split; exact .inr c0; exact .inl rfl) fun m => ?_
    rw [congrFun e1 m]
    unfold Dg
    by_cases z : x = y
    · rw [if_pos z, if_pos z, cf_one]
    · rw [if_neg z, if_neg z, cf_nil0]
-- L01
def Bt (t : Nat) (tab : Tb) : Prop := ∀ r ∈ tab, ∀ e ∈ r, e.length ≤ 1 + 2 * t ∧ ∀ m, (cf e m).natAbs ≤ 12 * 4 ^ t
theorem at_last {ns : List Int} (h : ns ≠ []) : atI (ns.map V.int) (-1) = some (V.int (cf ns (ns.length - 1))) := by
  have p : 0 < ns.length := List.length_pos_iff.mpr h
  unfold atI ixN
  rw [List.length_map, if_neg (by omega), if_pos (by omega)]
  show (ns.map V.int)[(-1 + (ns.length : Int)).toNat]? = _
  rw [show (-1 + (ns.length : Int)).toNat = ns.length - 1 by omega, List.getElem?_map, K01.at_map (by omega)]; rfl
/-- a factor: nothing, or a number times d^0 or d^1 -/
def Fc (f : List Int) : Prop := f = [] ∨ ∃ (s : Nat) (c : Int), s ≤ 1 ∧ c.natAbs ≤ 3 ∧ f = List.replicate s 0 ++ [c]
def Ff (f : List Int) : Co → Co := PC (cf f)
theorem ff_nil : Ff [] = sc 0 := funext fun u => by
  show PC (cf []) u = _
  rw [cf_nil0, pc_zl]
  exact funext fun m => (Int.zero_mul _).symm
theorem ff_0 (c : Int) : Ff ([] ++ [c]) = sc c := funext fun u => by
  show PC (cf [c]) u = _
  rw [cf_one, pc_dl]
theorem cf_01 (c : Int) : cf [0, c] = sh (dl c) := funext fun m => by
  match m with
  | 0 => rfl
  | 1 => rfl
  | m + 2 => rfl
theorem ff_1 (c : Int) : Ff ([0] ++ [c]) = fun u => sc c (sh u) := funext fun u => by
  show PC (cf [0, c]) u = _
  rw [cf_01, pc_shl, pc_dl]
  exact funext fun m => by
    show (if m = 0 then 0 else c * u (m - 1)) = c * (if m = 0 then 0 else u (m - 1))
    split <;> simp
theorem Fc.fac {f : List Int} (h : Fc f) : Fac (Ff f) := by
  rcases h with rfl | ⟨s, c, hs, _, rfl⟩
  · rw [ff_nil]; exact fac_sc 0
  · rcases (show s = 0 ∨ s = 1 by omega) with rfl | rfl
    · rw [show List.replicate 0 (0 : Int) = [] from rfl, ff_0]; exact fac_sc c
    · rw [show List.replicate 1 (0 : Int) = [0] from rfl, ff_1]; exact fac_sh c
theorem Fc.at {f : List Int} (h : Fc f) (u : Co) (N : Nat) (hu : ∀ m, (u m).natAbs ≤ N) (m : Nat) : (Ff f u m).natAbs ≤ 3 * N := by
  have mul : ∀ (c : Int) (x : Int), c.natAbs ≤ 3 → x.natAbs ≤ N → (c * x).natAbs ≤ 3 * N := fun c x a b => by rw [Int.natAbs_mul]; exact Nat.mul_le_mul a b
  rcases h with rfl | ⟨s, c, hs, hc, rfl⟩
  · rw [ff_nil]; show (0 * u m).natAbs ≤ _; rw [Int.zero_mul]; exact Nat.zero_le _
  · rcases (show s = 0 ∨ s = 1 by omega) with rfl | rfl
    · rw [show List.replicate 0 (0 : Int) = [] from rfl, ff_0]; exact mul c _ hc (hu m)
    · rw [show List.replicate 1 (0 : Int) = [0] from rfl, ff_1]
      show (c * (if m = 0 then 0 else u (m - 1))).natAbs ≤ _
      split
      · rw [Int.mul_zero]; exact Nat.zero_le _
      · exact mul c _ hc (hu _)
theorem Fc.len {f : List Int} (h : Fc f) : f.length ≤ 2 := by
  rcases h with rfl | ⟨s, c, hs, hc, rfl⟩
  · exact Nat.zero_le _
  · rw [List.length_append, List.length_replicate]; show s + 1 ≤ 2; omega
theorem Fc.bd {f : List Int} (h : Fc f) : Bd f := by
  refine bd_all fun x hx => ?_
  rcases h with rfl | ⟨s, c, hs, hc, rfl⟩
  · cases hx
  · rcases List.mem_append.mp hx with hx | hx
    · rw [(List.mem_replicate.mp hx).2]; decide
    · obtain rfl := List.mem_singleton.mp hx
      exact Nat.lt_of_le_of_lt hc (by decide)
theorem Fc.neg {f : List Int} (h : Fc f) : Fc (f.map fun x => -x) ∧ ∀ u, Ff (f.map fun x => -x) u = ng (Ff f u) := by
  rcases h with rfl | ⟨s, c, hs, hc, rfl⟩
  · exact ⟨.inl rfl, fun u => by
      show Ff [] u = _
      rw [ff_nil]; exact funext fun m => by show 0 * u m = -1 * (0 * u m); simp⟩
  · have e : (List.replicate s (0 : Int) ++ [c]).map (fun x => -x) = List.replicate s 0 ++ [-c] := by
      rw [List.map_append, List.map_replicate]; rfl
    rw [e]
    refine ⟨.inr ⟨s, -c, hs, by rw [Int.natAbs_neg]; exact hc, rfl⟩, fun u => ?_⟩
    rcases (show s = 0 ∨ s = 1 by omega) with rfl | rfl
    · rw [show List.replicate 0 (0 : Int) = [] from rfl, ff_0, ff_0]
      exact funext fun m => by show -c * u m = -1 * (c * u m); rw [Int.neg_mul, Int.neg_mul, Int.one_mul]
    · rw [show List.replicate 1 (0 : Int) = [0] from rfl, ff_1, ff_1]
      exact funext fun m => by show -c * _ = -1 * (c * _); rw [Int.neg_mul, Int.neg_mul, Int.one_mul]
theorem bt_new {t : Nat} {f a b : List Int} (hf : Fc f) (ha : a.length ≤ 1 + 2 * t ∧ ∀ m, (cf a m).natAbs ≤ 12 * 4 ^ t) (hb : b.length ≤ 1 + 2 * t ∧ ∀ m, (cf b m).natAbs ≤ 12 * 4 ^ t) : (padd a (pmul f b)).length ≤ 1 + 2 * (t + 1) ∧ ∀ m, (cf (padd a (pmul f b)) m).natAbs ≤ 12 * 4 ^ (t + 1) := by
  refine ⟨?_, fun m => ?_⟩
  · have := padd_len a (pmul f b)
    have := pmul_len f b
    have := hf.len
    omega
  · rw [cf_padd, congrFun (cf_pc f b) m]
    have h1 := ha.2 m
    have h2 := hf.at (cf b) (12 * 4 ^ t) hb.2 m
    have h2 : (PC (cf f) (cf b) m).natAbs ≤ 3 * (12 * 4 ^ t) := h2
    rw [Nat.pow_succ]
    generalize 4 ^ t = N at *
    omega
theorem a2_of {α β : Type} {R : α → β → Prop} : ∀ {as : List α} {bs : List β}, as.length = bs.length → (∀ (k : Nat) a b, as[k]? = some a → bs[k]? = some b → R a b) → A2 R as bs
  | [], [], _, _ => .nil
  | [], _ :: _, h, _ => by simp at h
  | _ :: _, [], h, _ => by simp at h
  | a :: as, b :: bs, h, f => .cons (f 0 a b rfl rfl) (a2_of (by simpa using h) fun k a b e r => f (k + 1) a b e r)
/-- a row is changed at a place of it; others stand -/
theorem row_else {G : Hp} {r r2 : Addr} {es : List Addr} {row : List (List Int)} {o : HO} (hr : G r = some (.lst (es.map V.ref))) (hes : es ≠ []) (n : r2 ≠ r) (h : RowL G r2 row) : RowL (upd G r o) r2 row := by
  obtain ⟨es2, h2, hE⟩ := h
  cases es with
  | nil => exact absurd rfl hes
  | cons x xs => exact ⟨es2, by rw [upd_ne n]; exact h2, hE.mono fun e ns z => by unfold IL; rw [upd_ne (not_refs (as := xs.map V.ref) (x := x) hr z).symm]; exact z⟩
theorem row_set {G : Hp} {r e' : Addr} {es : List Addr} {row : List (List Int)} {j : Nat} {ns : List Int} (hr : G r = some (.lst (es.map V.ref))) (hes : es ≠ []) (hE : A2 (IL G) es row) (he : IL G e' ns) : RowL (upd G r (.lst ((es.map V.ref).set j (.ref e')))) r (row.set j ns) := by
  cases es with
  | nil => exact absurd rfl hes
  | cons x xs =>
    have up : ∀ {e : Addr} {ns : List Int}, IL G e ns → IL (upd G r (.lst (((x :: xs).map V.ref).set j (.ref e')))) e ns := fun {e ns} z => by unfold IL; rw [upd_ne (not_refs (as := xs.map V.ref) (x := x) hr z).symm]; exact z
    exact ⟨(x :: xs).set j e', by rw [upd_same, List.map_set], A2.set (up he) (hE.mono fun _ _ z => up z) j⟩
/-- the two tables as they stand -/
structure PR (H G : Hp) (p1 p2 : Addr) (many : Nat) (n : Int) (t : Nat) (as1 as2 : List Addr) (one two : Tb) : Prop where
  sm : Same H G
  h1 : G p1 = some (.lst (as1.map V.ref))
  h2 : G p2 = some (.lst (as2.map V.ref))
  n1 : H p1 = none
  A1 : A2 (RowL G) as1 one
  A2' : A2 (RowL G) as2 two
  nd : as2.Nodup
  of : ∀ r ∈ as2, r ≠ p1 ∧ r ≠ p2 ∧ r ∉ as1 ∧ H r = none
  of1 : ∀ r ∈ as1, r ≠ p1 ∧ r ≠ p2
  np : p1 ≠ p2
  l1 : one.length = many
  l2 : two.length = many
  r1 : ∀ r ∈ one, r.length = many
  r2 : ∀ r ∈ two, r.length = many
  b1 : Bt t one
  b2 : Bt t two
  tw : Two many n (En one) (En two)
theorem ne_of {H : Hp} {b B : Addr} {o : HO} (h : H b = some o) (n : H B = none) : B ≠ b := fun z => by rw [z, h] at n; cases n
theorem bt_pb {t : Nat} {tab : Tb} (ht : t ≤ 5) (h : Bt t tab) : ∀ r ∈ tab, ∀ e ∈ r, Pb e := fun r hr e he => by
  obtain ⟨a, b⟩ := h r hr e he
  refine ⟨by omega, fun m => Nat.lt_of_le_of_lt (Nat.le_trans (b m) (Nat.mul_le_mul_left 12 (Nat.pow_le_pow_right (by decide) ht))) (by decide)⟩
theorem bt_one {many : Nat} {n : Int} (h : n.natAbs ≤ 12) : Bt 0 (oneT many n) := fun r hr e he => by
  obtain ⟨i, _, rfl⟩ := List.mem_map.mp hr
  obtain ⟨j, _, rfl⟩ := List.mem_map.mp he
  by_cases z : i = j
  · show (if i = j then [n] else []).length ≤ _ ∧ _
    rw [if_pos z]
    refine ⟨Nat.le_refl _, fun m => ?_⟩
    rw [congrFun (cf_one n) m]
    show (if m = 0 then n else 0).natAbs ≤ 12 * 1
    split
    · omega
    · exact Nat.zero_le _
  · show (if i = j then [n] else []).length ≤ _ ∧ _
    rw [if_neg z]
    refine ⟨Nat.zero_le _, fun m => ?_⟩
    rw [congrFun cf_nil0 m]
    exact Nat.zero_le _
def fxr (b : List Int) (x o : Nat) (row : List (List Int)) : List (List Int) := row.set o (padd (row.getD o []) (pmul b (row.getD x [])))
theorem bt_up {t : Nat} {e : List Int} (h : e.length ≤ 1 + 2 * t ∧ ∀ m, (cf e m).natAbs ≤ 12 * 4 ^ t) : e.length ≤ 1 + 2 * (t + 1) ∧ ∀ m, (cf e m).natAbs ≤ 12 * 4 ^ (t + 1) := ⟨by omega, fun m => by
  have := h.2 m
  rw [Nat.pow_succ]
  generalize 4 ^ t = N at *
  omega⟩
theorem ent_set {tab : Tb} {x k : Nat} {row : List (List Int)} {y : Nat} (hx : x < tab.length) : ent (tab.set x row) y k = if y = x then row.getD k [] else ent tab y k := by
  unfold ent
  by_cases z : y = x
  · subst z
    rw [if_pos rfl, show (tab.set y row).getD y [] = row by rw [List.getD_eq_getElem?_getD, List.getElem?_set_self hx]; rfl]
  · rw [if_neg z, show (tab.set x row).getD y [] = tab.getD y [] by rw [List.getD_eq_getElem?_getD, List.getElem?_set_ne (Ne.symm z), ← List.getD_eq_getElem?_getD]]
theorem ent_fx {tab : Tb} {b : List Int} {x o k y : Nat} {row : List (List Int)} (hr : tab[k]? = some row) (ho : o < row.length) : ent (tab.map (fxr b x o)) k y = if y = o then padd (ent tab k o) (pmul b (ent tab k x)) else ent tab k y := by
  have e0 : tab.getD k [] = row := by rw [List.getD_eq_getElem?_getD, hr]; rfl
  unfold ent
  rw [show (tab.map (fxr b x o)).getD k [] = fxr b x o row by rw [List.getD_eq_getElem?_getD, List.getElem?_map, hr]; rfl, e0]
  unfold fxr
  by_cases z : y = o
  · subst z
    rw [if_pos rfl, List.getD_eq_getElem?_getD, List.getElem?_set_self ho]; rfl
  · rw [if_neg z, List.getD_eq_getElem?_getD, List.getElem?_set_ne (Ne.symm z), ← List.getD_eq_getElem?_getD]
section
variable {P : Program} {w : World} {K : PySem.W.Frag} {mg : Str → Option Value} {base : Heap}
def sp_law_pair : Sp := fun vs H Q _ => ∃ (a : Addr) (ds : List Int) (many : Nat) (n : Int), vs = [.ref a, .int (many : Nat), .int n] ∧ IL H a ds ∧ many ≤ 12 ∧ n.natAbs ≤ 12 ∧
  ∀ H' t p1 p2 as1 as2 one two t', H' t = some (.tup [.ref p1, .ref p2]) → PR H H' p1 p2 many n t' as1 as2 one two → t' ≤ 5 → Q (.ref t) H'
theorem ok_law_pair (T : Txt K mg) : FnOk P w K mg base CX0 3 T.law_pair.a T.law_pair.fd ["draws", "many", "number"] sp_law_pair := by
  refine T.law_pair.F.ok sc_law_pair (fun vs H Q E h => ?_) (fun cdv A outer s H vs Q E hr h => ?_)
  · obtain ⟨a, ds, many, n, rfl, _⟩ := h
    rfl
  · obtain ⟨a, ds, many, n, rfl, ha, h12, nb, q⟩ := h
    refine ⟨_, (pss_cons (ps_set (i := 3) sc_law_pair.nd rfl (.inr rfl) (pe_call (ok_law_one T) (hr.mono (by decide)) (by rfl) T.law_one.g T.law_one.F.kp T.law_one.b .nil pass0 (pa_cons (pv 1) (pa_cons pe_int pa_nil))))
      (pss_cons (ps_set (i := 4) sc_law_pair.nd rfl (.inl rfl) (pe_call (ok_law_one T) (hr.mono (by decide)) (by rfl) T.law_one.g T.law_one.F.kp T.law_one.b .nil pass0 (pa_cons (pv 1) (pa_cons (pv 2) pa_nil))))
      (pss_cons (ps_for PassesOwn.never rfl (pi_range1 (by rfl) T.m_range (pa_cons (pe_op op_mul pe_int (pe_callTy call_int1 (by rfl) T.m_int (by decide +kernel) (pa_cons (pe_cmpR op_gt (pv 1) pe_int (nomark _)) pa_nil))) pa_nil)) (pg_name (i := 5) sc_law_pair.nd rfl (.inl rfl))
        (pss_cons (ps_set (i := 6) sc_law_pair.nd rfl (.inl rfl) (pe_call (ok_law_at T) (hr.mono (by decide)) (by rfl) T.law_at.g T.law_at.F.kp T.law_at.b .nil pass0 (pa_cons (pv 0) (pa_cons (pe_op op_add pe_int (pv 5)) (pa_cons pe_int pa_nil)))))
        (pss_cons (ps_set (i := 7) sc_law_pair.nd rfl (.inr rfl) (pe_op op_mod (pe_callTy call_int1 (by rfl) T.m_int (by decide +kernel) (pa_cons (pv 6) pa_nil)) (pv 1)))
        (pss_cons (ps_set (i := 8) sc_law_pair.nd rfl (.inr rfl) (pe_op op_mod (pe_callTy call_int1 (by rfl) T.m_int (by decide +kernel) (pa_cons (pe_op op_add (pe_op op_add (pv 7) pe_int) (pe_op op_mod (pe_callTy call_int1 (by rfl) T.m_int (by decide +kernel) (pa_cons (pe_op op_fdiv (pv 6) pe_int) pa_nil)) (pe_op op_sub (pv 1) pe_int))) pa_nil)) (pv 1)))
        (pss_cons (ps_set (i := 9) sc_law_pair.nd rfl (.inr rfl) (pe_op op_cat (pe_lc (own := [("k", 14)]) rfl sc_law_pair.nd (pi_range1 (by rfl) T.m_range (pa_cons (pe_op op_mod (pe_callTy call_int1 (by rfl) T.m_int (by decide +kernel) (pa_cons (pe_op op_fdiv (pv 6) pe_int) pa_nil)) pe_int) pa_nil)) (blkOk_by (N := ["draws", "many", "number", "one", "two", "turn", "cell", "i", "other", "factor", "back", "row", "part", "j", "k"]) (sc := defScope s_law_pair) (by decide +kernel)) (fun _ _ _ _ _ => (pg_name (i := 14) sc_law_pair.nd rfl (.inl rfl))) (fun _ _ _ _ _ => pts_nil) (fun _ _ _ _ _ => pe_int)) (pe_lst (pa_cons (pe_op op_sub (pe_op op_mod (pe_callTy call_int1 (by rfl) T.m_int (by decide +kernel) (pa_cons (pe_op op_fdiv (pv 6) pe_int) pa_nil)) pe_int) pe_int) pa_nil))))
        (pss_cons (ps_if (pt_cmpR op_eq (pe_ix ix_list (pv 9) (pe_un un_neg pe_int) (fun _ _ => rfl)) pe_int (nomark _))
          (pss_one (ps_set (i := 9) sc_law_pair.nd rfl (.inr rfl) (pe_lst pa_nil)))
          pss_nil)
        (pss_cons (ps_setLc (i := 10) (own := [("part", 12)]) rfl sc_law_pair.nd rfl rfl (sw_true rfl rfl rfl (by decide +kernel)) (pi_list (pv 9)) (blkOk_by (N := ["draws", "many", "number", "one", "two", "turn", "cell", "i", "other", "factor", "back", "row", "part", "j", "k"]) (sc := defScope s_law_pair) (by decide +kernel)) (fun _ _ _ _ _ => (pg_name (i := 12) sc_law_pair.nd rfl (.inl rfl))) (fun _ _ _ _ _ => pts_nil) (fun _ _ _ _ _ => (pe_un un_neg (pv 12))))
        (pss_cons (ps_asg (pe_lc (own := [("j", 13)]) rfl sc_law_pair.nd (pi_range1 (by rfl) T.m_range (pa_cons (pv 1) pa_nil)) (blkOk_by (N := ["draws", "many", "number", "one", "two", "turn", "cell", "i", "other", "factor", "back", "row", "part", "j", "k"]) (sc := defScope s_law_pair) (by decide +kernel)) (fun _ _ _ _ _ => (pg_name (i := 13) sc_law_pair.nd rfl (.inl rfl))) (fun _ _ _ _ _ => pts_nil) (fun _ _ _ _ _ => (pe_call (ok_law_plus T) (hr.mono (by decide)) (by rfl) T.law_plus.g T.law_plus.F.kp T.law_plus.b .nil pass0 (pa_cons (pe_ix (r := rIxL K) ix_list (pe_ix (r := rIxL K) ix_list (pv 3) (pv 7) (fun _ _ => rfl)) (pv 13) (fun _ _ => rfl)) (pa_cons (pe_call (ok_law_times T) (hr.mono (by decide)) (by rfl) T.law_times.g T.law_times.F.kp T.law_times.b .nil pass0 (pa_cons (pv 9) (pa_cons (pe_ix (r := rIxL K) ix_list (pe_ix (r := rIxL K) ix_list (pv 3) (pv 8) (fun _ _ => rfl)) (pv 13) (fun _ _ => rfl)) pa_nil))) pa_nil))))) (pg_sub (pv 3) (pv 7) set_list))
        (pss_one (ps_for PassesOwn.never rfl (pi_list (pv 4)) (pg_name (i := 11) sc_law_pair.nd rfl (.inl rfl))
          (pss_one (ps_asg (pe_call (ok_law_plus T) (hr.mono (by decide)) (by rfl) T.law_plus.g T.law_plus.F.kp T.law_plus.b .nil pass0 (pa_cons (pe_ix ix_list (pv 11) (pv 8) (fun _ _ => rfl)) (pa_cons (pe_call (ok_law_times T) (hr.mono (by decide)) (by rfl) T.law_times.g T.law_times.F.kp T.law_times.b .nil pass0 (pa_cons (pv 10) (pa_cons (pe_ix ix_list (pv 11) (pv 7) (fun _ _ => rfl)) pa_nil))) pa_nil))) (pg_sub (pv 11) (pv 8) set_list)))))))))))))
      (pss_one (ps_ret (pe_tup (pa_cons (pv 3) (pa_cons (pv 4) pa_nil)))))))), ?_⟩
    refine ⟨_, rfl, many, 1, rfl, by omega, fun G1 p1 s1 np1 hT1 => ?_⟩
    refine ⟨_, rfl, _, rfl, many, n, rfl, by omega, fun G2 p2 s2 np2 hT2 => ?_⟩
    obtain ⟨ys1, hp1, as1, rfl, nd1, hA1⟩ := hT1
    obtain ⟨ys2, hp2, as2, rfl, nd2, hA2⟩ := hT2
    have l1 := oneT_len many 1
    have l2 := oneT_len many n
    have rr : ∀ (c : Int), ∀ r ∈ oneT many c, r.length = many := fun c r hr => by obtain ⟨i, _, rfl⟩ := List.mem_map.mp hr; rw [List.length_map, List.length_range]
    have base0 : PR H G2 p1 p2 many n 0 as1 as2 (oneT many 1) (oneT many n) := by
      refine ⟨s1.trans s2, s2 _ _ hp1, hp2, np1, hA1.mono fun _ _ z => ?_, hA2.mono fun _ _ z => ?_, nd2, fun r hr => ?_, fun r hr => ?_, fun z => ?_, l1, l2, rr 1, rr n, bt_one (by decide), bt_one nb, two_base many n⟩
      · obtain ⟨_, _, es, h, hE⟩ := z
        exact RowL.same ⟨es, h, hE.mono fun _ _ y => y.2.2⟩ s2
      · obtain ⟨_, _, es, h, hE⟩ := z
        exact ⟨es, h, hE.mono fun _ _ y => y.2.2⟩
      · obtain ⟨row, _, nr, nH, _⟩ := a2_memA hA2 hr
        refine ⟨ne_of hp1 nH, nr, fun hm => ?_, s1.free nH⟩
        obtain ⟨row1, _, _, _, es, h, _⟩ := a2_memA hA1 hm
        rw [nH] at h
        cases h
      · obtain ⟨row, _, nr, _, es, h, _⟩ := a2_memA hA1 hr
        exact ⟨nr, fun z => by rw [z, np2] at h; cases h⟩
      · rw [z, np2] at hp1
        cases hp1
    refine ⟨_, rfl, _, _, rfl, rfl, .inr ⟨_, rfl, _, _, rfl, rfl, .inl ⟨by decide, by decide⟩, ?_⟩⟩
    obtain ⟨tn, et, ht5, htm⟩ : ∃ tn : Nat, (5 * (if decide ((many : Int) > 1) = true then (1 : Int) else 0)) = (tn : Int) ∧ tn ≤ 5 ∧ (0 < tn → 1 < many) := by
      by_cases z : (many : Int) > 1
      · rw [decide_eq_true z]; exact ⟨5, rfl, by decide, fun _ => by omega⟩
      · rw [decide_eq_false z]; exact ⟨0, rfl, by decide, fun h => by omega⟩
    refine ⟨(tn : Int), congrArg (fun z => [V.int z]) et, by omega, by omega, ?_⟩
    rw [Int.toNat_natCast]
    refine for_range (n := tn) (lo := 0) (fun t σ G => (∃ (v5 v6 v7 v8 v9 v10 v11 v12 v13 v14 : Option V), σ = [some (.ref a), some (.int (many : Nat)), some (.int n), some (.ref p1), some (.ref p2), v5, v6, v7, v8, v9, v10, v11, v12, v13, v14]) ∧ ∃ as1 as2 one two, PR H G p1 p2 many n t as1 as2 one two) ⟨⟨_, _, _, _, _, _, _, _, _, _, rfl⟩, as1, as2, _, _, base0⟩ (fun t σ G ht hP => ?_) (fun σ G hP => ?_)
    · obtain ⟨⟨v5, v6, v7, v8, v9, v10, v11, v12, v13, v14, rfl⟩, as1, as2, one, two, I⟩ := hP
      have m1 := htm (by omega)
      have ht5' : t ≤ 5 := by omega
      have haG := ha.same I.sm
      refine ⟨.ref a, rfl, _, rfl, _, _, rfl, rfl, a, ds, _, _, rfl, haG, by omega, by decide, fun cell c0 c1 => ?_⟩
      refine ⟨_, rfl, .inl ⟨_, rfl, _, rfl, _, _, rfl, rfl, by show (0 : Int) < many; omega, ?_⟩⟩
      refine ⟨_, rfl, _, _, rfl, rfl, _, rfl, _, _, rfl, rfl, ⟨by decide, by decide⟩, .inl ⟨_, rfl, _, rfl, _, _, rfl, rfl, _, _, rfl, rfl, by show (0 : Int) < (many : Int) - 1; omega, _, _, rfl, rfl, .inl ⟨_, rfl, _, rfl, _, _, rfl, rfl, by show (0 : Int) < many; omega, ?_⟩⟩⟩
      obtain ⟨x, ex, hx⟩ : ∃ x : Nat, cell % (many : Int) = (x : Int) ∧ x < many := ⟨(cell % (many : Int)).toNat, by
        have := Int.emod_nonneg cell (show (many : Int) ≠ 0 by omega); omega, by
        have := Int.emod_nonneg cell (show (many : Int) ≠ 0 by omega)
        have := Int.emod_lt_of_pos cell (show 0 < (many : Int) by omega); omega⟩
      obtain ⟨o, eo, ho, xo⟩ : ∃ o : Nat, (cell % (many : Int) + 1 + cell / 7 % ((many : Int) - 1)) % (many : Int) = (o : Int) ∧ o < many ∧ x ≠ o := by
        rw [ex]
        have r0 := Int.emod_nonneg (cell / 7) (show (many : Int) - 1 ≠ 0 by omega)
        have r1 := Int.emod_lt_of_pos (cell / 7) (show 0 < (many : Int) - 1 by omega)
        generalize cell / 7 % ((many : Int) - 1) = r at r0 r1
        by_cases z : (x : Int) + 1 + r < many
        · refine ⟨((x : Int) + 1 + r).toNat, ?_, by omega, by omega⟩
          rw [Int.emod_eq_of_lt (by omega) z]; omega
        · refine ⟨((x : Int) + 1 + r - many).toNat, ?_, by omega, by omega⟩
          rw [show (x : Int) + 1 + r = ((x : Int) + 1 + r - many) + many by omega, Int.add_emod_right, Int.emod_eq_of_lt (by omega) (by omega)]; omega
      refine ⟨_, rfl, _, _, rfl, rfl, ⟨by decide, by decide⟩, .inl ⟨_, rfl, _, _, rfl, rfl, by show (0 : Int) < 2; omega, ?_⟩⟩
      obtain ⟨m, em, hm1⟩ : ∃ m : Nat, cell / 50 % 2 = (m : Int) ∧ m ≤ 1 := ⟨(cell / 50 % 2).toNat, by omega, by omega⟩
      refine ⟨(m : Int), congrArg (fun z => [V.int z]) em, by omega, by omega, fun D5 nD5 => ?_⟩
      rw [Int.toNat_natCast]
      refine lc_inv (walk_range (lo := 0) (n := m)) (fun k G ys => ys = (List.replicate k (0 : Int)).map V.int) nD5 (fun _ _ => trivial) (small' (by omega)) rfl (fun k u G5 Gx ys hk sm5 hD5 hR y Qt Qf qt qf => ?_) (fun G5 ys sm5 hD5 hR => ?_)
      · obtain ⟨rfl, rfl⟩ := y
        exact ⟨rfl, qt _ _ (Same.refl _) (by rw [hR, List.replicate_succ', List.map_append]; rfl)⟩
      rw [hR] at hD5
      refine ⟨_, rfl, _, _, rfl, rfl, ⟨by decide, by decide⟩, .inl ⟨_, rfl, _, _, rfl, rfl, by show (0 : Int) < 7; omega, _, _, rfl, rfl, by show 1 ≤ sizeLine; decide, fun l nl => ?_⟩⟩
      obtain ⟨c, ec, hc3⟩ : ∃ c : Int, cell / 100 % 7 - 3 = c ∧ c.natAbs ≤ 3 := ⟨_, rfl, by omega⟩
      have u1 : Same G5 (upd G5 l (.lst [.int (cell / 100 % 7 - 3)])) := same_upd nl
      refine ⟨D5, l, _, _, rfl, rfl, u1 _ _ hD5, upd_same, by rw [List.length_map, List.length_replicate]; exact small (by show _ + 1 ≤ _; omega), fun fa nfa => ?_⟩
      have u2 := same_upd nfa (o := .lst ((List.replicate m (0 : Int)).map V.int ++ [.int (cell / 100 % 7 - 3)]))
      have sF := (sm5.trans u1).trans u2
      have hfa : IL (upd (upd G5 l (.lst [.int (cell / 100 % 7 - 3)])) fa (.lst ((List.replicate m (0 : Int)).map V.int ++ [.int (cell / 100 % 7 - 3)]))) fa (List.replicate m 0 ++ [c]) := by unfold IL; rw [upd_same, ← ec, app_ints]
      generalize upd (upd G5 l (.lst [.int (cell / 100 % 7 - 3)])) fa (.lst ((List.replicate m (0 : Int)).map V.int ++ [.int (cell / 100 % 7 - 3)])) = GF at sF hfa
      refine ⟨.ref fa, rfl, _, rfl, fa, _, _, _, rfl, rfl, hfa.sq, at_last (by simp), rfl, _, rfl, ?_⟩
      refine ite2 (fun _ => ?_) (fun _ => ?_)
      · refine ⟨by show 0 ≤ sizeLine; decide, fun f0 nf0 => ?_⟩
        have u3 := same_upd nf0 (o := .lst [])
        have hf0 : IL (upd GF f0 (.lst [])) f0 [] := upd_same
        have fc : Fc [] := .inl rfl
        -- back, the row of one, the column of two
        refine ⟨.ref f0, rfl, f0, rfl, ⟨_, hf0.sq⟩, fun DB nDB => ?_⟩
        refine lc_fm (walk_list (xs := ([] : List Int).map V.int)) ([] : List Int) (fun x => some (-x)) (fun _ v n => v = V.int n) (fun _ _ _ _ _ z => z) (by rw [List.length_map]) nDB (fun H' s => s.seq hf0.sq) (small' (by rw [List.length_map]; have := fc.len; omega)) (fun i5 u5 G5 Gx ys x5 hx5 sm5 hD5 y Qt Qf qt qf => ?_) (fun G5 ys sm5 hDB hRB => ?_)
        · obtain ⟨rfl, hxi⟩ := y
          rw [List.getElem?_map, hx5] at hxi
          obtain rfl := Option.some.inj hxi
          exact ⟨rfl, _, rfl, _, rfl, qt _ _ _ rfl (Same.refl _) rfl⟩
        rw [fm_some] at hRB
        rw [a2_eq hRB] at hDB
        have hDB : IL G5 DB (([] : List Int).map fun x => -x) := hDB
        obtain ⟨fcb, fbv⟩ := fc.neg
        have fcF := fc.fac
        have sP := (sF.trans u3).trans sm5
        have hone1 := sP _ _ I.h1
        have A1P : A2 (RowL G5) as1 one := I.A1.mono fun _ _ z => RowL.same z sP
        have A2P : A2 (RowL G5) as2 two := I.A2'.mono fun _ _ z => RowL.same z sP
        have haP := (ha.same I.sm).same sP
        have hfaP := hf0.same sm5
        have l1a := A1P.len
        have l2a := A2P.len
        obtain ⟨rowi, hrowi⟩ := some_at (xs := one) (i := x) (by have := I.l1; omega)
        obtain ⟨rowo, hrowo⟩ := some_at (xs := one) (i := o) (by have := I.l1; omega)
        obtain ⟨ri, hri, esi, hli, hEi⟩ := A1P.get' hrowi
        obtain ⟨ro, hro, eso, hlo, hEo⟩ := A1P.get' hrowo
        have lri := I.r1 rowi (mem_at hrowi)
        have lro := I.r1 rowo (mem_at hrowo)
        have ati : atI (as1.map V.ref) (cell % (many : Int)) = some (.ref ri) := by rw [ex]; exact atI_nat (by rw [List.getElem?_map, hri]; rfl)
        have ato : atI (as1.map V.ref) ((cell % (many : Int) + 1 + cell / 7 % ((many : Int) - 1)) % (many : Int)) = some (.ref ro) := by rw [eo]; exact atI_nat (by rw [List.getElem?_map, hro]; rfl)
        refine ⟨_, rfl, (many : Nat), rfl, by omega, by omega, fun DR nDR => ?_⟩
        rw [Int.toNat_natCast]
        refine lc_inv (walk_range (lo := 0) (n := many)) (fun j G2 ys2 => ∃ es : List Addr, ys2 = es.map V.ref ∧ A2 (fun e ns => e ≠ DR ∧ IL G2 e ns) es ((List.range j).map fun j => padd (ent one x j) (pmul ([] : List Int) (ent one o j)))) nDR (fun _ _ => trivial) (small' (by omega)) ⟨[], rfl, .nil⟩ (fun j u2 G6 Gx ys2 hj sm6 hD6 hR6 y2 Qt2 Qf2 qt2 qf2 => ?_) (fun G6 ys2 sm6 hDR hR6 => ?_)
        · obtain ⟨rfl, rfl⟩ := y2
          obtain ⟨es, rfl, hES⟩ := hR6
          obtain ⟨ei, hei⟩ := some_at (xs := rowi) (i := j) (by omega)
          obtain ⟨eo, heo⟩ := some_at (xs := rowo) (i := j) (by omega)
          obtain ⟨ai, hai, hIi⟩ := hEi.get' hei
          obtain ⟨ao, hao, hIo⟩ := hEo.get' heo
          have bi := I.b1 rowi (mem_at hrowi) ei (mem_at hei)
          have bo := bt_pb ht5' I.b1 rowo (mem_at hrowo) eo (mem_at heo)
          have eei : ent one x j = ei := ent_at hrowi hei
          have eeo : ent one o j = eo := ent_at hrowo heo
          have atij : atI (esi.map V.ref) (0 + (j : Int)) = some (.ref ai) := by rw [Int.zero_add]; exact atI_nat (by rw [List.getElem?_map, hai]; rfl)
          have atoj : atI (eso.map V.ref) (0 + (j : Int)) = some (.ref ao) := by rw [Int.zero_add]; exact atI_nat (by rw [List.getElem?_map, hao]; rfl)
          refine ⟨rfl, .ref p1, rfl, _, rfl, p1, _, _, _, rfl, rfl, .of (sm6 _ _ hone1), ati, _, rfl, ri, _, _, _, rfl, rfl, .of (sm6 _ _ hli), atij, .ref f0, rfl, .ref p1, rfl, _, rfl, p1, _, _, _, rfl, rfl, .of (sm6 _ _ hone1), ato, _, rfl, ro, _, _, _, rfl, rfl, .of (sm6 _ _ hlo), atoj, ?_⟩
          refine ⟨f0, ao, ([] : List Int), eo, rfl, hfaP.same sm6, hIo.same sm6, by have := fc.len; omega, bo.1, fc.bd, bo.2, fun G7 m7 s7 nm7 hm7 => ?_⟩
          refine ⟨ai, m7, ei, _, rfl, (hIi.same sm6).same s7, hm7, by omega, by have := pmul_len ([] : List Int) eo; have := fc.len; have := bo.1; omega, fun G8 n8 s8 nn8 hn8 => ?_⟩
          have n8D : n8 ≠ DR := fun z => by rw [z, s7 _ _ hD6] at nn8; cases nn8
          refine qt2 _ _ (s7.trans s8) ⟨es ++ [n8], by rw [List.map_append]; rfl, ?_⟩
          rw [List.range_succ, List.map_append]
          refine A2.snoc ⟨n8D, ?_⟩ (hES.mono fun e ns z => ⟨z.1, by unfold IL; rw [upd_ne z.1]; exact (s7.trans s8) _ _ z.2⟩)
          unfold IL
          rw [upd_ne n8D]
          show _ = some (HO.lst ((padd (ent one x j) (pmul ([] : List Int) (ent one o j))).map V.int))
          rw [eei, eeo]
          exact hn8
        obtain ⟨es, rfl, hES⟩ := hR6
        have s06 := I.sm.trans (sP.trans sm6)
        have hone6 := sm6 _ _ hone1
        have ne1 : as1 ≠ [] := fun z => by rw [z] at l1a; have := I.l1; simp at l1a; omega
        have hDRr : RowL G6 DR ((List.range many).map fun j => padd (ent one x j) (pmul ([] : List Int) (ent one o j))) := ⟨es, hDR, hES.mono fun _ _ z => z.2⟩
        have hp26 : G6 p2 = some (.lst (as2.map V.ref)) := sm6 _ _ (sP _ _ I.h2)
        have DRn1 : DR ≠ p1 := fun z => by rw [z, hone1] at nDR; cases nDR
        have DRn2 : DR ≠ p2 := fun z => by rw [z, sP _ _ I.h2] at nDR; cases nDR
        have DRna : DR ∉ as2 := fun hm => by
          obtain ⟨_, _, es9, h9, _⟩ := a2_memA A2P hm
          rw [nDR] at h9
          cases h9
        refine ⟨.ref p1, rfl, _, rfl, p1, _, _, x, rfl, rfl, hone6, ix_ok ex (by rw [List.length_map]; have := I.l1; omega), ?_⟩
        have A1S : A2 (RowL (upd G6 p1 (.lst ((as1.map V.ref).set x (.ref DR))))) (as1.set x DR) (one.set x ((List.range many).map fun j => padd (ent one x j) (pmul ([] : List Int) (ent one o j)))) := A2.set (row_else hone6 ne1 DRn1 hDRr) (A2.all A1P fun k a r e z => row_else hone6 ne1 (I.of1 a (mem_at e)).1 (RowL.same z sm6)) x
        have A2S : A2 (RowL (upd G6 p1 (.lst ((as1.map V.ref).set x (.ref DR))))) as2 two := A2.all A2P fun k a r e z => row_else hone6 ne1 (I.of a (mem_at e)).1 (RowL.same z sm6)
        have hDBS : IL (upd G6 p1 (.lst ((as1.map V.ref).set x (.ref DR)))) DB (([] : List Int).map fun x => -x) := by
          unfold IL
          rw [upd_ne]
          · exact sm6 _ _ hDB
          · intro z
            have h9 := sm6 _ _ hDB
            rw [z, hone6] at h9
            cases as1 with
            | nil => exact ne1 rfl
            | cons y ys =>
              have := Option.some.inj h9
              injection this with h9
              cases hf : ([] : List Int).map fun x => -x with
              | nil => rw [hf] at h9; cases h9
              | cons w ws => rw [hf] at h9; cases h9
        have sHS : Same H (upd G6 p1 (.lst ((as1.map V.ref).set x (.ref DR)))) := same_over s06 I.n1
        have hp1S : upd G6 p1 (.lst ((as1.map V.ref).set x (.ref DR))) p1 = some (.lst ((as1.set x DR).map V.ref)) := by rw [upd_same, List.map_set]
        have hp2S : upd G6 p1 (.lst ((as1.map V.ref).set x (.ref DR))) p2 = some (.lst (as2.map V.ref)) := by rw [upd_ne I.np.symm]; exact hp26
        generalize upd G6 p1 (.lst ((as1.map V.ref).set x (.ref DR))) = GS at A1S A2S hDBS sHS hp1S hp2S
        have ofS : ∀ r ∈ as2, r ≠ p1 ∧ r ≠ p2 ∧ r ∉ as1.set x DR ∧ H r = none := fun r hr => by
          obtain ⟨a1, a2, a3, a4⟩ := I.of r hr
          refine ⟨a1, a2, fun hm => ?_, a4⟩
          rcases mem_set hm with z | z
          · exact a3 z
          · exact DRna (z ▸ hr)
        refine ⟨.ref p2, rfl, p2, rfl, ⟨_, .of hp2S⟩, ?_⟩
        refine for_it (walk_list (xs := as2.map V.ref)) (fun l σ G => (∃ (v11 : Option V), σ = [some (.ref a), some (.int (many : Nat)), some (.int n), some (.ref p1), some (.ref p2), some (.int (0 + (t : Int))), some (.int cell), some (.int (cell % (many : Int))), some (.int ((cell % (many : Int) + 1 + cell / 7 % ((many : Int) - 1)) % (many : Int))), some (.ref f0), some (.ref DB), v11, v12, v13, v14]) ∧ Same H G ∧ G p1 = some (.lst ((as1.set x DR).map V.ref)) ∧ G p2 = some (.lst (as2.map V.ref)) ∧ A2 (RowL G) (as1.set x DR) (one.set x ((List.range many).map fun j => padd (ent one x j) (pmul ([] : List Int) (ent one o j)))) ∧ IL G DB (([] : List Int).map fun x => -x) ∧ ∀ (k : Nat) r row, as2[k]? = some r → two[k]? = some row → RowL G r (if k < l then fxr (([] : List Int).map fun x => -x) x o row else row)) ⟨⟨_, rfl⟩, sHS, hp1S, hp2S, A1S, hDBS, fun k r row hr hrow => ?_⟩ (fun l σ G _ hP => .of hP.2.2.2.1) (fun l u σ G Gx hl hP y => ?_) (fun σ G hP => ?_)
        · rw [if_neg (Nat.not_lt_zero _)]
          obtain ⟨row', hr', z⟩ := A2S.get hr
          rw [hrow] at hr'
          cases hr'
          exact z
        · obtain ⟨⟨v11, rfl⟩, sH, q1, q2, qA, qB, qR⟩ := hP
          obtain ⟨rfl, hxi⟩ := y
          obtain ⟨r, hr9, rfl⟩ := row_ref hxi
          obtain ⟨row, hrow⟩ := some_at (xs := two) (i := l) (by rw [List.length_map] at hl; omega)
          have z9 := qR l r row hr9 hrow
          rw [if_neg (Nat.lt_irrefl _)] at z9
          obtain ⟨es9, hl9, hE9⟩ := z9
          have lr9 := I.r2 row (mem_at hrow)
          have les9 := hE9.len
          have ne9 : es9 ≠ [] := fun z => by rw [z] at les9; simp at les9; omega
          obtain ⟨e1, he1⟩ := some_at (xs := row) (i := o) (by omega)
          obtain ⟨e2, he2⟩ := some_at (xs := row) (i := x) (by omega)
          obtain ⟨b1, hb1, hI1⟩ := hE9.get' he1
          obtain ⟨b2, hb2, hI2⟩ := hE9.get' he2
          have p9 := bt_pb ht5' I.b2 row (mem_at hrow)
          have pe1 := p9 e1 (mem_at he1)
          have pe2 := p9 e2 (mem_at he2)
          obtain ⟨n1, n2, n3, n4⟩ := ofS r (mem_at hr9)
          refine ⟨.ref r, rfl, _, rfl, r, _, _, _, rfl, rfl, .of hl9, by rw [eo]; exact atI_nat (by rw [List.getElem?_map, hb1]; rfl), .ref DB, rfl, .ref r, rfl, _, rfl, r, _, _, _, rfl, rfl, .of hl9, by rw [ex]; exact atI_nat (by rw [List.getElem?_map, hb2]; rfl), ?_⟩
          refine ⟨DB, b2, (([] : List Int).map fun x => -x), e2, rfl, qB, hI2, by have := fcb.len; omega, pe2.1, fcb.bd, pe2.2, fun G7 m7 s7 nm7 hm7 => ?_⟩
          refine ⟨b1, m7, e1, _, rfl, hI1.same s7, hm7, by have := pe1.1; omega, by have := pmul_len (([] : List Int).map fun x => -x) e2; have := fcb.len; have := pe2.1; omega, fun G8 n8 s8 nn8 hn8 => ?_⟩
          have s78 := s7.trans s8
          have hl8 := s78 _ _ hl9
          refine ⟨.ref r, rfl, _, rfl, r, _, _, o, rfl, rfl, hl8, ix_ok eo (by rw [List.length_map]; omega), ?_⟩
          refine ⟨⟨_, rfl⟩, same_over (sH.trans s78) n4, by rw [upd_ne n1.symm]; exact s78 _ _ q1, by rw [upd_ne n2.symm]; exact s78 _ _ q2, A2.all qA fun k a rw' e z => row_else hl8 ne9 (fun w => n3 (w ▸ mem_at e)) (RowL.same z s78), ?_, fun k r' row' hr' hrow' => ?_⟩
          · unfold IL
            rw [upd_ne]
            · exact s78 _ _ qB
            · cases es9 with
              | nil => exact absurd rfl ne9
              | cons y ys => exact (not_refs (as := ys.map V.ref) (x := y) hl8 (qB.same s78)).symm
          · by_cases kl : k = l
            · subst kl
              rw [hr9] at hr'
              cases hr'
              rw [hrow] at hrow'
              cases hrow'
              rw [if_pos (Nat.lt_succ_self _)]
              unfold fxr
              rw [show row.getD o [] = e1 by rw [List.getD_eq_getElem?_getD, he1]; rfl, show row.getD x [] = e2 by rw [List.getD_eq_getElem?_getD, he2]; rfl]
              exact row_set hl8 ne9 (hE9.mono fun _ _ z => z.same s78) hn8
            · have z8 := qR k r' row' hr' hrow'
              have nr : r' ≠ r := fun w => kl (by
                have hlt : k < as2.length := (List.getElem?_eq_some_iff.mp hr').1
                exact (List.getElem?_inj hlt I.nd).mp (by rw [hr', hr9, w]))
              have := row_else (o := .lst ((es9.map V.ref).set o (.ref n8))) hl8 ne9 nr (RowL.same z8 s78)
              by_cases w : k < l
              · rw [if_pos w] at this; rw [if_pos (by omega)]; exact this
              · rw [if_neg w] at this; rw [if_neg (by omega)]; exact this
        · obtain ⟨⟨v11, rfl⟩, sH, q1, q2, qA, qB, qR⟩ := hP
          refine ⟨⟨_, _, _, _, _, _, _, _, _, _, rfl⟩, as1.set x DR, as2, one.set x ((List.range many).map fun j => padd (ent one x j) (pmul ([] : List Int) (ent one o j))), two.map (fxr (([] : List Int).map fun x => -x) x o), ?_⟩
          have lx1 : x < one.length := by have := I.l1; omega
          refine ⟨sH, q1, q2, I.n1, qA, a2_of (by rw [List.length_map]; exact l2a) fun k r row hr hrow => ?_, I.nd, ofS, fun r hr => ?_, I.np, by rw [List.length_set]; exact I.l1, by rw [List.length_map]; exact I.l2, fun r hr => ?_, fun r hr => ?_, fun r hr e he => ?_, fun r hr e he => ?_, two_step fcF I.tw hx ho xo (fun y k hy hk => ?_) (fun k y hk hy => ?_)⟩
          · rw [List.getElem?_map] at hrow
            cases h2 : two[k]? with
            | none => rw [h2] at hrow; cases hrow
            | some row2 =>
              rw [h2] at hrow
              obtain rfl := Option.some.inj hrow
              have := qR k r row2 hr h2
              rw [if_pos (by rw [List.length_map]; exact (List.getElem?_eq_some_iff.mp hr).1)] at this
              exact this
          · rcases mem_set hr with z | rfl
            · exact I.of1 r z
            · exact ⟨DRn1, DRn2⟩
          · rcases mem_set hr with z | rfl
            · exact I.r1 r z
            · rw [List.length_map, List.length_range]
          · obtain ⟨r9, hr9, rfl⟩ := List.mem_map.mp hr
            unfold fxr
            rw [List.length_set]
            exact I.r2 r9 hr9
          · rcases mem_set hr with z | rfl
            · exact bt_up (I.b1 r z e he)
            · obtain ⟨j, hj, rfl⟩ := List.mem_map.mp he
              have hj := List.mem_range.mp hj
              obtain ⟨e1, he1⟩ := some_at (xs := rowi) (i := j) (by omega)
              obtain ⟨e2, he2⟩ := some_at (xs := rowo) (i := j) (by omega)
              rw [ent_at hrowi he1, ent_at hrowo he2]
              exact bt_new fc (I.b1 rowi (mem_at hrowi) e1 (mem_at he1)) (I.b1 rowo (mem_at hrowo) e2 (mem_at he2))
          · obtain ⟨r9, hr9, rfl⟩ := List.mem_map.mp hr
            rcases mem_set he with z | rfl
            · exact bt_up (I.b2 r9 hr9 e z)
            · have lr9 := I.r2 r9 hr9
              obtain ⟨e1, he1⟩ := some_at (xs := r9) (i := o) (by omega)
              obtain ⟨e2, he2⟩ := some_at (xs := r9) (i := x) (by omega)
              rw [show r9.getD o [] = e1 by rw [List.getD_eq_getElem?_getD, he1]; rfl, show r9.getD x [] = e2 by rw [List.getD_eq_getElem?_getD, he2]; rfl]
              exact bt_new fcb (I.b2 r9 hr9 e1 (mem_at he1)) (I.b2 r9 hr9 e2 (mem_at he2))
          · show cf (ent _ y k) = _
            rw [ent_set lx1]
            by_cases z : y = x
            · rw [if_pos z, if_pos z, List.getD_eq_getElem?_getD, List.getElem?_map, List.getElem?_range hk]
              show cf (padd (ent one x k) (pmul ([] : List Int) (ent one o k))) = _
              rw [cf_ad, cf_pc]; rfl
            · rw [if_neg z, if_neg z]; rfl
          · obtain ⟨row, hrow⟩ := some_at (xs := two) (i := k) (by have := I.l2; omega)
            show cf (ent _ k y) = _
            rw [ent_fx hrow (by have := I.r2 row (mem_at hrow); omega)]
            by_cases z : y = o
            · rw [if_pos z, if_pos z, cf_ad, cf_pc]
              show ad _ (Ff _ _) = _
              rw [fbv]; rfl
            · rw [if_neg z, if_neg z]; rfl
      · have fc : Fc (List.replicate m 0 ++ [c]) := .inr ⟨m, c, hm1, hc3, rfl⟩
        -- back, the row of one, the column of two
        refine ⟨.ref fa, rfl, fa, rfl, ⟨_, hfa.sq⟩, fun DB nDB => ?_⟩
        refine lc_fm (walk_list (xs := (List.replicate m 0 ++ [c]).map V.int)) (List.replicate m 0 ++ [c]) (fun x => some (-x)) (fun _ v n => v = V.int n) (fun _ _ _ _ _ z => z) (by rw [List.length_map]) nDB (fun H' s => s.seq hfa.sq) (small' (by rw [List.length_map]; have := fc.len; omega)) (fun i5 u5 G5 Gx ys x5 hx5 sm5 hD5 y Qt Qf qt qf => ?_) (fun G5 ys sm5 hDB hRB => ?_)
        · obtain ⟨rfl, hxi⟩ := y
          rw [List.getElem?_map, hx5] at hxi
          obtain rfl := Option.some.inj hxi
          exact ⟨rfl, _, rfl, _, rfl, qt _ _ _ rfl (Same.refl _) rfl⟩
        rw [fm_some] at hRB
        rw [a2_eq hRB] at hDB
        have hDB : IL G5 DB ((List.replicate m 0 ++ [c]).map fun x => -x) := hDB
        obtain ⟨fcb, fbv⟩ := fc.neg
        have fcF := fc.fac
        have sP := sF.trans sm5
        have hone1 := sP _ _ I.h1
        have A1P : A2 (RowL G5) as1 one := I.A1.mono fun _ _ z => RowL.same z sP
        have A2P : A2 (RowL G5) as2 two := I.A2'.mono fun _ _ z => RowL.same z sP
        have haP := (ha.same I.sm).same sP
        have hfaP := hfa.same sm5
        have l1a := A1P.len
        have l2a := A2P.len
        obtain ⟨rowi, hrowi⟩ := some_at (xs := one) (i := x) (by have := I.l1; omega)
        obtain ⟨rowo, hrowo⟩ := some_at (xs := one) (i := o) (by have := I.l1; omega)
        obtain ⟨ri, hri, esi, hli, hEi⟩ := A1P.get' hrowi
        obtain ⟨ro, hro, eso, hlo, hEo⟩ := A1P.get' hrowo
        have lri := I.r1 rowi (mem_at hrowi)
        have lro := I.r1 rowo (mem_at hrowo)
        have ati : atI (as1.map V.ref) (cell % (many : Int)) = some (.ref ri) := by rw [ex]; exact atI_nat (by rw [List.getElem?_map, hri]; rfl)
        have ato : atI (as1.map V.ref) ((cell % (many : Int) + 1 + cell / 7 % ((many : Int) - 1)) % (many : Int)) = some (.ref ro) := by rw [eo]; exact atI_nat (by rw [List.getElem?_map, hro]; rfl)
        refine ⟨_, rfl, (many : Nat), rfl, by omega, by omega, fun DR nDR => ?_⟩
        rw [Int.toNat_natCast]
        refine lc_inv (walk_range (lo := 0) (n := many)) (fun j G2 ys2 => ∃ es : List Addr, ys2 = es.map V.ref ∧ A2 (fun e ns => e ≠ DR ∧ IL G2 e ns) es ((List.range j).map fun j => padd (ent one x j) (pmul (List.replicate m 0 ++ [c]) (ent one o j)))) nDR (fun _ _ => trivial) (small' (by omega)) ⟨[], rfl, .nil⟩ (fun j u2 G6 Gx ys2 hj sm6 hD6 hR6 y2 Qt2 Qf2 qt2 qf2 => ?_) (fun G6 ys2 sm6 hDR hR6 => ?_)
        · obtain ⟨rfl, rfl⟩ := y2
          obtain ⟨es, rfl, hES⟩ := hR6
          obtain ⟨ei, hei⟩ := some_at (xs := rowi) (i := j) (by omega)
          obtain ⟨eo, heo⟩ := some_at (xs := rowo) (i := j) (by omega)
          obtain ⟨ai, hai, hIi⟩ := hEi.get' hei
          obtain ⟨ao, hao, hIo⟩ := hEo.get' heo
          have bi := I.b1 rowi (mem_at hrowi) ei (mem_at hei)
          have bo := bt_pb ht5' I.b1 rowo (mem_at hrowo) eo (mem_at heo)
          have eei : ent one x j = ei := ent_at hrowi hei
          have eeo : ent one o j = eo := ent_at hrowo heo
          have atij : atI (esi.map V.ref) (0 + (j : Int)) = some (.ref ai) := by rw [Int.zero_add]; exact atI_nat (by rw [List.getElem?_map, hai]; rfl)
          have atoj : atI (eso.map V.ref) (0 + (j : Int)) = some (.ref ao) := by rw [Int.zero_add]; exact atI_nat (by rw [List.getElem?_map, hao]; rfl)
          refine ⟨rfl, .ref p1, rfl, _, rfl, p1, _, _, _, rfl, rfl, .of (sm6 _ _ hone1), ati, _, rfl, ri, _, _, _, rfl, rfl, .of (sm6 _ _ hli), atij, .ref fa, rfl, .ref p1, rfl, _, rfl, p1, _, _, _, rfl, rfl, .of (sm6 _ _ hone1), ato, _, rfl, ro, _, _, _, rfl, rfl, .of (sm6 _ _ hlo), atoj, ?_⟩
          refine ⟨fa, ao, (List.replicate m 0 ++ [c]), eo, rfl, hfaP.same sm6, hIo.same sm6, by have := fc.len; omega, bo.1, fc.bd, bo.2, fun G7 m7 s7 nm7 hm7 => ?_⟩
          refine ⟨ai, m7, ei, _, rfl, (hIi.same sm6).same s7, hm7, by omega, by have := pmul_len (List.replicate m 0 ++ [c]) eo; have := fc.len; have := bo.1; omega, fun G8 n8 s8 nn8 hn8 => ?_⟩
          have n8D : n8 ≠ DR := fun z => by rw [z, s7 _ _ hD6] at nn8; cases nn8
          refine qt2 _ _ (s7.trans s8) ⟨es ++ [n8], by rw [List.map_append]; rfl, ?_⟩
          rw [List.range_succ, List.map_append]
          refine A2.snoc ⟨n8D, ?_⟩ (hES.mono fun e ns z => ⟨z.1, by unfold IL; rw [upd_ne z.1]; exact (s7.trans s8) _ _ z.2⟩)
          unfold IL
          rw [upd_ne n8D]
          show _ = some (HO.lst ((padd (ent one x j) (pmul (List.replicate m 0 ++ [c]) (ent one o j))).map V.int))
          rw [eei, eeo]
          exact hn8
        obtain ⟨es, rfl, hES⟩ := hR6
        have s06 := I.sm.trans (sP.trans sm6)
        have hone6 := sm6 _ _ hone1
        have ne1 : as1 ≠ [] := fun z => by rw [z] at l1a; have := I.l1; simp at l1a; omega
        have hDRr : RowL G6 DR ((List.range many).map fun j => padd (ent one x j) (pmul (List.replicate m 0 ++ [c]) (ent one o j))) := ⟨es, hDR, hES.mono fun _ _ z => z.2⟩
        have hp26 : G6 p2 = some (.lst (as2.map V.ref)) := sm6 _ _ (sP _ _ I.h2)
        have DRn1 : DR ≠ p1 := fun z => by rw [z, hone1] at nDR; cases nDR
        have DRn2 : DR ≠ p2 := fun z => by rw [z, sP _ _ I.h2] at nDR; cases nDR
        have DRna : DR ∉ as2 := fun hm => by
          obtain ⟨_, _, es9, h9, _⟩ := a2_memA A2P hm
          rw [nDR] at h9
          cases h9
        refine ⟨.ref p1, rfl, _, rfl, p1, _, _, x, rfl, rfl, hone6, ix_ok ex (by rw [List.length_map]; have := I.l1; omega), ?_⟩
        have A1S : A2 (RowL (upd G6 p1 (.lst ((as1.map V.ref).set x (.ref DR))))) (as1.set x DR) (one.set x ((List.range many).map fun j => padd (ent one x j) (pmul (List.replicate m 0 ++ [c]) (ent one o j)))) := A2.set (row_else hone6 ne1 DRn1 hDRr) (A2.all A1P fun k a r e z => row_else hone6 ne1 (I.of1 a (mem_at e)).1 (RowL.same z sm6)) x
        have A2S : A2 (RowL (upd G6 p1 (.lst ((as1.map V.ref).set x (.ref DR))))) as2 two := A2.all A2P fun k a r e z => row_else hone6 ne1 (I.of a (mem_at e)).1 (RowL.same z sm6)
        have hDBS : IL (upd G6 p1 (.lst ((as1.map V.ref).set x (.ref DR)))) DB ((List.replicate m 0 ++ [c]).map fun x => -x) := by
          unfold IL
          rw [upd_ne]
          · exact sm6 _ _ hDB
          · intro z
            have h9 := sm6 _ _ hDB
            rw [z, hone6] at h9
            cases as1 with
            | nil => exact ne1 rfl
            | cons y ys =>
              have := Option.some.inj h9
              injection this with h9
              cases hf : (List.replicate m 0 ++ [c]).map fun x => -x with
              | nil => rw [hf] at h9; cases h9
              | cons w ws => rw [hf] at h9; cases h9
        have sHS : Same H (upd G6 p1 (.lst ((as1.map V.ref).set x (.ref DR)))) := same_over s06 I.n1
        have hp1S : upd G6 p1 (.lst ((as1.map V.ref).set x (.ref DR))) p1 = some (.lst ((as1.set x DR).map V.ref)) := by rw [upd_same, List.map_set]
        have hp2S : upd G6 p1 (.lst ((as1.map V.ref).set x (.ref DR))) p2 = some (.lst (as2.map V.ref)) := by rw [upd_ne I.np.symm]; exact hp26
        generalize upd G6 p1 (.lst ((as1.map V.ref).set x (.ref DR))) = GS at A1S A2S hDBS sHS hp1S hp2S
        have ofS : ∀ r ∈ as2, r ≠ p1 ∧ r ≠ p2 ∧ r ∉ as1.set x DR ∧ H r = none := fun r hr => by
          obtain ⟨a1, a2, a3, a4⟩ := I.of r hr
          refine ⟨a1, a2, fun hm => ?_, a4⟩
          rcases mem_set hm with z | z
          · exact a3 z
          · exact DRna (z ▸ hr)
        refine ⟨.ref p2, rfl, p2, rfl, ⟨_, .of hp2S⟩, ?_⟩
        refine for_it (walk_list (xs := as2.map V.ref)) (fun l σ G => (∃ (v11 : Option V), σ = [some (.ref a), some (.int (many : Nat)), some (.int n), some (.ref p1), some (.ref p2), some (.int (0 + (t : Int))), some (.int cell), some (.int (cell % (many : Int))), some (.int ((cell % (many : Int) + 1 + cell / 7 % ((many : Int) - 1)) % (many : Int))), some (.ref fa), some (.ref DB), v11, v12, v13, v14]) ∧ Same H G ∧ G p1 = some (.lst ((as1.set x DR).map V.ref)) ∧ G p2 = some (.lst (as2.map V.ref)) ∧ A2 (RowL G) (as1.set x DR) (one.set x ((List.range many).map fun j => padd (ent one x j) (pmul (List.replicate m 0 ++ [c]) (ent one o j)))) ∧ IL G DB ((List.replicate m 0 ++ [c]).map fun x => -x) ∧ ∀ (k : Nat) r row, as2[k]? = some r → two[k]? = some row → RowL G r (if k < l then fxr ((List.replicate m 0 ++ [c]).map fun x => -x) x o row else row)) ⟨⟨_, rfl⟩, sHS, hp1S, hp2S, A1S, hDBS, fun k r row hr hrow => ?_⟩ (fun l σ G _ hP => .of hP.2.2.2.1) (fun l u σ G Gx hl hP y => ?_) (fun σ G hP => ?_)
        · rw [if_neg (Nat.not_lt_zero _)]
          obtain ⟨row', hr', z⟩ := A2S.get hr
          rw [hrow] at hr'
          cases hr'
          exact z
        · obtain ⟨⟨v11, rfl⟩, sH, q1, q2, qA, qB, qR⟩ := hP
          obtain ⟨rfl, hxi⟩ := y
          obtain ⟨r, hr9, rfl⟩ := row_ref hxi
          obtain ⟨row, hrow⟩ := some_at (xs := two) (i := l) (by rw [List.length_map] at hl; omega)
          have z9 := qR l r row hr9 hrow
          rw [if_neg (Nat.lt_irrefl _)] at z9
          obtain ⟨es9, hl9, hE9⟩ := z9
          have lr9 := I.r2 row (mem_at hrow)
          have les9 := hE9.len
          have ne9 : es9 ≠ [] := fun z => by rw [z] at les9; simp at les9; omega
          obtain ⟨e1, he1⟩ := some_at (xs := row) (i := o) (by omega)
          obtain ⟨e2, he2⟩ := some_at (xs := row) (i := x) (by omega)
          obtain ⟨b1, hb1, hI1⟩ := hE9.get' he1
          obtain ⟨b2, hb2, hI2⟩ := hE9.get' he2
          have p9 := bt_pb ht5' I.b2 row (mem_at hrow)
          have pe1 := p9 e1 (mem_at he1)
          have pe2 := p9 e2 (mem_at he2)
          obtain ⟨n1, n2, n3, n4⟩ := ofS r (mem_at hr9)
          refine ⟨.ref r, rfl, _, rfl, r, _, _, _, rfl, rfl, .of hl9, by rw [eo]; exact atI_nat (by rw [List.getElem?_map, hb1]; rfl), .ref DB, rfl, .ref r, rfl, _, rfl, r, _, _, _, rfl, rfl, .of hl9, by rw [ex]; exact atI_nat (by rw [List.getElem?_map, hb2]; rfl), ?_⟩
          refine ⟨DB, b2, ((List.replicate m 0 ++ [c]).map fun x => -x), e2, rfl, qB, hI2, by have := fcb.len; omega, pe2.1, fcb.bd, pe2.2, fun G7 m7 s7 nm7 hm7 => ?_⟩
          refine ⟨b1, m7, e1, _, rfl, hI1.same s7, hm7, by have := pe1.1; omega, by have := pmul_len ((List.replicate m 0 ++ [c]).map fun x => -x) e2; have := fcb.len; have := pe2.1; omega, fun G8 n8 s8 nn8 hn8 => ?_⟩
          have s78 := s7.trans s8
          have hl8 := s78 _ _ hl9
          refine ⟨.ref r, rfl, _, rfl, r, _, _, o, rfl, rfl, hl8, ix_ok eo (by rw [List.length_map]; omega), ?_⟩
          refine ⟨⟨_, rfl⟩, same_over (sH.trans s78) n4, by rw [upd_ne n1.symm]; exact s78 _ _ q1, by rw [upd_ne n2.symm]; exact s78 _ _ q2, A2.all qA fun k a rw' e z => row_else hl8 ne9 (fun w => n3 (w ▸ mem_at e)) (RowL.same z s78), ?_, fun k r' row' hr' hrow' => ?_⟩
          · unfold IL
            rw [upd_ne]
            · exact s78 _ _ qB
            · cases es9 with
              | nil => exact absurd rfl ne9
              | cons y ys => exact (not_refs (as := ys.map V.ref) (x := y) hl8 (qB.same s78)).symm
          · by_cases kl : k = l
            · subst kl
              rw [hr9] at hr'
              cases hr'
              rw [hrow] at hrow'
              cases hrow'
              rw [if_pos (Nat.lt_succ_self _)]
              unfold fxr
              rw [show row.getD o [] = e1 by rw [List.getD_eq_getElem?_getD, he1]; rfl, show row.getD x [] = e2 by rw [List.getD_eq_getElem?_getD, he2]; rfl]
              exact row_set hl8 ne9 (hE9.mono fun _ _ z => z.same s78) hn8
            · have z8 := qR k r' row' hr' hrow'
              have nr : r' ≠ r := fun w => kl (by
                have hlt : k < as2.length := (List.getElem?_eq_some_iff.mp hr').1
                exact (List.getElem?_inj hlt I.nd).mp (by rw [hr', hr9, w]))
              have := row_else (o := .lst ((es9.map V.ref).set o (.ref n8))) hl8 ne9 nr (RowL.same z8 s78)
              by_cases w : k < l
              · rw [if_pos w] at this; rw [if_pos (by omega)]; exact this
              · rw [if_neg w] at this; rw [if_neg (by omega)]; exact this
        · obtain ⟨⟨v11, rfl⟩, sH, q1, q2, qA, qB, qR⟩ := hP
          refine ⟨⟨_, _, _, _, _, _, _, _, _, _, rfl⟩, as1.set x DR, as2, one.set x ((List.range many).map fun j => padd (ent one x j) (pmul (List.replicate m 0 ++ [c]) (ent one o j))), two.map (fxr ((List.replicate m 0 ++ [c]).map fun x => -x) x o), ?_⟩
          have lx1 : x < one.length := by have := I.l1; omega
          refine ⟨sH, q1, q2, I.n1, qA, a2_of (by rw [List.length_map]; exact l2a) fun k r row hr hrow => ?_, I.nd, ofS, fun r hr => ?_, I.np, by rw [List.length_set]; exact I.l1, by rw [List.length_map]; exact I.l2, fun r hr => ?_, fun r hr => ?_, fun r hr e he => ?_, fun r hr e he => ?_, two_step fcF I.tw hx ho xo (fun y k hy hk => ?_) (fun k y hk hy => ?_)⟩
          · rw [List.getElem?_map] at hrow
            cases h2 : two[k]? with
            | none => rw [h2] at hrow; cases hrow
            | some row2 =>
              rw [h2] at hrow
              obtain rfl := Option.some.inj hrow
              have := qR k r row2 hr h2
              rw [if_pos (by rw [List.length_map]; exact (List.getElem?_eq_some_iff.mp hr).1)] at this
              exact this
          · rcases mem_set hr with z | rfl
            · exact I.of1 r z
            · exact ⟨DRn1, DRn2⟩
          · rcases mem_set hr with z | rfl
            · exact I.r1 r z
            · rw [List.length_map, List.length_range]
          · obtain ⟨r9, hr9, rfl⟩ := List.mem_map.mp hr
            unfold fxr
            rw [List.length_set]
            exact I.r2 r9 hr9
          · rcases mem_set hr with z | rfl
            · exact bt_up (I.b1 r z e he)
            · obtain ⟨j, hj, rfl⟩ := List.mem_map.mp he
              have hj := List.mem_range.mp hj
              obtain ⟨e1, he1⟩ := some_at (xs := rowi) (i := j) (by omega)
              obtain ⟨e2, he2⟩ := some_at (xs := rowo) (i := j) (by omega)
              rw [ent_at hrowi he1, ent_at hrowo he2]
              exact bt_new fc (I.b1 rowi (mem_at hrowi) e1 (mem_at he1)) (I.b1 rowo (mem_at hrowo) e2 (mem_at he2))
          · obtain ⟨r9, hr9, rfl⟩ := List.mem_map.mp hr
            rcases mem_set he with z | rfl
            · exact bt_up (I.b2 r9 hr9 e z)
            · have lr9 := I.r2 r9 hr9
              obtain ⟨e1, he1⟩ := some_at (xs := r9) (i := o) (by omega)
              obtain ⟨e2, he2⟩ := some_at (xs := r9) (i := x) (by omega)
              rw [show r9.getD o [] = e1 by rw [List.getD_eq_getElem?_getD, he1]; rfl, show r9.getD x [] = e2 by rw [List.getD_eq_getElem?_getD, he2]; rfl]
              exact bt_new fcb (I.b2 r9 hr9 e1 (mem_at he1)) (I.b2 r9 hr9 e2 (mem_at he2))
          · show cf (ent _ y k) = _
            rw [ent_set lx1]
            by_cases z : y = x
            · rw [if_pos z, if_pos z, List.getD_eq_getElem?_getD, List.getElem?_map, List.getElem?_range hk]
              show cf (padd (ent one x k) (pmul (List.replicate m 0 ++ [c]) (ent one o k))) = _
              rw [cf_ad, cf_pc]; rfl
            · rw [if_neg z, if_neg z]; rfl
          · obtain ⟨row, hrow⟩ := some_at (xs := two) (i := k) (by have := I.l2; omega)
            show cf (ent _ k y) = _
            rw [ent_fx hrow (by have := I.r2 row (mem_at hrow); omega)]
            by_cases z : y = o
            · rw [if_pos z, if_pos z, cf_ad, cf_pc]
              show ad _ (Ff _ _) = _
              rw [fbv]; rfl
            · rw [if_neg z, if_neg z]; rfl
    · obtain ⟨⟨v5, v6, v7, v8, v9, v10, v11, v12, v13, v14, rfl⟩, as1, as2, one, two, I⟩ := hP
      refine ⟨.ref p1, rfl, .ref p2, rfl, by show 2 ≤ sizeLine; decide, fun u nu => ?_⟩
      have s9 := same_upd nu (o := .tup [.ref p1, .ref p2])
      exact q _ u p1 p2 as1 as2 one two tn upd_same ⟨I.sm.trans s9, s9 _ _ I.h1, s9 _ _ I.h2, I.n1, I.A1.mono fun _ _ z => RowL.same z s9, I.A2'.mono fun _ _ z => RowL.same z s9, I.nd, I.of, I.of1, I.np, I.l1, I.l2, I.r1, I.r2, I.b1, I.b2, I.tw⟩ ht5
end
-- E01
set_option exponentiation.threshold 900
def Thr (ns : List Int) : Prop := ns.length = 3 ∧ ∀ x ∈ ns, 0 ≤ x ∧ x ≤ 12
def TS3 (a : Addr) (ds : List Int) : TS := fun D σ H => ∃ (Dz : Addr) (wd : Int) (ns : List Int), σ = [some (.ref a), some (.int wd), some (.ref Dz), none, none, none, none, none, none, none, none, none, none, none, none, none, none] ∧ IL H a ds ∧ IL H Dz ns ∧ Thr ns ∧
  ∀ G Dw ns, Same H G → IL G Dw ns → Thr ns → D.nx [some (.ref a), some (.int wd), some (.ref Dw), none, none, none, none, none, none, none, none, none, none, none, none, none, none] G
theorem fold_len : ∀ (ps : List (List Int × List Int)) (tot : List Int), tot.length ≤ 200 → (∀ p ∈ ps, Pb p.1 ∧ Pb p.2) → (ps.foldl pstep tot).length ≤ 200
  | [], tot, h, _ => h
  | p :: ps, tot, h, hp => fold_len ps _ (pstep_len h (hp p List.mem_cons_self).1 (hp p List.mem_cons_self).2) fun q hq => hp q (List.mem_cons_of_mem _ hq)
theorem pb_nil : Pb [] := ⟨Nat.zero_le _, fun m => by rw [cf_ge (Nat.zero_le _)]; decide⟩
theorem cellv_len {row : List (List Int)} {tab : Tb} {j : Nat} (h1 : ∀ e ∈ row, Pb e) (h2 : ∀ t ∈ tab, ∀ e ∈ t, Pb e) : (cellv row tab j).length ≤ 200 := by
  refine fold_len _ _ (Nat.zero_le _) fun p hp => ?_
  obtain ⟨a, b⟩ := p
  have m := List.of_mem_zip hp
  refine ⟨h1 a m.1, ?_⟩
  obtain ⟨t, ht, rfl⟩ := List.mem_map.mp m.2
  show Pb (t.getD j [])
  rw [List.getD_eq_getElem?_getD]
  cases e : t[j]? with
  | none => exact pb_nil
  | some x => exact h2 t ht x (mem_at e)
theorem prod_len {one two : Tb} (h1 : ∀ r ∈ one, ∀ e ∈ r, Pb e) (h2 : ∀ t ∈ two, ∀ e ∈ t, Pb e) : ∀ r ∈ prodT one two, r.length = wdt two ∧ ∀ e ∈ r, e.length ≤ 200 := fun r hr => by
  obtain ⟨row, hrow, rfl⟩ := List.mem_map.mp hr
  refine ⟨by rw [List.length_map, List.length_range], fun e he => ?_⟩
  obtain ⟨j, _, rfl⟩ := List.mem_map.mp he
  exact cellv_len (h1 row hrow) h2
/-- a row that was told -/
def ERw (G5 : Hp) (L : Addr) (wd B : Nat) (G : Hp) (r : Addr) : Prop := r ≠ L ∧ G5 r = none ∧ ∃ es : List Addr, G r = some (.lst (es.map V.ref)) ∧ es.length = wd ∧ ∀ e ∈ es, e ≠ L ∧ G5 e = none ∧ ∃ ns, IL G e ns ∧ ns.length ≤ B
theorem ERw.same {G5 G G' : Hp} {L : Addr} {wd B : Nat} {r : Addr} (s : Same G G') (h : ERw G5 L wd B G r) : ERw G5 L wd B G' r := let ⟨a, b, es, hr, l, f⟩ := h; ⟨a, b, es, s _ _ hr, l, fun e he => let ⟨x, y, ns, hI, z⟩ := f e he; ⟨x, y, ns, hI.same s, z⟩⟩
theorem ERw.more {G5 G : Hp} {L : Addr} {wd B B' : Nat} {r : Addr} (l : B ≤ B') (h : ERw G5 L wd B G r) : ERw G5 L wd B' G r := let ⟨a, b, es, hr, w, f⟩ := h; ⟨a, b, es, hr, w, fun e he => let ⟨x, y, ns, hI, z⟩ := f e he; ⟨x, y, ns, hI, Nat.le_trans z l⟩⟩
theorem ERw.el {G5 G : Hp} {L e0 : Addr} {wd B : Nat} {r : Addr} {ns0 : List Int} (hw : 0 < wd) (h0 : IL G e0 ns0) (l0 : ns0.length ≤ B) (h : ERw G5 L wd B G r) : ERw G5 L wd (B + 1) (upd G e0 (.lst (ns0.map V.int ++ [V.int 7]))) r := by
  obtain ⟨a, b, es, hr, w, f⟩ := h
  have nr : r ≠ e0 := by
    cases es with
    | nil => rw [← w] at hw; exact absurd hw (by decide)
    | cons x xs => exact not_refs (as := xs.map V.ref) (x := x) hr h0
  refine ⟨a, b, es, by rw [upd_ne nr]; exact hr, w, fun e he => ?_⟩
  obtain ⟨x, y, ns, hI, z⟩ := f e he
  refine ⟨x, y, ?_⟩
  by_cases q : e = e0
  · exact ⟨ns0 ++ [7], by unfold IL; rw [q, upd_same, ← app_ints], by rw [List.length_append]; exact Nat.succ_le_succ l0⟩
  · exact ⟨ns, by unfold IL; rw [upd_ne q]; exact hI, Nat.le_succ_of_le z⟩
theorem ERw.row {G5 G : Hp} {L r0 : Addr} {wd B : Nat} {r : Addr} {es0 : List Addr} {o : HO} (h0 : G r0 = some (.lst (es0.map V.ref))) (w0 : es0.length = wd) (n : r ≠ r0) (h : ERw G5 L wd B G r) : ERw G5 L wd B (upd G r0 o) r := by
  obtain ⟨a, b, es, hr, w, f⟩ := h
  refine ⟨a, b, es, by rw [upd_ne n]; exact hr, w, fun e he => ?_⟩
  obtain ⟨x, y, ns, hI, z⟩ := f e he
  refine ⟨x, y, ns, ?_, z⟩
  unfold IL
  rw [upd_ne]
  · exact hI
  · cases es0 with
    | nil =>
      rw [← w0] at w
      rw [List.length_eq_zero_iff.mp w] at he
      cases he
    | cons x xs => exact (not_refs (as := xs.map V.ref) (x := x) h0 hI).symm
theorem log7 {n : Nat} (h : n < 2 ^ 700) : n.log2 < 1920 := by
  rcases Nat.eq_zero_or_pos n with rfl | p
  · decide
  · exact Nat.lt_trans ((Nat.log2_lt (by omega)).mpr h) (by decide)
theorem Gd.int7 {i : Int} (h : i.natAbs < 2 ^ 700) : Gd 0 230 (.int i) := by
  refine ⟨decide_eq_true (log7 h), rfl, Nat.le_refl _, ?_⟩
  show (Str.ofString (toString i)).length ≤ 230
  rw [PySem.ofString_length]
  exact Nat.le_trans (int_text_length_le10 (k := 212) (by decide) (Nat.lt_of_lt_of_le h (by decide))) (by decide)
theorem pval_le {x : Int} (hx : x.natAbs ≤ 1000) : ∀ e : List Int, (∀ y ∈ e, y.natAbs ≤ 2 ^ 200) → (pval x e).natAbs ≤ 2 ^ 200 * 1001 ^ e.length
  | [], _ => Nat.zero_le _
  | y :: r, h => by
    have ih := pval_le hx r fun z hz => h z (List.mem_cons_of_mem _ hz)
    have hy := h y List.mem_cons_self
    have e : pval x (y :: r) = pval x r * x + y := rfl
    have ep : (1001 : Nat) ^ (r.length + 1) = 1001 ^ r.length * 1001 := Nat.pow_succ ..
    rw [e, List.length_cons, ep]
    have h1 : (pval x r * x + y).natAbs ≤ (pval x r * x).natAbs + y.natAbs := Int.natAbs_add_le _ _
    rw [Int.natAbs_mul] at h1
    have h2 : (pval x r).natAbs * x.natAbs ≤ 2 ^ 200 * 1001 ^ r.length * 1000 := Nat.mul_le_mul ih hx
    have h3 : 2 ^ 200 * 1 ≤ 2 ^ 200 * 1001 ^ r.length := Nat.mul_le_mul_left _ (Nat.pow_pos (by decide))
    rw [← Nat.mul_assoc]
    generalize 2 ^ 200 * 1001 ^ r.length = N at *
    omega
theorem gd_vals {x : Int} (hx : x.natAbs ≤ 1000) {tab : Tb} (l : tab.length ≤ 13) (h : ∀ r ∈ tab, r.length ≤ 13 ∧ ∀ e ∈ r, Ge e) : Gd 2 50000 (dEls (tab.map fun r => r.map (pval x))) := by
  have one : ∀ r ∈ tab.map (fun r => r.map (pval x)), Gd 1 3100 (dI r) := fun r hr => by
    obtain ⟨r0, h0, rfl⟩ := List.mem_map.mp hr
    have : Gd 1 ((r0.map (pval x)).length * 232 + 2) (dI (r0.map (pval x))) := Gd.list (GdAll.map fun n hn => by
      obtain ⟨e, he, rfl⟩ := List.mem_map.mp hn
      obtain ⟨g1, g2, g3⟩ := (h r0 h0).2 e he
      refine Gd.int7 (Nat.lt_of_le_of_lt (Nat.le_trans (pval_le hx e fun y hy => ?_) (Nat.mul_le_mul_left _ (Nat.pow_le_pow_right (by decide) g3))) (by decide))
      obtain ⟨i, hi, rfl⟩ := List.getElem_of_mem hy
      have := g2 i
      rw [show cf e i = e[i] from cf_lt hi] at this
      exact Nat.le_of_lt this)
    exact this.mono (Nat.le_refl _) (by rw [List.length_map]; have := (h r0 h0).1; omega)
  have : Gd 2 ((tab.map fun r => r.map (pval x)).length * 3102 + 2) (dEls (tab.map fun r => r.map (pval x))) := Gd.list (GdAll.map one)
  exact this.mono (Nat.le_refl _) (by rw [List.length_map]; omega)
theorem A2.drop {α β : Type} {R : α → β → Prop} : ∀ {as : List α} {bs : List β} (i : Nat), A2 R as bs → A2 R (as.drop i) (bs.drop i)
  | _, _, 0, h => h
  | _, _, _ + 1, .nil => .nil
  | _, _, i + 1, .cons _ t => A2.drop i t
theorem cut_tail {as : List Addr} {m : Nat} (h : m ≤ as.length) : cutV (as.map V.ref) (some (m : Int)) none = (as.drop m).map V.ref := by
  unfold cutV
  rw [HT.sIx_none, HT.sIx_nat, List.length_map, Nat.min_eq_left h, List.take_of_length_le (by rw [List.length_drop, List.length_map]; exact Nat.le_refl _), List.map_drop]
def dKT (one two : Tb) : PyData := .tuple [dTb one, dTb two]
theorem gd_ge {e : List Int} (h : Ge e) : Gd 1 6000 (dI e) := by
  have : Gd 1 (e.length * 132 + 2) (dI e) := Gd.list (GdAll.map fun n hn => Gd.int (by
    obtain ⟨i, hi, rfl⟩ := List.getElem_of_mem hn
    have := h.2.1 i
    rw [show cf e i = e[i] from cf_lt hi] at this
    exact Nat.lt_trans this (by decide)))
  exact this.mono (Nat.le_refl _) (by have := h.2.2; omega)
theorem gd_gt {tab : Tb} (l : tab.length ≤ 13) (h : ∀ r ∈ tab, r.length ≤ 13 ∧ ∀ e ∈ r, Ge e) : Gd 3 1100000 (dTb tab) := by
  have one : ∀ r ∈ tab, Gd 2 80000 (dEls r) := fun r hr => by
    have : Gd 2 (r.length * 6002 + 2) (dEls r) := Gd.list (GdAll.map fun e he => gd_ge ((h r hr).2 e he))
    exact this.mono (Nat.le_refl _) (by have := (h r hr).1; omega)
  have : Gd 3 (tab.length * 80002 + 2) (dTb tab) := Gd.list (GdAll.map one)
  exact this.mono (Nat.le_refl _) (by omega)
section
variable {P : Program} {w : World} {K : PySem.W.Frag} {mg : Str → Option Value} {base : Heap}
def sp_law_tables_hold : Sp := fun vs H Q _ => ∃ (a : Addr) (ds : List Int), vs = [.ref a] ∧ IL H a ds ∧ ∀ H', Same H H' → Q (.bl true) H'
theorem ok_law_tables_hold (T : Txt K mg) (X : Errs K mg) : LG.FnG P w K mg base CX0 6 T.law_tables_hold.a T.law_tables_hold.fd ["draws"] sp_law_tables_hold := by
  refine LG.fun_okG T.law_tables_hold.F sc_law_tables_hold (fun vs H Q E h => ?_) (fun cdv A outer s H vs Q E hr gd h => ?_)
  · obtain ⟨a, ds, rfl, _⟩ := h
    rfl
  · obtain ⟨a, ds, rfl, ha, q⟩ := h
    refine ⟨_, (pss_cons (ps_set (i := 1) sc_law_tables_hold.nd rfl (.inl rfl) (pe_call (ok_law_at T) (hr.mono (by decide)) (by rfl) T.law_at.g T.law_at.F.kp T.law_at.b .nil pass0 (pa_cons (pv 0) (pa_cons pe_int (pa_cons pe_int pa_nil)))))
      (pss_cons (ps_setLc (i := 2) (own := [("k", 15)]) rfl sc_law_tables_hold.nd rfl rfl (sw_true rfl rfl rfl (by decide +kernel)) (pi_range1 (by rfl) T.m_range (pa_cons pe_int pa_nil)) (blkOk_by (N := ["draws", "word", "sizes", "rows", "middle", "columns", "one", "two", "kept", "due", "told", "row", "element", "at", "values", "k", "j"]) (sc := defScope s_law_tables_hold) (by decide +kernel)) (fun _ _ _ _ _ => (pg_name (i := 15) sc_law_tables_hold.nd rfl (.inl rfl))) (fun _ _ _ _ _ => pts_nil) (fun _ _ _ _ _ => (pe_call (ok_law_at T) (hr.mono (by decide)) (by rfl) T.law_at.g T.law_at.F.kp T.law_at.b .nil pass0 (pa_cons (pv 0) (pa_cons (pv 15) (pa_cons pe_int pa_nil))))))
      (pss_cons (ps_via (t' := TS3 a ds) (ps_if (pt_cmpR op_eq (pv 1) pe_int (nomark _))
        (pss_one (ps_setLc (i := 2) (own := [("k", 15)]) rfl sc_law_tables_hold.nd rfl rfl (sw_true rfl rfl rfl (by decide +kernel)) (pi_range1 (by rfl) T.m_range (pa_cons pe_int pa_nil)) (blkOk_by (N := ["draws", "word", "sizes", "rows", "middle", "columns", "one", "two", "kept", "due", "told", "row", "element", "at", "values", "k", "j"]) (sc := defScope s_law_tables_hold) (by decide +kernel)) (fun _ _ _ _ _ => (pg_name (i := 15) sc_law_tables_hold.nd rfl (.inl rfl))) (fun _ _ _ _ _ => pts_nil) (fun _ _ _ _ _ => (pe_op op_sub pe_int (pe_call (ok_law_at T) (hr.mono (by decide)) (by rfl) T.law_at.g T.law_at.F.kp T.law_at.b .nil pass0 (pa_cons (pv 0) (pa_cons (pv 15) (pa_cons pe_int pa_nil))))))))
        (pss_one (ps_if (pt_cmpR op_eq (pv 1) pe_int (nomark _))
          (pss_one (ps_setLc (i := 2) (own := [("k", 15)]) rfl sc_law_tables_hold.nd rfl rfl (sw_true rfl rfl rfl (by decide +kernel)) (pi_range1 (by rfl) T.m_range (pa_cons pe_int pa_nil)) (blkOk_by (N := ["draws", "word", "sizes", "rows", "middle", "columns", "one", "two", "kept", "due", "told", "row", "element", "at", "values", "k", "j"]) (sc := defScope s_law_tables_hold) (by decide +kernel)) (fun _ _ _ _ _ => (pg_name (i := 15) sc_law_tables_hold.nd rfl (.inl rfl))) (fun _ _ _ _ _ => pts_nil) (fun _ _ _ _ _ => (pe_op op_add pe_int (pe_call (ok_law_at T) (hr.mono (by decide)) (by rfl) T.law_at.g T.law_at.F.kp T.law_at.b .nil pass0 (pa_cons (pv 0) (pa_cons (pv 15) (pa_cons pe_int pa_nil))))))))
          pss_nil))) ?t3)
      (pss_cons (ps_asg (pv 2) (pg_lst rfl (pgs_cons (pg_name (i := 3) sc_law_tables_hold.nd rfl (.inl rfl)) (pgs_cons (pg_name (i := 4) sc_law_tables_hold.nd rfl (.inl rfl)) (pgs_cons (pg_name (i := 5) sc_law_tables_hold.nd rfl (.inl rfl)) pgs_nil)))))
      (pss_cons (ps_set (i := 6) sc_law_tables_hold.nd rfl (.inl rfl) (pe_call (ok_law_table T) (hr.mono (by decide)) (by rfl) T.law_table.g T.law_table.F.kp T.law_table.b .nil pass0 (pa_cons (pv 0) (pa_cons pe_int (pa_cons (pv 3) (pa_cons (pv 4) (pa_cons (pe_cmpR op_eq (pv 1) pe_int (nomark _)) pa_nil)))))))
      (pss_cons (ps_set (i := 7) sc_law_tables_hold.nd rfl (.inl rfl) (pe_call (ok_law_table T) (hr.mono (by decide)) (by rfl) T.law_table.g T.law_table.F.kp T.law_table.b .nil pass0 (pa_cons (pv 0) (pa_cons pe_int (pa_cons (pv 4) (pa_cons (pv 5) (pa_cons (pe_cmpR op_eq (pv 1) pe_int (nomark _)) pa_nil)))))))
      (pss_cons (ps_set (i := 8) sc_law_tables_hold.nd rfl (.inl rfl) (pe_callB (LG.call_reprD gd hr.units) (by rfl) T.m_repr (by decide +kernel) (pa_cons (pe_tup (pa_cons (pv 6) (pa_cons (pv 7) pa_nil))) pa_nil)))
      (pss_cons (ps_set (i := 9) sc_law_tables_hold.nd rfl (.inl rfl) (pe_call (ok_law_product T) (hr.mono (by decide)) (by rfl) T.law_product.g T.law_product.F.kp T.law_product.b .nil pass0 (pa_cons (pv 6) (pa_cons (pv 7) (pa_cons (pe_op op_mul (pv 5) (pe_callTy call_int1 (by rfl) T.m_int (by decide +kernel) (pa_cons (pe_cmpR op_gt (pv 4) pe_int (nomark _)) pa_nil))) pa_nil)))))
      (pss_cons (ps_set (i := 10) sc_law_tables_hold.nd rfl (.inl rfl) (pe_call (ok_productF T X) (hr.mono (by decide)) (by rfl) T.product.g T.product.F.kp T.product.b .nil (passes_call takes0 fun _ _ _ _ h => h) (pa_cons (pv 6) (pa_cons (pv 7) pa_nil))))
      (pss_cons (ps_if (PW.pt (pw_or (pt_not (pt_val (pe_callB call_isi (by rfl) T.m_isinstance (by decide +kernel) (pa_cons (pv 10) (pa_cons (pe_bltn (v := .ty "list") (by rfl) T.m_list (by decide +kernel) rfl) pa_nil))))) (pw_or (pt_cmpR (op_neD hr.units) (pv 10) (pv 9) (nomark _)) (pw_or1 (pt_cmpR op_ne (pe_callB (LG.call_reprD gd hr.units) (by rfl) T.m_repr (by decide +kernel) (pa_cons (pe_tup (pa_cons (pv 6) (pa_cons (pv 7) pa_nil))) pa_nil)) (pv 8) (nomark _))))))
        (pss_one (ps_ret pe_bl))
        pss_nil)
      (pss_cons (ps_for PassesOwn.never rfl (pi_list (pv 10)) (pg_name (i := 11) sc_law_tables_hold.nd rfl (.inl rfl))
        (pss_cons (ps_for PassesOwn.never rfl (pi_list (pv 11)) (pg_name (i := 12) sc_law_tables_hold.nd rfl (.inl rfl))
          (pss_one (ps_expr (pe_bm PySem.F.plainAttrs_list PySem.F.slot_list_append PySem.F.type_list_append mt_append (pv 12) (pa_cons pe_int pa_nil)))))
        (pss_one (ps_expr (pe_bm PySem.F.plainAttrs_list PySem.F.slot_list_append PySem.F.type_list_append mt_append (pv 11) (pa_cons (pe_lst pa_nil) pa_nil))))))
      (pss_cons (ps_expr (pe_bm PySem.F.plainAttrs_list PySem.F.slot_list_append PySem.F.type_list_append mt_append (pv 10) (pa_cons (pe_lst pa_nil) pa_nil)))
      (pss_cons (ps_if (pt_cmpR (op_neD hr.units) (pe_call (ok_productF T X) (hr.mono (by decide)) (by rfl) T.product.g T.product.F.kp T.product.b .nil (passes_call takes0 fun _ _ _ _ h => h) (pa_cons (pv 6) (pa_cons (pv 7) pa_nil))) (pv 9) (nomark _))
        (pss_one (ps_ret pe_bl))
        pss_nil)
      (pss_cons (ps_set (i := 13) sc_law_tables_hold.nd rfl (.inr rfl) (pe_op op_sub (pe_call (ok_law_at T) (hr.mono (by decide)) (by rfl) T.law_at.g T.law_at.F.kp T.law_at.b .nil pass0 (pa_cons (pv 0) (pa_cons pe_int (pa_cons pe_int pa_nil)))) pe_int))
      (pss_cons (ps_setLc (i := 14) (own := [("row", 11)]) rfl sc_law_tables_hold.nd rfl rfl (sw_true rfl rfl rfl (by decide +kernel)) (pi_list (pv 6)) (blkOk_by (N := ["draws", "word", "sizes", "rows", "middle", "columns", "one", "two", "kept", "due", "told", "row", "element", "at", "values", "k", "j"]) (sc := defScope s_law_tables_hold) (by decide +kernel)) (fun _ _ _ _ _ => (pg_name (i := 11) sc_law_tables_hold.nd rfl (.inl rfl))) (fun _ _ _ _ _ => pts_nil) (fun _ _ _ _ _ => (pe_lc (wi := iList K _) (own := [("element", 12)]) rfl sc_law_tables_hold.nd (pi_list (pv 11)) (blkOk_by (N := ["draws", "word", "sizes", "rows", "middle", "columns", "one", "two", "kept", "due", "told", "row", "element", "at", "values", "k", "j"]) (sc := { kind := .function, names := [(".0", .local), ("row", .local), ("at", .cell)], isGenerator := false, isCoroutine := false, more := [] }) (by decide +kernel)) (fun _ _ _ _ _ => (pg_name (i := 12) sc_law_tables_hold.nd rfl (.inl rfl))) (fun _ _ _ _ _ => pts_nil) (fun _ _ _ _ _ => (pe_call (ok_law_value T) (hr.mono (by decide)) (by rfl) T.law_value.g T.law_value.F.kp T.law_value.b .nil pass0 (pa_cons (pv 12) (pa_cons (pv 13) pa_nil)))))))
      (pss_cons (ps_set (i := 10) sc_law_tables_hold.nd rfl (.inl rfl) (pe_call (ok_value_at T) (hr.mono (by decide)) (by rfl) T.value_at.g T.value_at.F.kp T.value_at.b .nil pass0 (pa_cons (pv 6) (pa_cons (pv 13) pa_nil))))
      (pss_cons (ps_if (PW.pt (pw_or (pt_cmpR op_ne (pe_callB (LG.call_reprD gd hr.units) (by rfl) T.m_repr (by decide +kernel) (pa_cons (pv 10) pa_nil)) (pe_callB (LG.call_reprD gd hr.units) (by rfl) T.m_repr (by decide +kernel) (pa_cons (pv 14) pa_nil)) (nomark _)) (pw_or1 (pt_cmpR op_ne (pe_callB (LG.call_reprD gd hr.units) (by rfl) T.m_repr (by decide +kernel) (pa_cons (pe_tup (pa_cons (pv 6) (pa_cons (pv 7) pa_nil))) pa_nil)) (pv 8) (nomark _)))))
        (pss_one (ps_ret pe_bl))
        pss_nil)
      (pss_cons (ps_if (PW.pt (pw_and (pt_cmpR op_gt (pv 3) pe_int (nomark _)) (pw_and (pt_cmpR op_eq (pv 4) pe_int (nomark _)) (pw_and1 (pt_not (pt_val (pe_call (ok_law_refused T X) (hr.mono (by decide)) (by rfl) T.law_refused.g T.law_refused.F.kp T.law_refused.b .nil pass0 (pa_cons (pv 6) (pa_cons (pe_lst (pa_cons (pe_lst (pa_cons (pe_lst (pa_cons pe_int pa_nil)) pa_nil)) pa_nil)) pa_nil)))))))))
        (pss_one (ps_ret pe_bl))
        pss_nil)
      (pss_cons (ps_if (PW.pt (pw_and (pt_cmpR op_gt (pv 3) pe_int (nomark _)) (pw_and1 (pt_cmpR op_gt (pv 4) pe_int (nomark _)))))
        (pss_one (ps_if (PW.pt (pw_or (PW.pt (pw_and (pt_cmpR op_lt (pv 4) pe_int (nomark _)) (pw_and1 (pt_not (pt_val (pe_call (ok_law_refused T X) (hr.mono (by decide)) (by rfl) T.law_refused.g T.law_refused.F.kp T.law_refused.b .nil pass0 (pa_cons (pv 6) (pa_cons (pe_op op_cat (pv 7) (pe_lst (pa_cons (pe_lc (own := [("j", 16)]) rfl sc_law_tables_hold.nd (pi_range1 (by rfl) T.m_range (pa_cons (pv 5) pa_nil)) (blkOk_by (N := ["draws", "word", "sizes", "rows", "middle", "columns", "one", "two", "kept", "due", "told", "row", "element", "at", "values", "k", "j"]) (sc := defScope s_law_tables_hold) (by decide +kernel)) (fun _ _ _ _ _ => (pg_name (i := 16) sc_law_tables_hold.nd rfl (.inl rfl))) (fun _ _ _ _ _ => pts_nil) (fun _ _ _ _ _ => (pe_lst pa_nil))) pa_nil))) pa_nil)))))))) (pw_or1 (pt_not (pt_val (pe_call (ok_law_refused T X) (hr.mono (by decide)) (by rfl) T.law_refused.g T.law_refused.F.kp T.law_refused.b .nil pass0 (pa_cons (pv 6) (pa_cons (pe_slice sl_list (pv 7) (po_some pe_int) po_none) pa_nil))))))))
          (pss_one (ps_ret pe_bl))
          pss_nil))
        pss_nil)
      (pss_one (ps_ret (pe_and (pe_cmpR (op_eqD hr.units) (pe_call (ok_productF T X) (hr.mono (by decide)) (by rfl) T.product.g T.product.F.kp T.product.b .nil (passes_call takes0 fun _ _ _ _ h => h) (pa_cons (pe_lst pa_nil) (pa_cons (pv 7) pa_nil))) (pe_lst pa_nil) (nomark _)) (pe_and (pe_cmpR (op_eqD hr.units) (pe_call (ok_productF T X) (hr.mono (by decide)) (by rfl) T.product.g T.product.F.kp T.product.b .nil (passes_call takes0 fun _ _ _ _ h => h) (pa_cons (pe_lst pa_nil) (pa_cons (pe_lst pa_nil) pa_nil))) (pe_lst pa_nil) (nomark _)) (pe_one (pe_cmpR op_eq (pe_callB (LG.call_reprD gd hr.units) (by rfl) T.m_repr (by decide +kernel) (pa_cons (pe_tup (pa_cons (pv 6) (pa_cons (pv 7) pa_nil))) pa_nil)) (pv 8) (nomark _)))))))))))))))))))))))))), ?_⟩
    case t3 =>
      rintro D σ H ⟨Dz, wd, ns, rfl, ha, hz, hn, nx⟩
      refine ⟨_, rfl, rfl, _, rfl, ?_⟩
      refine ite2 (fun _ => ?_) (fun _ => ?_)
      · refine ⟨3, rfl, by decide, by decide, fun D nD => ?_⟩
        refine lc_inv (walk_range (lo := 0) (n := 3)) (fun i G ys => ∃ ns : List Int, ys = ns.map V.int ∧ ns.length = i ∧ ∀ x ∈ ns, 0 ≤ x ∧ x ≤ 12) nD (fun _ _ => trivial) (small' (by decide)) ⟨[], rfl, rfl, fun _ h => by cases h⟩ (fun i x G Gx ys hi sm hD hR y Qt Qf qt qf => ?_) (fun G ys sm hD hR => ?_)
        · obtain ⟨rfl, rfl⟩ := y
          obtain ⟨ns, rfl, ln, hns⟩ := hR
          refine ⟨rfl, .ref a, rfl, _, rfl, a, ds, _, _, rfl, ha.same sm, by omega, by decide, fun r p0 p1 => ⟨_, _, rfl, rfl, qt _ _ (Same.refl _) ⟨ns ++ [12 - r], app_ints, by rw [List.length_append, ln]; rfl, fun x hx => ?_⟩⟩⟩
          rcases List.mem_append.mp hx with hx | hx
          · exact hns x hx
          · obtain rfl := List.mem_singleton.mp hx; omega
        · obtain ⟨ns, rfl, ln, hns⟩ := hR
          exact nx G D ns sm hD ⟨ln, hns⟩
      · refine ⟨_, rfl, rfl, _, rfl, ?_⟩
        refine ite2 (fun _ => ?_) (fun _ => nx H Dz ns (Same.refl _) hz hn)
        refine ⟨3, rfl, by decide, by decide, fun D nD => ?_⟩
        refine lc_inv (walk_range (lo := 0) (n := 3)) (fun i G ys => ∃ ns : List Int, ys = ns.map V.int ∧ ns.length = i ∧ ∀ x ∈ ns, 0 ≤ x ∧ x ≤ 12) nD (fun _ _ => trivial) (small' (by decide)) ⟨[], rfl, rfl, fun _ h => by cases h⟩ (fun i x G Gx ys hi sm hD hR y Qt Qf qt qf => ?_) (fun G ys sm hD hR => ?_)
        · obtain ⟨rfl, rfl⟩ := y
          obtain ⟨ns, rfl, ln, hns⟩ := hR
          refine ⟨rfl, .ref a, rfl, _, rfl, a, ds, _, _, rfl, ha.same sm, by omega, by decide, fun r p0 p1 => ⟨_, _, rfl, rfl, qt _ _ (Same.refl _) ⟨ns ++ [3 + r], app_ints, by rw [List.length_append, ln]; rfl, fun x hx => ?_⟩⟩⟩
          rcases List.mem_append.mp hx with hx | hx
          · exact hns x hx
          · obtain rfl := List.mem_singleton.mp hx; omega
        · obtain ⟨ns, rfl, ln, hns⟩ := hR
          exact nx G D ns sm hD ⟨ln, hns⟩
    refine ⟨.ref a, rfl, a, ds, _, _, rfl, ha, by decide, by decide, fun wd w0 w1 => ?_⟩
    refine ⟨3, rfl, by decide, by decide, fun D nD => ?_⟩
    refine lc_inv (walk_range (lo := 0) (n := 3)) (fun i G ys => ∃ ns : List Int, ys = ns.map V.int ∧ ns.length = i ∧ ∀ x ∈ ns, 0 ≤ x ∧ x ≤ 12) nD (fun _ _ => trivial) (small' (by decide)) ⟨[], rfl, rfl, fun _ h => by cases h⟩ (fun i x G Gx ys hi sm hD hR y Qt Qf qt qf => ?_) (fun G ys sm hD hR => ?_)
    · obtain ⟨rfl, rfl⟩ := y
      obtain ⟨ns, rfl, ln, hns⟩ := hR
      refine ⟨rfl, .ref a, rfl, _, rfl, a, ds, _, _, rfl, ha.same sm, by omega, by decide, fun r p0 p1 => qt _ _ (Same.refl _) ⟨ns ++ [r], app_ints, by rw [List.length_append, ln]; rfl, fun x hx => ?_⟩⟩
      rcases List.mem_append.mp hx with hx | hx
      · exact hns x hx
      · obtain rfl := List.mem_singleton.mp hx; omega
    obtain ⟨ns0, rfl, ln0, hns0⟩ := hR
    refine ⟨D, wd, ns0, rfl, ha.same sm, hD, ⟨ln0, hns0⟩, fun G1 Dw ns s1 hDw hthr => ?_⟩
    obtain ⟨l3, h3⟩ := hthr
    obtain ⟨rows, middle, columns, rfl, hr12, hm12, hc12⟩ : ∃ rows middle columns : Nat, ns = [(rows : Int), (middle : Int), (columns : Int)] ∧ rows ≤ 12 ∧ middle ≤ 12 ∧ columns ≤ 12 := by
      match ns, l3 with
      | [x, y, z], _ =>
        have a1 := h3 x (by simp)
        have a2 := h3 y (by simp)
        have a3 := h3 z (by simp)
        exact ⟨x.toNat, y.toNat, z.toNat, by rw [Int.toNat_of_nonneg a1.1, Int.toNat_of_nonneg a2.1, Int.toNat_of_nonneg a3.1], by omega, by omega, by omega⟩
    have ha1 := (ha.same sm).same s1
    refine ⟨.ref Dw, rfl, Dw, _, rfl, hDw.sq, rfl, _, _, rfl, _, _, rfl, _, _, rfl, rfl, ?_⟩
    refine ⟨.ref a, rfl, _, rfl, _, rfl, _, rfl, rfl, a, ds, _, rows, middle, _, rfl, ha1, by decide, hr12, hm12, fun G2 p1 one s2 np1 hT1 l1 g1 => ?_⟩
    refine ⟨.ref a, rfl, _, rfl, _, rfl, _, rfl, rfl, a, ds, _, middle, columns, _, rfl, ha1.same s2, by decide, hm12, hc12, fun G3 p2 two s3 np2 hT2 l2 g2 => ?_⟩
    have sG3 := ((sm.trans s1).trans s2).trans s3
    have t1 : TbR G3 p1 one := hT1.r.lk (K01.lk s3)
    have t2 : TbR G3 p2 two := hT2.r
    have gd1 := gd_gt (tab := one) (by omega) fun r hr => ⟨by have := (g1 r hr).1; omega, (g1 r hr).2⟩
    have gd2 := gd_gt (tab := two) (by omega) fun r hr => ⟨by have := (g2 r hr).1; omega, (g2 r hr).2⟩
    have gK : Gd 4 2300000 (dKT one two) := (Gd.tup (.cons gd1 (.cons gd2 .nil))).mono (Nat.le_refl _) (by decide)
    have gK0 := PyData.hasDict_of_canLay _ gK.lay
    have gKd : (dKT one two).depth ≤ 60 := Nat.le_trans gK.dep (by decide)
    have gKl : (dKT one two).shown.length ≤ sizeLine := Nat.le_trans gK.len (by decide)
    have dK : ∀ (G : Hp) (u : Addr), Lk G3 G → G u = some (.tup [.ref p1, .ref p2]) → Dp K G (.ref u) (dKT one two) := fun G u h1 h3 => .tup (.inl (.inl h3)) (.cons (dp_tb (t1.lk h1)) (.cons (dp_tb (t2.lk h1)) .nil))
    refine ⟨.ref p1, rfl, .ref p2, rfl, by show 2 ≤ sizeLine; decide, fun u1 nu1 => ?_⟩
    have s4 := same_upd nu1 (o := .tup [.ref p1, .ref p2])
    refine ⟨u1, dKT one two, rfl, dK _ u1 (K01.lk s4) upd_same, gK.sh, gK0, gKd, gKl, ?_⟩
    generalize hkept : (dKT one two).shown = kept
    have pb : ∀ e : List Int, Ge e → Pb e := fun e he => ⟨by have := he.2.2; omega, he.2.1⟩
    have p1b : ∀ r ∈ one, r.length = two.length ∧ ∀ e ∈ r, Pb e := fun r hr => ⟨by rw [(g1 r hr).1, l2], fun e he => pb e ((g1 r hr).2 e he)⟩
    have p2b : ∀ t ∈ two, t.length = columns ∧ ∀ e ∈ t, Pb e := fun t ht => ⟨(g2 t ht).1, fun e he => pb e ((g2 t ht).2 e he)⟩
    have wl := wdt_le fun t ht => (p2b t ht).1
    have ew : (columns : Int) * (if decide ((middle : Int) > 0) = true then (1 : Int) else 0) = ((wdt two : Nat) : Int) := by
      by_cases z : middle = 0
      · rw [decide_eq_false (by omega)]
        have : two = [] := List.length_eq_zero_iff.mp (by omega)
        rw [this]; simp [wdt]
      · rw [decide_eq_true (by omega)]
        rw [wl.2 fun y => z (by rw [y] at l2; simp at l2; omega)]; simp
    have t1' := t1.lk (K01.lk s4)
    have t2' := t2.lk (K01.lk s4)
    refine ⟨.ref p1, rfl, .ref p2, rfl, _, rfl, _, rfl, _, _, rfl, rfl, .inr ⟨_, rfl, _, _, rfl, rfl, .inl ⟨by omega, by omega⟩, p1, p2, one, two, columns, congrArg (fun z => [V.ref p1, V.ref p2, V.int z]) ew, t1', t2', by omega, by omega, p1b, p2b, by omega, fun G5 du s5 hdu => ?_⟩⟩
    have s45 := s4.trans s5
    refine ⟨.ref p1, rfl, .ref p2, rfl, p1, p2, one, two, rfl, t1'.lk (K01.lk s5), t2'.lk (K01.lk s5), fun ne nw => absurd ?_ nw, fun _ => ⟨columns, by omega, by omega, p1b, p2b, by omega, fun G6 L s6 nL hL => ?_⟩⟩
    · cases one with
      | nil => exact absurd rfl ne
      | cons r rr => exact (p1b r List.mem_cons_self).1
    have prl := prod_len (fun r hr => (p1b r hr).2) fun t ht => (p2b t ht).2
    have lpr : (prodT one two).length = rows := by unfold prodT; rw [List.length_map, l1]
    generalize hpr : prodT one two = pr at hdu hL prl lpr
    have shP := shaped_tb pr
    have eqP := SeqAt.eqv_refl _ (SeqAt.canLay_of_shaped shP)
    have hLr := hL.r
    obtain ⟨ys, hLl, as, rfl, nd, hA⟩ := hL
    have las := hA.len
    have k36 : Lk G3 G6 := (K01.lk s45).trans (K01.lk s6)
    refine ⟨.ref L, rfl, _, _, _, _, true, rfl, .ty "list", .base (.lst hLl), rfl, _, rfl, iteF ?_⟩
    refine ⟨.ref L, rfl, .ref du, rfl, dTb pr, dTb pr, dp_tb hLr, dp_tb (hdu.lk (K01.lk s6)), shP, shP, _, rfl, ?_⟩
    rw [eqP]
    refine iteF ?_
    refine ⟨.ref p1, rfl, .ref p2, rfl, by show 2 ≤ sizeLine; decide, fun u2 nu2 => ?_⟩
    have s7 := same_upd nu2 (o := .tup [.ref p1, .ref p2])
    refine ⟨u2, dKT one two, rfl, dK _ u2 (k36.trans (K01.lk s7)) upd_same, gK.sh, gK0, gKd, gKl, _, rfl, rfl, _, rfl, ?_⟩
    rw [hkept, decide_eq_true rfl]
    refine iteF ?_
    have r0 : ∀ (k : Nat) r, as[k]? = some r → ERw G5 L (wdt two) 200 (upd G6 u2 (.tup [.ref p1, .ref p2])) r := fun k r hr => by
      obtain ⟨row, hrow, nr, n5, es, he, hE⟩ := hA.get hr
      obtain ⟨lw, lle⟩ := prl row (mem_at hrow)
      refine ⟨nr, n5, es, s7 _ _ he, by rw [hE.len]; exact lw, fun e he' => ?_⟩
      obtain ⟨ns, hns, a1, a2, a3⟩ := a2_memA hE he'
      exact ⟨a1, a2, ns, a3.same s7, lle ns hns⟩
    have wd16 : wdt two ≤ 16 := by omega
    have las16 : as.length ≤ 16 := by omega
    have sL : Same G5 (upd G6 u2 (.tup [.ref p1, .ref p2])) := s6.trans s7
    have hL7 := s7 _ _ hLl
    generalize upd G6 u2 (.tup [.ref p1, .ref p2]) = G7 at r0 sL hL7
    refine ⟨.ref L, rfl, L, rfl, ⟨_, .of hL7⟩, ?_⟩
    refine for_it (walk_list (xs := as.map V.ref)) (fun i σ G => (∃ (v11 v12 : Option V), σ = [some (.ref a), some (.int wd), some (.ref Dw), some (.int (rows : Nat)), some (.int (middle : Nat)), some (.int (columns : Nat)), some (.ref p1), some (.ref p2), some (.str kept), some (.ref du), some (.ref L), v11, v12, none, none, none, none]) ∧ Same G5 G ∧ G L = some (.lst (as.map V.ref)) ∧ ∀ (k : Nat) r, i ≤ k → as[k]? = some r → ERw G5 L (wdt two) (200 + 20 * i) G r) ⟨⟨_, _, rfl⟩, sL, hL7, fun k r _ hr => r0 k r hr⟩ (fun i σ G _ hP => .of hP.2.2.1) (fun i u σ G Gx hi hP y => ?_) (fun σ G hP => ?_)
    · obtain ⟨⟨v11, v12, rfl⟩, sG, qL, qR⟩ := hP
      obtain ⟨rfl, hxi⟩ := y
      obtain ⟨r, hr9, rfl⟩ := row_ref hxi
      obtain ⟨nrL, nr5, es, hes, les, fes⟩ := qR i r (Nat.le_refl _) hr9
      have hi16 : i < 16 := by rw [List.length_map] at hi; omega
      refine ⟨.ref r, rfl, r, rfl, ⟨_, .of hes⟩, ?_⟩
      refine for_it (walk_list (xs := es.map V.ref)) (fun j σ G => (∃ (v12 : Option V), σ = [some (.ref a), some (.int wd), some (.ref Dw), some (.int (rows : Nat)), some (.int (middle : Nat)), some (.int (columns : Nat)), some (.ref p1), some (.ref p2), some (.str kept), some (.ref du), some (.ref L), some (.ref r), v12, none, none, none, none]) ∧ Same G5 G ∧ G L = some (.lst (as.map V.ref)) ∧ G r = some (.lst (es.map V.ref)) ∧ ∀ (k : Nat) r, i ≤ k → as[k]? = some r → ERw G5 L (wdt two) (200 + 20 * i + j) G r) ⟨⟨_, rfl⟩, sG, qL, hes, qR⟩ (fun j σ G _ hP => .of hP.2.2.2.1) (fun j u σ G Gx hj hP y => ?_) (fun σ G hP => ?_)
      · obtain ⟨⟨v12, rfl⟩, sG, qL, hes, qR⟩ := hP
        obtain ⟨rfl, hxj⟩ := y
        obtain ⟨e, he, rfl⟩ := row_ref hxj
        have hjl : j < es.length := (List.getElem?_eq_some_iff.mp he).1
        obtain ⟨_, _, es', hes', _, fes⟩ := qR i r (Nat.le_refl _) hr9
        have ees : es'.map V.ref = es.map V.ref := by
          have h := Option.some.inj (hes'.symm.trans hes)
          injection h
        have me : e ∈ es' := by
          have : V.ref e ∈ es'.map V.ref := by rw [ees]; exact List.mem_map.mpr ⟨e, mem_at he, rfl⟩
          obtain ⟨e2, h2, h3⟩ := List.mem_map.mp this
          cases h3
          exact h2
        obtain ⟨neL, ne5, ns, hI, lns⟩ := fes e me
        have hw : 0 < wdt two := by omega
        refine ⟨.ref e, rfl, .inl ⟨rfl, _, hI.sq⟩, e, _, _, rfl, rfl, hI, small' (by rw [List.length_map]; omega), ?_⟩
        have nre : r ≠ e := by
          cases es with
          | nil => exact absurd hjl (Nat.not_lt_zero _)
          | cons x xs => exact not_refs (as := xs.map V.ref) (x := x) hes hI
        exact ⟨⟨_, rfl⟩, same_over sG ne5, by rw [upd_ne neL.symm]; exact qL, by rw [upd_ne nre]; exact hes, fun k r' hk hr' => (qR k r' hk hr').el hw hI lns⟩
      · obtain ⟨⟨v12, rfl⟩, sG, qL, hes, qR⟩ := hP
        refine ⟨.ref r, rfl, .inl ⟨rfl, _, .of hes⟩, by show 0 ≤ sizeLine; decide, fun l nl => ?_⟩
        have s8 := same_upd nl (o := .lst [])
        refine ⟨r, _, _, rfl, rfl, s8 _ _ hes, small' (by rw [List.length_map]; omega), ?_⟩
        refine ⟨⟨_, _, rfl⟩, same_over (sG.trans s8) nr5, by rw [upd_ne nrL.symm]; exact s8 _ _ qL, fun k r' hk hr' => ?_⟩
        have nrr : r' ≠ r := fun w => by
          have hlt : k < as.length := (List.getElem?_eq_some_iff.mp hr').1
          have e9 : as[k]? = as[i]? := by rw [hr', hr9, w]
          have := (List.getElem?_inj hlt nd).mp e9
          omega
        exact (((qR k r' (by omega) hr').same s8).row (s8 _ _ hes) les nrr).more (by rw [List.length_map]; omega)
    obtain ⟨⟨v11, v12, rfl⟩, sG, qL, _⟩ := hP
    refine ⟨.ref L, rfl, .inl ⟨rfl, _, .of qL⟩, by show 0 ≤ sizeLine; decide, fun l nl => ?_⟩
    have s8 := same_upd nl (o := .lst [])
    refine ⟨L, _, _, rfl, rfl, s8 _ _ qL, small' (by rw [List.length_map]; omega), ?_⟩
    have s9 : Same G5 (upd (upd G l (.lst [])) L (.lst (as.map V.ref ++ [.ref l]))) := same_over (sG.trans s8) nL
    generalize upd (upd G l (.lst [])) L (.lst (as.map V.ref ++ [.ref l])) = G9 at s9
    have s49 := s45.trans s9
    have t19 := t1.lk (K01.lk s49)
    have t29 := t2.lk (K01.lk s49)
    have hfit : one ≠ [] → wdt one ≠ two.length → False := fun ne nw => by
      cases one with
      | nil => exact ne rfl
      | cons r rr => exact nw (p1b r List.mem_cons_self).1
    refine ⟨.ref p1, rfl, .ref p2, rfl, p1, p2, one, two, rfl, t19, t29, fun ne nw => (hfit ne nw).elim, fun _ => ⟨columns, by omega, by omega, p1b, p2b, by omega, fun GA LA sA nLA hLA => ?_⟩⟩
    rw [hpr] at hLA
    refine ⟨.ref du, rfl, dTb pr, dTb pr, dp_tb hLA.r, dp_tb (hdu.lk (K01.lk (s9.trans sA))), shP, shP, _, rfl, ?_⟩
    rw [eqP]
    refine iteF ?_
    have s4A := s49.trans sA
    have haA := ((ha1.same s2).same s3).same s4A
    refine ⟨.ref a, rfl, a, ds, _, _, rfl, haA, by decide, by decide, fun ra ra0 ra1 => ⟨_, _, rfl, rfl, ?_⟩⟩
    have hxa : (ra - 1000).natAbs ≤ 1000 := by omega
    have t1A := t1.lk (K01.lk s4A)
    obtain ⟨tas, htl, hTA⟩ := t1A
    have t1A : TbR GA p1 one := ⟨tas, htl, hTA⟩
    have lta := hTA.len
    refine ⟨.ref p1, rfl, p1, rfl, ⟨_, .of htl⟩, fun DV nDV => ?_⟩
    refine lc_fm (walk_list (xs := tas.map V.ref)) one (fun r => some (r.map (pval (ra - 1000)))) (VRw DV) VRw.up (by rw [List.length_map]; exact lta.symm) nDV (fun H' s => s.seq (.of htl)) (small' (by rw [List.length_map]; omega)) (fun i u G Gx ys r hr2 sm hD y Qt Qf qt qf => ?_) (fun GV ys smV hDV hRV => ?_)
    · obtain ⟨rfl, hxi⟩ := y
      obtain ⟨c, hc, rfl⟩ := row_ref hxi
      obtain ⟨r', hr', hRow⟩ := hTA.get hc
      obtain rfl := Option.some.inj (hr2.symm.trans hr')
      obtain ⟨ras, hral, hE⟩ := RowL.same hRow sm
      have lr := (g1 r (mem_at hr2)).1
      have lra := hE.len
      refine ⟨rfl, .ref c, rfl, c, rfl, ⟨_, .of hral⟩, fun D2 nD2 => ?_⟩
      refine lc_fm (walk_list (xs := ras.map V.ref)) r (fun e => some (pval (ra - 1000) e)) (fun _ v n => v = V.int n) (fun _ _ _ _ _ z => z) (by rw [List.length_map]; exact lra.symm) nD2 (fun H' s => s.seq (.of hral)) (small' (by rw [List.length_map]; omega)) (fun i2 u2 G2 Gx2 ys2 e he sm2 hD2 y2 Qt2 Qf2 qt2 qf2 => ?_) (fun G2 ys2 sm2 hD2 hR2 => ?_)
      · obtain ⟨rfl, hx2⟩ := y2
        obtain ⟨ea, hea, rfl⟩ := row_ref hx2
        obtain ⟨e', he', hI⟩ := hE.get hea
        obtain rfl := Option.some.inj (he.symm.trans he')
        have ge := (g1 r (mem_at hr2)).2 e (mem_at he)
        exact ⟨rfl, .ref ea, rfl, _, rfl, ea, e, ra - 1000, rfl, hI.same sm2, by have := ge.2.2; omega, ge.2.1, hxa, qt2 _ _ _ rfl (Same.refl _) rfl⟩
      · rw [fm_some] at hR2
        rw [a2_eq hR2] at hD2
        exact qt _ _ _ rfl sm2 ⟨D2, rfl, (fun z => by rw [z, hD] at nD2; cases nD2), hD2⟩
    rw [fm_some] at hRV
    obtain ⟨cs, rfl, hcs⟩ := a2_ref (hRV.mono fun v row (z : VRw DV GV v row) => (let ⟨c, e, _, i⟩ := z; ⟨c, e, i⟩ : ∃ c, v = .ref c ∧ IL GV c row))
    have hDVr : RowL GV DV (one.map fun r => r.map (pval (ra - 1000))) := ⟨cs, hDV, hcs⟩
    refine ⟨.ref p1, rfl, _, rfl, p1, one, ra - 1000, rfl, t1A.lk (K01.lk smV), by omega, fun r hr => by have := (g1 r hr).1; omega, hxa, fun GB pB sB nB hB => ?_⟩
    have gV := gd_vals hxa (tab := one) (by omega) fun r hr => ⟨by have := (g1 r hr).1; omega, (g1 r hr).2⟩
    have gV0 := PyData.hasDict_of_canLay _ gV.lay
    refine ⟨.ref pB, rfl, pB, _, rfl, dp_rowL hB, gV.sh, gV0, Nat.le_trans gV.dep (by decide), Nat.le_trans gV.len (by decide), .ref DV, rfl, DV, _, rfl, dp_rowL (RowL.same hDVr sB), gV.sh, gV0, Nat.le_trans gV.dep (by decide), Nat.le_trans gV.len (by decide), rfl, _, rfl, ?_⟩
    rw [decide_eq_true rfl]
    refine iteF ?_
    have sAB := smV.trans sB
    have s4B := s4A.trans sAB
    refine ⟨.ref p1, rfl, .ref p2, rfl, by show 2 ≤ sizeLine; decide, fun u3 nu3 => ?_⟩
    have sU := same_upd nu3 (o := .tup [.ref p1, .ref p2])
    have s4U := s4B.trans sU
    refine ⟨u3, dKT one two, rfl, dK _ u3 (K01.lk s4U) upd_same, gK.sh, gK0, gKd, gKl, _, rfl, rfl, _, rfl, ?_⟩
    rw [hkept, decide_eq_true rfl]
    refine iteF ?_
    generalize upd GB u3 (.tup [.ref p1, .ref p2]) = GU at sU s4U
    have t1U := t1.lk (K01.lk s4U)
    have t2U := t2.lk (K01.lk s4U)
    have onene : 0 < rows → one ≠ [] := fun h z => by rw [z] at l1; simp at l1; omega
    have wone : 0 < rows → wdt one = middle := fun h => (wdt_le fun r hr => (g1 r hr).1).2 (onene h)
    refine ⟨_, rfl, _, _, rfl, rfl, _, rfl, ?_⟩
    refine ite2 (fun hr0 => ⟨_, rfl, rfl, _, rfl, ?_⟩) (fun hr0 => iteF ?_)
    · have rpos : 0 < rows := by have := of_decide_eq_true hr0; omega
      refine ite2 (fun hm0 => ?_) (fun hm0 => iteF ?_)
      · have m0 : middle = 0 := by have := V.int.inj (of_decide_eq_true hm0); omega
        refine ⟨.ref p1, rfl, by show 1 ≤ sizeLine; decide, fun x1 nx1 => ?_⟩
        have a1 := same_upd nx1 (o := .lst [.int 1])
        refine ⟨by show 1 ≤ sizeLine; decide, fun x2 nx2 => ?_⟩
        have a2 := same_upd nx2 (o := .lst [.ref x1])
        refine ⟨by show 1 ≤ sizeLine; decide, fun x3 nx3 => ?_⟩
        have a3 := same_upd nx3 (o := .lst [.ref x2])
        have a13 := a1.trans (a2.trans a3)
        refine ⟨p1, x3, one, [[[1]]], rfl, t1U.lk (K01.lk a13), ⟨[x2], upd_same, .cons ⟨[x1], a3 _ _ upd_same, .cons (show IL _ x1 [1] from a3 _ _ (a2 _ _ upd_same)) .nil⟩ .nil⟩, onene rpos, by rw [wone rpos, m0]; decide, fun GW sW => ⟨_, rfl, iteF ?_⟩⟩
        have sUW := s4U.trans (a13.trans sW)
        refine ⟨_, rfl, _, _, rfl, rfl, _, rfl, ?_⟩
        refine ite2 (fun _ => ⟨_, rfl, _, _, rfl, rfl, _, rfl, ?_⟩) (fun h => absurd hr0 h)
        refine ite2 (fun h => absurd (of_decide_eq_true h) (by omega)) (fun _ => ?_)
        refine ⟨by show 0 ≤ sizeLine; decide, fun z1 nz1 => ?_⟩
        have v1 := same_upd nz1 (o := .lst [])
        refine ⟨.ref p2, rfl, z1, p2, [], two, rfl, ⟨[], upd_same, .nil⟩, t2.lk (K01.lk ((sUW).trans v1)), fun ne _ => absurd rfl ne, fun _ => ⟨columns, Nat.zero_le _, by omega, (fun r h => by cases h), p2b, by omega, fun GX px sX nX hX => ?_⟩⟩
        refine ⟨by show 0 ≤ sizeLine; decide, fun z2 nz2 => ?_⟩
        have v2 := same_upd nz2 (o := .lst [])
        refine ⟨dTb [], .list [], dp_tb (hX.r.lk (K01.lk v2)), .lst (.of upd_same) .nil, shaped_tb [], rfl, true, rfl, iteT ?_⟩
        refine ⟨by show 0 ≤ sizeLine; decide, fun z3 nz3 => ?_⟩
        have v3 := same_upd nz3 (o := .lst [])
        refine ⟨by show 0 ≤ sizeLine; decide, fun z4 nz4 => ?_⟩
        have v4 := same_upd nz4 (o := .lst [])
        refine ⟨z3, z4, [], [], rfl, ⟨[], v4 _ _ upd_same, .nil⟩, ⟨[], upd_same, .nil⟩, fun ne _ => absurd rfl ne, fun _ => ⟨0, Nat.zero_le _, Nat.zero_le _, fun r h => (by cases h), fun r h => (by cases h), Nat.zero_le _, fun GY py sY nY hY => ?_⟩⟩
        refine ⟨by show 0 ≤ sizeLine; decide, fun z5 nz5 => ?_⟩
        have v5 := same_upd nz5 (o := .lst [])
        refine ⟨dTb [], .list [], dp_tb (hY.r.lk (K01.lk v5)), .lst (.of upd_same) .nil, shaped_tb [], rfl, true, rfl, iteT ?_⟩
        refine ⟨.ref p1, rfl, .ref p2, rfl, by show 2 ≤ sizeLine; decide, fun u4 nu4 => ?_⟩
        have v6 := same_upd nu4 (o := .tup [.ref p1, .ref p2])
        have vAll := (((((((sUW).trans v1).trans sX).trans v2).trans v3).trans v4).trans sY).trans (v5.trans v6)
        refine ⟨u4, dKT one two, rfl, dK _ u4 (K01.lk vAll) upd_same, gK.sh, gK0, gKd, gKl, _, rfl, rfl, ?_⟩
        rw [hkept, decide_eq_true rfl]
        exact q _ (sG3.trans vAll)
      · have mpos : 0 < middle := by
          rcases Nat.eq_zero_or_pos middle with z | z
          · exact absurd (decide_eq_true (by rw [z]; rfl)) hm0
          · exact z
        refine ⟨_, rfl, _, _, rfl, rfl, _, rfl, ?_⟩
        refine ite2 (fun _ => ⟨_, rfl, _, _, rfl, rfl, _, rfl, ?_⟩) (fun h => absurd hr0 h)
        refine ite2 (fun _ => ?_) (fun h => absurd (decide_eq_true (by omega)) h)
        refine ⟨_, rfl, _, _, rfl, rfl, _, rfl, ?_⟩
        refine ite2 (fun _ => ?_) (fun _ => iteF ?_)
        · refine ⟨.ref p1, rfl, .ref p2, rfl, _, rfl, (columns : Nat), rfl, by omega, by omega, fun DC nDC => ?_⟩
          rw [Int.toNat_natCast]
          refine lc_inv (walk_range (lo := 0) (n := columns)) (fun k G4 ys4 => ∃ cs : List Addr, ys4 = cs.map V.ref ∧ A2 (fun e ns => e ≠ DC ∧ IL G4 e ns) cs (List.replicate k [])) nDC (fun _ _ => trivial) (small' (by omega)) ⟨[], rfl, .nil⟩ (fun k u G4 Gx ys hk sm4 hD4 hR y Qt Qf qt qf => ?_) (fun G4 ys sm4 hD4 hR => ?_)
          · obtain ⟨rfl, rfl⟩ := y
            obtain ⟨cs, rfl, hcs⟩ := hR
            refine ⟨rfl, by show 0 ≤ sizeLine; decide, fun l nl => ?_⟩
            have u1 := same_upd nl (o := .lst [])
            have lD : l ≠ DC := fun z => by rw [z, hD4] at nl; cases nl
            refine qt _ _ u1 ⟨cs ++ [l], by rw [List.map_append]; rfl, ?_⟩
            rw [List.replicate_succ']
            exact A2.snoc ⟨lD, by unfold IL; rw [upd_ne lD, upd_same]; rfl⟩ (hcs.mono fun e ns z => ⟨z.1, by unfold IL; rw [upd_ne z.1]; exact u1 _ _ z.2⟩)
          obtain ⟨cs, rfl, hcs⟩ := hR
          refine ⟨by show 1 ≤ sizeLine; decide, fun l nl => ?_⟩
          have w1 := same_upd nl (o := .lst [.ref DC])
          have w2 := sm4.trans w1
          obtain ⟨bs, hbl, hBB⟩ := t2.lk (K01.lk (s4U.trans w2))
          have lbb := hBB.len
          refine ⟨p2, l, _, _, rfl, rfl, hbl, upd_same, by rw [List.length_map]; exact small (by show _ + 1 ≤ _; omega), fun c nc => ?_⟩
          have w3 := same_upd nc (o := .lst (bs.map V.ref ++ [.ref DC]))
          refine ⟨p1, c, one, two ++ [List.replicate columns []], rfl, t1.lk (K01.lk ((s4U.trans w2).trans w3)), ⟨bs ++ [DC], by rw [upd_same, List.map_append]; rfl, A2.snoc ⟨cs, w3 _ _ (w1 _ _ hD4), hcs.mono fun _ _ z => (z.2.same w1).same w3⟩ (hBB.mono fun _ _ z => RowL.same z w3)⟩, onene rpos, by rw [wone rpos, List.length_append, l2]; show middle ≠ middle + 1; omega, fun GW sW => ⟨_, rfl, iteF ?_⟩⟩
          have sS := (s4U.trans w2).trans (w3.trans sW)
          obtain ⟨bs2, hbl2, hB2⟩ := t2.lk (K01.lk (sS))
          have lb2 := hB2.len
          refine ⟨.ref p1, rfl, .ref p2, rfl, _, rfl, p2, _, rfl, .of hbl2, fun d2 nd2 => ?_⟩
          have ec := cut_tail (as := bs2) (m := 1) (by omega)
          have b1 := same_upd nd2 (o := .lst (cutV (bs2.map V.ref) (some 1) none))
          refine ⟨p1, d2, one, two.drop 1, rfl, t1.lk (K01.lk ((sS).trans b1)), ⟨bs2.drop 1, by rw [upd_same]; exact congrArg (fun z => some (HO.lst z)) ec, A2.drop 1 (hB2.mono fun _ _ z => RowL.same z b1)⟩, onene rpos, by rw [wone rpos, List.length_drop]; omega, fun GW2 sW2 => ⟨_, rfl, iteF ?_⟩⟩
          have sFin := (sS).trans (b1.trans sW2)
          refine ⟨by show 0 ≤ sizeLine; decide, fun z1 nz1 => ?_⟩
          have v1 := same_upd nz1 (o := .lst [])
          refine ⟨.ref p2, rfl, z1, p2, [], two, rfl, ⟨[], upd_same, .nil⟩, t2.lk (K01.lk ((sFin).trans v1)), fun ne _ => absurd rfl ne, fun _ => ⟨columns, Nat.zero_le _, by omega, (fun r h => by cases h), p2b, by omega, fun GX px sX nX hX => ?_⟩⟩
          refine ⟨by show 0 ≤ sizeLine; decide, fun z2 nz2 => ?_⟩
          have v2 := same_upd nz2 (o := .lst [])
          refine ⟨dTb [], .list [], dp_tb (hX.r.lk (K01.lk v2)), .lst (.of upd_same) .nil, shaped_tb [], rfl, true, rfl, iteT ?_⟩
          refine ⟨by show 0 ≤ sizeLine; decide, fun z3 nz3 => ?_⟩
          have v3 := same_upd nz3 (o := .lst [])
          refine ⟨by show 0 ≤ sizeLine; decide, fun z4 nz4 => ?_⟩
          have v4 := same_upd nz4 (o := .lst [])
          refine ⟨z3, z4, [], [], rfl, ⟨[], v4 _ _ upd_same, .nil⟩, ⟨[], upd_same, .nil⟩, fun ne _ => absurd rfl ne, fun _ => ⟨0, Nat.zero_le _, Nat.zero_le _, fun r h => (by cases h), fun r h => (by cases h), Nat.zero_le _, fun GY py sY nY hY => ?_⟩⟩
          refine ⟨by show 0 ≤ sizeLine; decide, fun z5 nz5 => ?_⟩
          have v5 := same_upd nz5 (o := .lst [])
          refine ⟨dTb [], .list [], dp_tb (hY.r.lk (K01.lk v5)), .lst (.of upd_same) .nil, shaped_tb [], rfl, true, rfl, iteT ?_⟩
          refine ⟨.ref p1, rfl, .ref p2, rfl, by show 2 ≤ sizeLine; decide, fun u4 nu4 => ?_⟩
          have v6 := same_upd nu4 (o := .tup [.ref p1, .ref p2])
          have vAll := (((((((sFin).trans v1).trans sX).trans v2).trans v3).trans v4).trans sY).trans (v5.trans v6)
          refine ⟨u4, dKT one two, rfl, dK _ u4 (K01.lk vAll) upd_same, gK.sh, gK0, gKd, gKl, _, rfl, rfl, ?_⟩
          rw [hkept, decide_eq_true rfl]
          exact q _ (sG3.trans vAll)
        · obtain ⟨bs2, hbl2, hB2⟩ := t2.lk (K01.lk (s4U))
          have lb2 := hB2.len
          refine ⟨.ref p1, rfl, .ref p2, rfl, _, rfl, p2, _, rfl, .of hbl2, fun d2 nd2 => ?_⟩
          have ec := cut_tail (as := bs2) (m := 1) (by omega)
          have b1 := same_upd nd2 (o := .lst (cutV (bs2.map V.ref) (some 1) none))
          refine ⟨p1, d2, one, two.drop 1, rfl, t1.lk (K01.lk ((s4U).trans b1)), ⟨bs2.drop 1, by rw [upd_same]; exact congrArg (fun z => some (HO.lst z)) ec, A2.drop 1 (hB2.mono fun _ _ z => RowL.same z b1)⟩, onene rpos, by rw [wone rpos, List.length_drop]; omega, fun GW2 sW2 => ⟨_, rfl, iteF ?_⟩⟩
          have sFin := (s4U).trans (b1.trans sW2)
          refine ⟨by show 0 ≤ sizeLine; decide, fun z1 nz1 => ?_⟩
          have v1 := same_upd nz1 (o := .lst [])
          refine ⟨.ref p2, rfl, z1, p2, [], two, rfl, ⟨[], upd_same, .nil⟩, t2.lk (K01.lk ((sFin).trans v1)), fun ne _ => absurd rfl ne, fun _ => ⟨columns, Nat.zero_le _, by omega, (fun r h => by cases h), p2b, by omega, fun GX px sX nX hX => ?_⟩⟩
          refine ⟨by show 0 ≤ sizeLine; decide, fun z2 nz2 => ?_⟩
          have v2 := same_upd nz2 (o := .lst [])
          refine ⟨dTb [], .list [], dp_tb (hX.r.lk (K01.lk v2)), .lst (.of upd_same) .nil, shaped_tb [], rfl, true, rfl, iteT ?_⟩
          refine ⟨by show 0 ≤ sizeLine; decide, fun z3 nz3 => ?_⟩
          have v3 := same_upd nz3 (o := .lst [])
          refine ⟨by show 0 ≤ sizeLine; decide, fun z4 nz4 => ?_⟩
          have v4 := same_upd nz4 (o := .lst [])
          refine ⟨z3, z4, [], [], rfl, ⟨[], v4 _ _ upd_same, .nil⟩, ⟨[], upd_same, .nil⟩, fun ne _ => absurd rfl ne, fun _ => ⟨0, Nat.zero_le _, Nat.zero_le _, fun r h => (by cases h), fun r h => (by cases h), Nat.zero_le _, fun GY py sY nY hY => ?_⟩⟩
          refine ⟨by show 0 ≤ sizeLine; decide, fun z5 nz5 => ?_⟩
          have v5 := same_upd nz5 (o := .lst [])
          refine ⟨dTb [], .list [], dp_tb (hY.r.lk (K01.lk v5)), .lst (.of upd_same) .nil, shaped_tb [], rfl, true, rfl, iteT ?_⟩
          refine ⟨.ref p1, rfl, .ref p2, rfl, by show 2 ≤ sizeLine; decide, fun u4 nu4 => ?_⟩
          have v6 := same_upd nu4 (o := .tup [.ref p1, .ref p2])
          have vAll := (((((((sFin).trans v1).trans sX).trans v2).trans v3).trans v4).trans sY).trans (v5.trans v6)
          refine ⟨u4, dKT one two, rfl, dK _ u4 (K01.lk vAll) upd_same, gK.sh, gK0, gKd, gKl, _, rfl, rfl, ?_⟩
          rw [hkept, decide_eq_true rfl]
          exact q _ (sG3.trans vAll)
    · refine ⟨_, rfl, _, _, rfl, rfl, _, rfl, ?_⟩
      refine ite2 (fun h => absurd h hr0) (fun _ => iteF ?_)
      refine ⟨by show 0 ≤ sizeLine; decide, fun z1 nz1 => ?_⟩
      have v1 := same_upd nz1 (o := .lst [])
      refine ⟨.ref p2, rfl, z1, p2, [], two, rfl, ⟨[], upd_same, .nil⟩, t2.lk (K01.lk ((s4U).trans v1)), fun ne _ => absurd rfl ne, fun _ => ⟨columns, Nat.zero_le _, by omega, (fun r h => by cases h), p2b, by omega, fun GX px sX nX hX => ?_⟩⟩
      refine ⟨by show 0 ≤ sizeLine; decide, fun z2 nz2 => ?_⟩
      have v2 := same_upd nz2 (o := .lst [])
      refine ⟨dTb [], .list [], dp_tb (hX.r.lk (K01.lk v2)), .lst (.of upd_same) .nil, shaped_tb [], rfl, true, rfl, iteT ?_⟩
      refine ⟨by show 0 ≤ sizeLine; decide, fun z3 nz3 => ?_⟩
      have v3 := same_upd nz3 (o := .lst [])
      refine ⟨by show 0 ≤ sizeLine; decide, fun z4 nz4 => ?_⟩
      have v4 := same_upd nz4 (o := .lst [])
      refine ⟨z3, z4, [], [], rfl, ⟨[], v4 _ _ upd_same, .nil⟩, ⟨[], upd_same, .nil⟩, fun ne _ => absurd rfl ne, fun _ => ⟨0, Nat.zero_le _, Nat.zero_le _, fun r h => (by cases h), fun r h => (by cases h), Nat.zero_le _, fun GY py sY nY hY => ?_⟩⟩
      refine ⟨by show 0 ≤ sizeLine; decide, fun z5 nz5 => ?_⟩
      have v5 := same_upd nz5 (o := .lst [])
      refine ⟨dTb [], .list [], dp_tb (hY.r.lk (K01.lk v5)), .lst (.of upd_same) .nil, shaped_tb [], rfl, true, rfl, iteT ?_⟩
      refine ⟨.ref p1, rfl, .ref p2, rfl, by show 2 ≤ sizeLine; decide, fun u4 nu4 => ?_⟩
      have v6 := same_upd nu4 (o := .tup [.ref p1, .ref p2])
      have vAll := (((((((s4U).trans v1).trans sX).trans v2).trans v3).trans v4).trans sY).trans (v5.trans v6)
      refine ⟨u4, dKT one two, rfl, dK _ u4 (K01.lk vAll) upd_same, gK.sh, gK0, gKd, gKl, _, rfl, rfl, ?_⟩
      rw [hkept, decide_eq_true rfl]
      exact q _ (sG3.trans vAll)
end
-- X01
set_option exponentiation.threshold 900
def shw : V → Str
  | .int i => (toString i : String)
  | _ => ("None" : String)
def Sh (v : V) : Prop := (∃ i : Int, v = .int i ∧ i.natAbs.log2 < 1920) ∨ v = .non
theorem call_reprN {X : Cx} : CallR X (.builtin "repr") (fun xs H Q => ∃ v, xs = [v] ∧ Sh v ∧ Q (.str (shw v)) H) := by
  intro pins s σ H xs us Q I r h
  obtain ⟨v, rfl, hv, q⟩ := h
  rcases hv with ⟨i, rfl, hz⟩ | rfl
  · obtain ⟨u, rfl, t, rfl⟩ := vals1 r
    exact PySem.P.repr_of_int hz ⟨.str _, H, I.tok _, ⟨_, rfl⟩, q⟩
  · obtain ⟨u, rfl, e⟩ := vals1 r
    cases e
    exact PySem.P.repr_of_none ⟨.str _, H, I.tok _, ⟨_, rfl⟩, q⟩
theorem mres_sh {tab : Tb} {v : V} (h : MRes tab v) (b : ∀ r ∈ tab, ∀ e ∈ r, ∀ x ∈ e, x.natAbs < 2 ^ 200) : Sh v := by
  rcases h with ⟨c, rfl, h⟩ | ⟨rfl, _⟩
  · refine .inl ⟨c, rfl, ?_⟩
    rcases h with ⟨_, rfl⟩ | ⟨te, _, h3, h4⟩
    · decide
    · cases tab with
      | nil => exact absurd rfl te
      | cons r t =>
        have lr := h3 r List.mem_cons_self
        cases r with
        | nil => simp at lr
        | cons e r =>
          have := h4 0 (e :: r) rfl 0 e rfl
          rw [if_pos rfl] at this
          have hb := b _ List.mem_cons_self e List.mem_cons_self c (by rw [this]; exact List.mem_cons_self)
          exact log7 (Nat.lt_trans hb (by decide))
  · exact .inr rfl
def TS4 : TS := fun D σ H => ∃ (a d : Addr) (ds : List Int) (m0 : Int), σ = [some (.ref a), some (.ref d), some (.int m0), none, none, none, none, none, none, none, none, none] ∧ IL H d ds ∧ 0 ≤ m0 ∧ m0 ≤ 6 ∧ ∀ many : Nat, many ≤ 12 → D.nx [some (.ref a), some (.ref d), some (.int (many : Nat)), none, none, none, none, none, none, none, none, none] H
theorem cut_any {ns : List Int} {m : Nat} : cutV (ns.map V.int) (some (m : Int)) none = (ns.drop m).map V.int := by
  unfold cutV
  rw [HT.sIx_none, HT.sIx_nat, List.length_map]
  rcases Nat.le_total m ns.length with h | h
  · rw [Nat.min_eq_left h, List.take_of_length_le (by rw [List.length_drop, List.length_map]; exact Nat.le_refl _), List.map_drop]
  · rw [Nat.min_eq_right h, Nat.sub_self, List.take_zero, List.drop_eq_nil_of_le h]; rfl
theorem ok_gt {tab : Tb} (h : OKt tab) : ∀ r ∈ tab, r.length ≤ 13 ∧ ∀ e ∈ r, Ge e := fun r hr => ⟨(h.2.2 r hr).2.1, fun e he => let ⟨a, b, c⟩ := (h.2.2 r hr).2.2 e he; ⟨a, bd_all c, by omega⟩⟩
theorem mres_is {tab : Tb} {v : V} {c : Int} (h : MRes tab v) (g : Good tab c) : v = .int c := by
  rcases h with ⟨d, rfl, k⟩ | ⟨rfl, k⟩
  · rw [k.one g]
  · exact absurd g (k c)
section
variable {P : Program} {w : World} {K : PySem.W.Frag} {mg : Str → Option Value} {base : Heap}
def sp_law (K : PySem.W.Frag) (P : Addr) : Sp := fun vs H Q _ => ∃ (a : Addr) (ns : List Int), vs = [.ref a] ∧ SqL K H a (ns.map V.int) ∧ ns.length ≤ 63 ∧ GxR.TabG H P ∧ ∀ H', Q (.bl true) H'
theorem ok_law (T : Txt K mg) (X : Errs K mg) {P2 : Addr} (TB : GxR.TabB base mg T.is_square.c P2) : LG.FnG P w K mg base CX0 8 T.law.a T.law.fd ["script"] (sp_law K P2) := by
  refine LG.fun_okG T.law.F sc_law (fun vs H Q E h => ?_) (fun cdv A outer s H vs Q E hr gd h => ?_)
  · obtain ⟨a, ns, rfl, _⟩ := h
    rfl
  · obtain ⟨a, ns, rfl, ha, hl, tb, q⟩ := h
    refine ⟨_, (pss_cons (ps_set (i := 1) sc_law.nd rfl (.inl rfl) (pe_call (ok_law_draws T) (hr.mono (by decide)) (by rfl) T.law_draws.g T.law_draws.F.kp T.law_draws.b .nil pass0 (pa_cons (pv 0) pa_nil)))
      (pss_cons (ps_if (pt_not (pt_val (LG.pe_callG (ok_law_tables_hold T X) (hr.mono (by decide)) gd (by rfl) T.law_tables_hold.g T.law_tables_hold.F.kp T.law_tables_hold.b .nil pass0 (pa_cons (pv 1) pa_nil))))
        (pss_one (ps_ret pe_bl))
        pss_nil)
      (pss_cons (ps_set (i := 2) sc_law.nd rfl (.inl rfl) (pe_call (ok_law_at T) (hr.mono (by decide)) (by rfl) T.law_at.g T.law_at.F.kp T.law_at.b .nil pass0 (pa_cons (pv 1) (pa_cons pe_int (pa_cons pe_int pa_nil)))))
      (pss_cons (ps_via (t' := TS4) (ps_if (pt_cmpR op_eq (pe_call (ok_law_at T) (hr.mono (by decide)) (by rfl) T.law_at.g T.law_at.F.kp T.law_at.b .nil pass0 (pa_cons (pv 1) (pa_cons pe_int (pa_cons pe_int pa_nil)))) pe_int (nomark _))
        (pss_one (ps_set (i := 2) sc_law.nd rfl (.inl rfl) (pe_op op_add pe_int (pe_call (ok_law_at T) (hr.mono (by decide)) (by rfl) T.law_at.g T.law_at.F.kp T.law_at.b .nil pass0 (pa_cons (pv 1) (pa_cons pe_int (pa_cons pe_int pa_nil)))))))
        pss_nil) ?t4)
      (pss_cons (ps_set (i := 3) sc_law.nd rfl (.inl rfl) (pe_ix ix_list (pe_lst (pa_cons pe_int (pa_cons (pe_un un_neg pe_int) (pa_cons pe_int (pa_cons (pe_un un_neg pe_int) (pa_cons (pe_op op_pow pe_int pe_int) (pa_cons (pe_op op_add pe_int (pe_call (ok_law_at T) (hr.mono (by decide)) (by rfl) T.law_at.g T.law_at.F.kp T.law_at.b .nil pass0 (pa_cons (pv 1) (pa_cons pe_int (pa_cons pe_int pa_nil))))) pa_nil))))))) (pe_call (ok_law_at T) (hr.mono (by decide)) (by rfl) T.law_at.g T.law_at.F.kp T.law_at.b .nil pass0 (pa_cons (pv 1) (pa_cons pe_int (pa_cons pe_int pa_nil)))) (fun _ _ => rfl)))
      (pss_cons (ps_set (i := 4) sc_law.nd rfl (.inl rfl) (pe_call (ok_law_one T) (hr.mono (by decide)) (by rfl) T.law_one.g T.law_one.F.kp T.law_one.b .nil pass0 (pa_cons (pv 2) (pa_cons (pv 3) pa_nil))))
      (pss_cons (ps_if (pt_cmpR op_ne (pe_callB call_reprN (by rfl) T.m_repr (by decide +kernel) (pa_cons (pe_call (ok_multiple_of T TB) (hr.mono (by decide)) (by rfl) T.multiple_of.g T.multiple_of.F.kp T.multiple_of.b .nil pass0 (pa_cons (pv 4) pa_nil)) pa_nil)) (pe_callB call_reprN (by rfl) T.m_repr (by decide +kernel) (pa_cons (pe_ix ix_list (pe_lst (pa_cons pe_int (pa_cons (pv 3) pa_nil))) (pe_callTy call_int1 (by rfl) T.m_int (by decide +kernel) (pa_cons (pe_cmpR op_gt (pv 2) pe_int (nomark _)) pa_nil)) (fun _ _ => rfl)) pa_nil)) (nomark _))
        (pss_one (ps_ret pe_bl))
        pss_nil)
      (pss_cons (ps_for PassesOwn.never rfl (pi_range1 (by rfl) T.m_range (pa_cons (pe_op op_mul pe_int (pe_callTy call_int1 (by rfl) T.m_int (by decide +kernel) (pa_cons (pe_cmpR op_gt (pv 2) pe_int (nomark _)) pa_nil))) pa_nil)) (pg_name (i := 5) sc_law.nd rfl (.inl rfl))
        (pss_cons (ps_set (i := 6) sc_law.nd rfl (.inl rfl) (pe_call (ok_law_spoilt T) (hr.mono (by decide)) (by rfl) T.law_spoilt.g T.law_spoilt.F.kp T.law_spoilt.b .nil pass0 (pa_cons (pe_slice sl_list (pv 1) (po_some (pe_op op_add pe_int (pe_op op_mul pe_int (pv 5)))) po_none) (pa_cons (pv 4) (pa_cons (pv 3) pa_nil)))))
        (pss_cons (ps_set (i := 7) sc_law.nd rfl (.inl rfl) (pe_callB (LG.call_reprD gd hr.units) (by rfl) T.m_repr (by decide +kernel) (pa_cons (pv 6) pa_nil)))
        (pss_one (ps_if (PW.pt (pw_or (pt_cmpR op_ne (pe_callB call_reprN (by rfl) T.m_repr (by decide +kernel) (pa_cons (pe_call (ok_multiple_of T TB) (hr.mono (by decide)) (by rfl) T.multiple_of.g T.multiple_of.F.kp T.multiple_of.b .nil pass0 (pa_cons (pv 6) pa_nil)) pa_nil)) (pe_callB call_reprN (by rfl) T.m_repr (by decide +kernel) (pa_cons (pe_call (ok_law_due T) (hr.mono (by decide)) (by rfl) T.law_due.g T.law_due.F.kp T.law_due.b .nil pass0 (pa_cons (pv 6) pa_nil)) pa_nil)) (nomark _)) (pw_or1 (pt_cmpR op_ne (pe_callB (LG.call_reprD gd hr.units) (by rfl) T.m_repr (by decide +kernel) (pa_cons (pv 6) pa_nil)) (pv 7) (nomark _)))))
          (pss_one (ps_ret pe_bl))
          pss_nil)))))
      (pss_cons (ps_set (i := 8) sc_law.nd rfl (.inl rfl) (pe_ix ix_list (pe_lst (pa_cons pe_int (pa_cons (pe_un un_neg pe_int) (pa_cons pe_int (pa_cons (pe_un un_neg pe_int) (pa_cons pe_int (pa_cons pe_int pa_nil))))))) (pe_call (ok_law_at T) (hr.mono (by decide)) (by rfl) T.law_at.g T.law_at.F.kp T.law_at.b .nil pass0 (pa_cons (pv 1) (pa_cons pe_int (pa_cons pe_int pa_nil)))) (fun _ _ => rfl)))
      (pss_cons (ps_asg (pe_call (ok_law_pair T) (hr.mono (by decide)) (by rfl) T.law_pair.g T.law_pair.F.kp T.law_pair.b .nil pass0 (pa_cons (pe_slice sl_list (pv 1) (po_some pe_int) po_none) (pa_cons (pe_ix ix_list (pe_lst (pa_cons (pv 2) (pa_cons (pe_callB (call_min2 rfl) (by rfl) T.m_min (by decide +kernel) (pa_cons (pv 2) (pa_cons pe_int pa_nil))) pa_nil))) (pe_callTy call_int1 (by rfl) T.m_int (by decide +kernel) (pa_cons (pe_cmpR op_lt (pv 2) pe_int (nomark _)) pa_nil)) (fun _ _ => rfl)) (pa_cons (pv 8) pa_nil)))) (pg_tup rfl (pgs_cons (pg_name (i := 9) sc_law.nd rfl (.inl rfl)) (pgs_cons (pg_name (i := 10) sc_law.nd rfl (.inl rfl)) pgs_nil))))
      (pss_cons (ps_set (i := 11) sc_law.nd rfl (.inl rfl) (pe_ix ix_list (pe_lst (pa_cons pe_int (pa_cons (pv 8) pa_nil))) (pe_callTy call_int1 (by rfl) T.m_int (by decide +kernel) (pa_cons (pe_cmpR op_gt (pv 2) pe_int (nomark _)) pa_nil)) (fun _ _ => rfl)))
      (pss_one (ps_ret (pe_and (pe_cmpR op_eq (pe_call (ok_multiple_of T TB) (hr.mono (by decide)) (by rfl) T.multiple_of.g T.multiple_of.F.kp T.multiple_of.b .nil pass0 (pa_cons (pe_call (ok_productF T X) (hr.mono (by decide)) (by rfl) T.product.g T.product.F.kp T.product.b .nil (passes_call takes0 fun _ _ _ _ h => h) (pa_cons (pv 9) (pa_cons (pv 10) pa_nil))) pa_nil)) (pv 11) (nomark _)) (pe_one (pe_cmpR op_eq (pe_call (ok_multiple_of T TB) (hr.mono (by decide)) (by rfl) T.multiple_of.g T.multiple_of.F.kp T.multiple_of.b .nil pass0 (pa_cons (pe_call (ok_productF T X) (hr.mono (by decide)) (by rfl) T.product.g T.product.F.kp T.product.b .nil (passes_call takes0 fun _ _ _ _ h => h) (pa_cons (pv 10) (pa_cons (pv 9) pa_nil))) pa_nil)) (pv 11) (nomark _))))))))))))))))), ?_⟩
    case t4 =>
      rintro D σ H ⟨a, d, ds, m0, rfl, hd, h0, h6, nx⟩
      refine ⟨.ref d, rfl, d, ds, _, _, rfl, hd, by decide, by decide, fun r p0 p1 => ⟨rfl, _, rfl, ?_⟩⟩
      refine ite2 (fun _ => ?_) (fun _ => ?_)
      · refine ⟨.ref d, rfl, d, ds, _, _, rfl, hd, by decide, by decide, fun r2 q0 q1 => ⟨_, _, rfl, rfl, ?_⟩⟩
        obtain ⟨m, em, hm⟩ : ∃ m : Nat, 11 + r2 = (m : Int) ∧ m ≤ 12 := ⟨(11 + r2).toNat, by omega, by omega⟩
        have := nx m hm
        rw [← em] at this
        exact this
      · obtain ⟨m, em, hm⟩ : ∃ m : Nat, m0 = (m : Int) ∧ m ≤ 12 := ⟨m0.toNat, by omega, by omega⟩
        subst em
        exact nx m hm
    refine ⟨.ref a, rfl, a, ns, rfl, ha, hl, fun H1 d ds s1 nd hd lds => ?_⟩
    refine ⟨.ref d, rfl, d, ds, rfl, hd, fun H2 s2 => ⟨_, rfl, iteF ?_⟩⟩
    have hd2 := hd.same s2
    refine ⟨.ref d, rfl, d, ds, _, _, rfl, hd2, by decide, by decide, fun m0 c0 c1 => ?_⟩
    refine ⟨a, d, ds, m0, rfl, hd2, c0, by omega, fun many h12 => ?_⟩
    have tb2 := tabG_same (tabG_same tb s1) s2
    refine ⟨_, rfl, _, rfl, _, _, rfl, rfl, ⟨by decide, by decide, by decide⟩, .ref d, rfl, d, ds, _, _, rfl, hd2, by decide, by decide, fun r6 e0 e1 => ⟨_, _, rfl, rfl, by show 6 ≤ sizeLine; decide, fun l nl => ?_⟩⟩
    have u0 := same_upd nl (o := .lst ([1, -1, 7, -12, (10 : Int) ^ (29 : Int).toNat, 1 + r6].map V.int))
    refine ⟨.ref d, rfl, d, ds, _, _, rfl, hd2.same u0, by decide, by decide, fun r7 f0 f1 => ?_⟩
    have hlt : r7.toNat < [1, -1, 7, -12, (10 : Int) ^ (29 : Int).toNat, 1 + r6].length := by show _ < 6; omega
    refine ⟨l, _, _, _, rfl, rfl, .of upd_same, at_map' (ns := [1, -1, 7, -12, (10 : Int) ^ (29 : Int).toNat, 1 + r6]) (m := r7.toNat) (by omega) hlt, ?_⟩
    have hn : ∀ x ∈ [1, -1, 7, -12, (10 : Int) ^ (29 : Int).toNat, 1 + r6], x ≠ 0 ∧ x.natAbs < 2 ^ 100 := fun x hx => by
      simp only [List.mem_cons, List.not_mem_nil, or_false] at hx
      rcases hx with rfl | rfl | rfl | rfl | rfl | rfl
      · decide
      · decide
      · decide
      · decide
      · decide
      · exact ⟨by omega, Nat.lt_of_le_of_lt (show _ ≤ 2000 by omega) (by decide)⟩
    obtain ⟨n0, nb⟩ := hn _ (mem_at (at_map hlt))
    generalize cf [1, -1, 7, -12, (10 : Int) ^ (29 : Int).toNat, 1 + r6] r7.toNat = n at n0 nb
    have hd3 := hd2.same u0
    have tb3 := tabG_same tb2 u0
    refine ⟨_, rfl, _, rfl, many, n, rfl, by omega, fun G1 t u1 nt hT => ?_⟩
    have hT1 := hT.r
    have l1 := oneT_len many n
    have r1 : ∀ r ∈ oneT many n, r.length ≤ 16 := fun r hr => by obtain ⟨i, _, rfl⟩ := List.mem_map.mp hr; rw [List.length_map, List.length_range]; omega
    have bO : ∀ r ∈ oneT many n, ∀ e ∈ r, ∀ x ∈ e, x.natAbs < 2 ^ 200 := fun r hr e he x hx => by
      obtain ⟨i, _, rfl⟩ := List.mem_map.mp hr
      obtain ⟨j, _, rfl⟩ := List.mem_map.mp he
      have hx : x ∈ (if i = j then [n] else []) := hx
      by_cases z : i = j
      · rw [if_pos z] at hx
        obtain rfl := List.mem_singleton.mp hx
        exact Nat.lt_trans nb (by decide)
      · rw [if_neg z] at hx; cases hx
    have hd4 := hd3.same u1
    have tb4 := tabG_same tb3 u1
    refine ⟨.ref t, rfl, t, oneT many n, rfl, hT1, by omega, r1, tb4, fun G2 v k2 tb5 hv => ⟨v, rfl, mres_sh hv bO, _, rfl, by show 2 ≤ sizeLine; decide, fun l2 nl2 => ?_⟩⟩
    have u2 := same_upd nl2 (o := .lst ([1, n].map V.int))
    obtain ⟨bm, eb, hb⟩ : ∃ bm : Nat, (if decide ((many : Int) > 0) = true then (1 : Int) else 0) = (bm : Int) ∧ ((0 < many ∧ bm = 1) ∨ (many = 0 ∧ bm = 0)) := by
      by_cases z : (many : Int) > 0
      · rw [decide_eq_true z]; exact ⟨1, rfl, .inl ⟨by omega, rfl⟩⟩
      · rw [decide_eq_false z]; exact ⟨0, rfl, .inr ⟨by omega, rfl⟩⟩
    have g1 : Good (oneT many n) (cf [1, n] bm) := by
      rcases hb with ⟨h, rfl⟩ | ⟨h, rfl⟩
      · exact good_one h n0
      · exact .inl ⟨by rw [h]; rfl, rfl⟩
    have lbm : bm < [1, n].length := by show bm < 2; omega
    refine ⟨_, rfl, _, _, rfl, rfl, .inr ⟨_, rfl, l2, _, _, _, rfl, rfl, .of upd_same, at_map' (ns := [1, n]) (m := bm) eb lbm, .int (cf [1, n] bm), rfl, ?_, rfl, _, rfl, ?_⟩⟩
    · rcases hb with ⟨h, rfl⟩ | ⟨h, rfl⟩
      · exact .inl ⟨n, rfl, log7 (Nat.lt_trans nb (by decide))⟩
      · exact .inl ⟨1, rfl, by decide⟩
    rw [mres_is hv g1, decide_eq_true rfl]
    refine iteF ?_
    have k3 := k2.trans (lkN u2)
    have tb6 := tabG_same tb5 u2
    refine ⟨_, rfl, _, _, rfl, rfl, .inr ⟨_, rfl, _, _, rfl, rfl, .inl ⟨by decide, by decide⟩, ?_⟩⟩
    obtain ⟨tn, et, ht3, htm⟩ : ∃ tn : Nat, (3 * (if decide ((many : Int) > 0) = true then (1 : Int) else 0)) = (tn : Int) ∧ tn ≤ 3 ∧ (0 < tn → 0 < many) := by
      rw [eb]; exact ⟨3 * bm, by omega, by omega, by omega⟩
    refine ⟨(tn : Int), congrArg (fun z => [V.int z]) et, by omega, by omega, ?_⟩
    rw [Int.toNat_natCast]
    refine for_range (n := tn) (lo := 0) (fun i σ G => (∃ (v5 v6 v7 : Option V), σ = [some (.ref a), some (.ref d), some (.int (many : Nat)), some (.int n), some (.ref t), v5, v6, v7, none, none, none, none]) ∧ LkN G1 G ∧ GxR.TabG G P2) ⟨⟨_, _, _, rfl⟩, k3, tb6⟩ (fun i σ G hi hP => ?_) (fun σ G hP => ?_)
    · obtain ⟨⟨v5, v6, v7, rfl⟩, kG, tG⟩ := hP
      have mpos := htm (by omega)
      refine ⟨.ref d, rfl, _, rfl, _, _, rfl, rfl, .inl ⟨by decide, by decide⟩, _, _, rfl, rfl, ((200 + 7 * i : Nat) : Int), congrArg V.int (by omega), d, _, rfl, kG.1.seqL hd4.sq, fun e ne => ?_⟩
      rw [cut_any]
      have w1 := same_upd ne (o := .lst ((ds.drop (200 + 7 * i)).map V.int))
      have kG1 := kG.trans (lkN w1)
      refine ⟨.ref t, rfl, _, rfl, e, t, ds.drop (200 + 7 * i), many, n, rfl, upd_same, hT1.lk kG1.1, mpos, h12, n0, nb, fun G4 p tab w2 hp hok => ?_⟩
      have gT := gd_gt hok.2.1 (ok_gt hok)
      have gT0 := PyData.hasDict_of_canLay _ gT.lay
      have bT : ∀ r ∈ tab, ∀ e ∈ r, ∀ x ∈ e, x.natAbs < 2 ^ 200 := fun r hr e he => ((hok.2.2 r hr).2.2 e he).2.2
      have k4 := kG1.trans (lkN w2)
      have t4 := tabG_same (tabG_same tG w1) w2
      refine ⟨.ref p, rfl, p, dTb tab, rfl, dp_tb hp, gT.sh, gT0, Nat.le_trans gT.dep (by decide), Nat.le_trans gT.len (by decide), ?_⟩
      refine ⟨.ref p, rfl, p, tab, rfl, hp, by have := hok.2.1; omega, fun r hr => by have := (hok.2.2 r hr).2.1; omega, t4, fun G5 v k5 t5 hv => ⟨v, rfl, mres_sh hv bT, .ref p, rfl, p, tab, rfl, hp.lk k5.1, hok.1, by have := hok.2.1; omega, fun r hr => ⟨(hok.2.2 r hr).1, fun e he => ((hok.2.2 r hr).2.2 e he).1⟩, fun G6 v2 w6 hv2 => ⟨v2, rfl, mres_sh hv2 bT, rfl, _, rfl, ?_⟩⟩⟩
      rw [hv.eq hv2, decide_eq_true rfl]
      refine iteF ⟨.ref p, rfl, p, dTb tab, rfl, dp_tb ((hp.lk k5.1).lk (K01.lk w6)), gT.sh, gT0, Nat.le_trans gT.dep (by decide), Nat.le_trans gT.len (by decide), _, rfl, rfl, _, rfl, ?_⟩
      rw [decide_eq_true rfl]
      exact iteF ⟨⟨_, _, _, rfl⟩, (k4.trans k5).trans (lkN w6), tabG_same t5 w6⟩
    · obtain ⟨⟨v5, v6, v7, rfl⟩, kG, tG⟩ := hP
      have hdG : IL G d ds := hd4.lk kG.1
      refine ⟨_, rfl, _, rfl, by show 6 ≤ sizeLine; decide, fun l nl => ?_⟩
      have w1 := same_upd nl (o := .lst ([1, -1, 7, -12, 3, 5].map V.int))
      refine ⟨.ref d, rfl, d, ds, _, _, rfl, hdG.same w1, by decide, by decide, fun r8 g0 g9 => ?_⟩
      have hlt8 : r8.toNat < [(1 : Int), -1, 7, -12, 3, 5].length := by show _ < 6; omega
      refine ⟨l, _, _, _, rfl, rfl, .of upd_same, at_map' (ns := [1, -1, 7, -12, 3, 5]) (m := r8.toNat) (by omega) hlt8, ?_⟩
      obtain ⟨c0', cb⟩ := (by decide : ∀ x ∈ [(1 : Int), -1, 7, -12, 3, 5], x ≠ 0 ∧ x.natAbs ≤ 12) _ (mem_at (at_map hlt8))
      generalize cf [1, -1, 7, -12, 3, 5] r8.toNat = c at c0' cb
      have kG1 := kG.trans (lkN w1)
      have tG1 := tabG_same tG w1
      refine ⟨.ref d, rfl, _, rfl, d, _, rfl, (hdG.same w1).sq, fun e ne => ?_⟩
      rw [show cutV (ds.map V.int) (some 220) none = (ds.drop 220).map V.int from cut_any (m := 220)]
      have w2 := same_upd ne (o := .lst ((ds.drop 220).map V.int))
      obtain ⟨mn, emn, hmn⟩ : ∃ mn : Nat, (if (4 : Int) < (many : Int) then (4 : Int) else (many : Int)) = (mn : Int) ∧ mn = min many 4 := by
        by_cases z : (4 : Int) < (many : Int)
        · rw [if_pos z]; exact ⟨4, rfl, by omega⟩
        · rw [if_neg z]; exact ⟨many, rfl, by omega⟩
      refine ⟨_, rfl, _, rfl, _, _, rfl, by show 2 ≤ sizeLine; decide, fun l3 nl3 => ?_⟩
      have w3 := same_upd nl3 (o := .lst ([(many : Int), if (4 : Int) < (many : Int) then 4 else (many : Int)].map V.int))
      obtain ⟨b7, eb7, hb7⟩ : ∃ b7 : Nat, (if decide ((many : Int) < 7) = true then (1 : Int) else 0) = (b7 : Int) ∧ b7 ≤ 1 := by
        split
        · exact ⟨1, rfl, Nat.le_refl _⟩
        · exact ⟨0, rfl, Nat.zero_le _⟩
      refine ⟨_, rfl, _, _, rfl, rfl, .inr ⟨_, rfl, l3, _, _, _, rfl, rfl, .of upd_same, at_map' (ns := [(many : Int), if (4 : Int) < (many : Int) then 4 else (many : Int)]) (m := b7) eb7 (by show b7 < 2; omega), ?_⟩⟩
      obtain ⟨mm, emm, hmm, hpos⟩ : ∃ mm : Nat, cf [(many : Int), if (4 : Int) < (many : Int) then 4 else (many : Int)] b7 = (mm : Int) ∧ mm ≤ 12 ∧ (0 < mm ↔ 0 < many) := by
        rcases (show b7 = 0 ∨ b7 = 1 by omega) with rfl | rfl
        · exact ⟨many, rfl, h12, Iff.rfl⟩
        · exact ⟨mn, emn, by omega, by omega⟩
      rw [emm]
      have kG3 := kG1.trans (lkN (w2.trans w3))
      have tG3 := tabG_same (tabG_same tG1 w2) w3
      refine ⟨_, rfl, e, ds.drop 220, mm, c, rfl, w3 _ _ upd_same, hmm, cb, fun G4 tt p1 p2 as1 as2 one two t' htt I h5 => ?_⟩
      refine ⟨tt, _, rfl, .inl (.inl htt), rfl, _, _, rfl, _, _, rfl, rfl, ?_⟩
      have tG4 := tabG_same tG3 I.sm
      have R1 : TbR G4 p1 one := ⟨as1, I.h1, I.A1⟩
      have R2 : TbR G4 p2 two := ⟨as2, I.h2, I.A2'⟩
      refine ⟨_, rfl, by show 2 ≤ sizeLine; decide, fun l4 nl4 => ?_⟩
      have w4 := same_upd nl4 (o := .lst ([1, c].map V.int))
      refine ⟨_, rfl, _, _, rfl, rfl, .inr ⟨_, rfl, l4, _, _, _, rfl, rfl, .of upd_same, at_map' (ns := [1, c]) (m := bm) eb (by show bm < 2; omega), ?_⟩⟩
      have G1' : ∀ {u v : Tb}, u.length = mm → v.length = mm → (∀ r ∈ u, r.length = mm) → (∀ r ∈ v, r.length = mm) → (∀ x y, x < mm → y < mm → sumC mm (fun k => PC (En u x k) (En v k y)) = Dg c x y) → Good (prodT u v) (cf [1, c] bm) := fun {u v} lu lv ru rv h => by
        rcases hb with ⟨h0, rfl⟩ | ⟨h0, rfl⟩
        · exact good_prod (hpos.mpr h0) c0' lu lv ru rv h
        · have : u = [] := List.length_eq_zero_iff.mp (by omega)
          exact .inl ⟨by rw [this]; rfl, rfl⟩
      have ga := G1' I.l1 I.l2 I.r1 I.r2 I.tw.1
      have gb := G1' I.l2 I.l1 I.r2 I.r1 I.tw.2
      have fitw : ∀ {u v : Tb}, v.length = mm → u.length = mm → (∀ r ∈ u, r.length = mm) → u ≠ [] → wdt u ≠ v.length → False := fun {u v} lv lu ru ne nw => by
        cases u with
        | nil => exact ne rfl
        | cons r rr => exact nw (by rw [lv]; exact ru r List.mem_cons_self)
      have pb1 := bt_pb h5 I.b1
      have pb2 := bt_pb h5 I.b2
      have plen : ∀ {u v : Tb}, u.length = mm → (∀ r ∈ v, r.length = mm) → (prodT u v).length ≤ 16 ∧ ∀ r ∈ prodT u v, r.length ≤ 16 := fun {u v} lu rv => by
        refine ⟨by unfold prodT; rw [List.length_map]; omega, fun r hr => ?_⟩
        obtain ⟨row, _, rfl⟩ := List.mem_map.mp hr
        rw [List.length_map, List.length_range]
        have := (wdt_le rv).1
        omega
      have R1' := R1.lk (K01.lk w4)
      have R2' := R2.lk (K01.lk w4)
      have tG5 := tabG_same tG4 w4
      refine ⟨.ref p1, rfl, .ref p2, rfl, p1, p2, one, two, rfl, R1', R2', fun ne nw => (fitw I.l2 I.l1 I.r1 ne nw).elim, fun _ => ⟨mm, by have := I.l1; omega, by have := I.l2; omega, fun r hr => ⟨by rw [I.r1 r hr, I.l2], pb1 r hr⟩, fun r hr => ⟨I.r2 r hr, pb2 r hr⟩, by omega, fun G6 p3 w6 n6 hT6 => ?_⟩⟩
      refine ⟨p3, prodT one two, rfl, hT6.r, (plen I.l1 I.r2).1, (plen I.l1 I.r2).2, tabG_same tG5 w6, fun G7 v k7 tb7 hv => ?_⟩
      refine ⟨_, rfl, by rw [mres_is hv ga]; rfl, true, congrArg V.bl (decide_eq_true (mres_is hv ga)), iteT ?_⟩
      have R17 := (R1'.lk (K01.lk w6)).lk k7.1
      have R27 := (R2'.lk (K01.lk w6)).lk k7.1
      refine ⟨.ref p2, rfl, .ref p1, rfl, p2, p1, two, one, rfl, R27, R17, fun ne nw => (fitw I.l1 I.l2 I.r2 ne nw).elim, fun _ => ⟨mm, by have := I.l2; omega, by have := I.l1; omega, fun r hr => ⟨by rw [I.r2 r hr, I.l1], pb2 r hr⟩, fun r hr => ⟨I.r1 r hr, pb1 r hr⟩, by omega, fun G8 p4 w8 n8 hT8 => ?_⟩⟩
      refine ⟨p4, prodT two one, rfl, hT8.r, (plen I.l2 I.r1).1, (plen I.l2 I.r1).2, tabG_same tb7 w8, fun G9 v2 k9 tb9 hv2 => ?_⟩
      refine ⟨_, rfl, by rw [mres_is hv2 gb]; rfl, ?_⟩
      rw [mres_is hv2 gb, decide_eq_true rfl]
      exact q _
end
section
/-- the facts of the text, from what stands behind the top -/
theorem all_mk {l : PySem.W.OpenLaw} {w : World} {K : PySem.W.Frag} {h : Heap} {mg : Str → Option Value} {fa : Addr} (X : K.In h) (G : h.Ns mainGlobals mg) (hfa : mg "law" = some (.ref fa))
    {f0 : Addr} {od0 an0 : Option Addr} {sl0 : Array (Option Value)} {oc0 kV0 dc0 pm0 cd0 ct0 : Value}
    {f1 : Addr} {od1 an1 : Option Addr} {sl1 : Array (Option Value)} {oc1 kV1 dc1 pm1 cd1 ct1 : Value}
    {f2 : Addr} {od2 an2 : Option Addr} {sl2 : Array (Option Value)} {oc2 kV2 dc2 pm2 cd2 ct2 : Value}
    {f3 : Addr} {od3 an3 : Option Addr} {sl3 : Array (Option Value)} {oc3 kV3 dc3 pm3 cd3 ct3 : Value}
    {f4 : Addr} {od4 an4 : Option Addr} {sl4 : Array (Option Value)} {oc4 kV4 dc4 pm4 cd4 ct4 : Value}
    {f5 : Addr} {od5 an5 : Option Addr} {sl5 : Array (Option Value)} {oc5 kV5 dc5 pm5 cd5 ct5 : Value}
    {f6 C6 P6 : Addr} {od6 an6 td6 : Option Addr} {sl6 tl6 : Array (Option Value)} {tv6 : Array Value} {oc6 kV6 dc6 pm6 ct6 te6 : Value}
    {f7 : Addr} {od7 an7 : Option Addr} {sl7 : Array (Option Value)} {oc7 kV7 dc7 pm7 cd7 ct7 : Value}
    {f8 : Addr} {od8 an8 : Option Addr} {sl8 : Array (Option Value)} {oc8 kV8 dc8 pm8 cd8 ct8 : Value}
    {f9 : Addr} {od9 an9 : Option Addr} {sl9 : Array (Option Value)} {oc9 kV9 dc9 pm9 cd9 ct9 : Value}
    {f10 : Addr} {od10 an10 : Option Addr} {sl10 : Array (Option Value)} {oc10 kV10 dc10 pm10 cd10 ct10 : Value}
    {f11 : Addr} {od11 an11 : Option Addr} {sl11 : Array (Option Value)} {oc11 kV11 dc11 pm11 cd11 ct11 : Value}
    {f12 : Addr} {od12 an12 : Option Addr} {sl12 : Array (Option Value)} {oc12 kV12 dc12 pm12 cd12 ct12 : Value}
    {f13 : Addr} {od13 an13 : Option Addr} {sl13 : Array (Option Value)} {oc13 kV13 dc13 pm13 cd13 ct13 : Value}
    {f14 : Addr} {od14 an14 : Option Addr} {sl14 : Array (Option Value)} {oc14 kV14 dc14 pm14 cd14 ct14 : Value}
    {f15 : Addr} {od15 an15 : Option Addr} {sl15 : Array (Option Value)} {oc15 kV15 dc15 pm15 cd15 ct15 : Value}
    {f16 : Addr} {od16 an16 : Option Addr} {sl16 : Array (Option Value)} {oc16 kV16 dc16 pm16 cd16 ct16 : Value}
    {f17 : Addr} {od17 an17 : Option Addr} {sl17 : Array (Option Value)} {oc17 kV17 dc17 pm17 cd17 ct17 : Value}
    {f18 : Addr} {od18 an18 : Option Addr} {sl18 : Array (Option Value)} {oc18 kV18 dc18 pm18 cd18 ct18 : Value}
    {f19 : Addr} {od19 an19 : Option Addr} {sl19 : Array (Option Value)} {oc19 kV19 dc19 pm19 cd19 ct19 : Value}
    {f20 : Addr} {od20 an20 : Option Addr} {sl20 : Array (Option Value)} {oc20 kV20 dc20 pm20 cd20 ct20 : Value}
    {f21 : Addr} {od21 an21 : Option Addr} {sl21 : Array (Option Value)} {oc21 kV21 dc21 pm21 cd21 ct21 : Value}
    {f22 : Addr} {od22 an22 : Option Addr} {sl22 : Array (Option Value)} {oc22 kV22 dc22 pm22 cd22 ct22 : Value}
    {f23 : Addr} {od23 an23 : Option Addr} {sl23 : Array (Option Value)} {oc23 kV23 dc23 pm23 cd23 ct23 : Value}
    {f24 : Addr} {od24 an24 : Option Addr} {sl24 : Array (Option Value)} {oc24 kV24 dc24 pm24 cd24 ct24 : Value}
    {f25 : Addr} {od25 an25 : Option Addr} {sl25 : Array (Option Value)} {oc25 kV25 dc25 pm25 cd25 ct25 : Value}
    {f26 : Addr} {od26 an26 : Option Addr} {sl26 : Array (Option Value)} {oc26 kV26 dc26 pm26 cd26 ct26 : Value}
    {f27 : Addr} {od27 an27 : Option Addr} {sl27 : Array (Option Value)} {oc27 kV27 dc27 pm27 cd27 ct27 : Value}
    {CM fI : Addr} {odI anI : Option Addr} {slI : Array (Option Value)} {ocI kVI dcI pmI cdI ctI : Value}
    {e0_C e0_N : Addr} {e0_nm e0_q e0_nk : Str} {e0_tk : Tok} {e0_bs : List Value} {e0_sn : List Str} {e0_sub : List Value} {e0_ab : Bool} {e0_col : Option Bool} {e0_dd : Option Addr} {e0_m0 e0_m1 e0_m3 e0_m5 : Option Value}
    (a0 : PySem.W.nsIn K mainGlobals "trimmed" = some (some (.ref f0))) (l0 : K.lookup f0 = some ⟨oc0, od0, .func (PySem.W.fnOf "trimmed" "trimmed" (defArgs s_trimmed) (defBody s_trimmed) (defScope s_trimmed) .none kV0 dc0 pm0 an0 cd0 ct0), sl0⟩) (c0 : PySem.W.codeIn K cd0 "trimmed" = true) (k0 : PySem.W.keepIn K (.ref f0) = true)
    (a1 : PySem.W.nsIn K mainGlobals "value" = some (some (.ref f1))) (l1 : K.lookup f1 = some ⟨oc1, od1, .func (PySem.W.fnOf "value" "value" (defArgs s_value) (defBody s_value) (defScope s_value) .none kV1 dc1 pm1 an1 cd1 ct1), sl1⟩) (c1 : PySem.W.codeIn K cd1 "value" = true) (k1 : PySem.W.keepIn K (.ref f1) = true)
    (a2 : PySem.W.nsIn K mainGlobals "plus" = some (some (.ref f2))) (l2 : K.lookup f2 = some ⟨oc2, od2, .func (PySem.W.fnOf "plus" "plus" (defArgs s_plus) (defBody s_plus) (defScope s_plus) .none kV2 dc2 pm2 an2 cd2 ct2), sl2⟩) (c2 : PySem.W.codeIn K cd2 "plus" = true) (k2 : PySem.W.keepIn K (.ref f2) = true)
    (a3 : PySem.W.nsIn K mainGlobals "times" = some (some (.ref f3))) (l3 : K.lookup f3 = some ⟨oc3, od3, .func (PySem.W.fnOf "times" "times" (defArgs s_times) (defBody s_times) (defScope s_times) .none kV3 dc3 pm3 an3 cd3 ct3), sl3⟩) (c3 : PySem.W.codeIn K cd3 "times" = true) (k3 : PySem.W.keepIn K (.ref f3) = true)
    (a4 : PySem.W.nsIn K mainGlobals "_wording" = some (some (.ref f4))) (l4 : K.lookup f4 = some ⟨oc4, od4, .func (PySem.W.fnOf "_wording" "_wording" (defArgs s_wording) (defBody s_wording) (defScope s_wording) .none kV4 dc4 pm4 an4 cd4 ct4), sl4⟩) (c4 : PySem.W.codeIn K cd4 "_wording" = true) (k4 : PySem.W.keepIn K (.ref f4) = true)
    (a5 : PySem.W.nsIn K mainGlobals "_width" = some (some (.ref f5))) (l5 : K.lookup f5 = some ⟨oc5, od5, .func (PySem.W.fnOf "_width" "_width" (defArgs s_width) (defBody s_width) (defScope s_width) .none kV5 dc5 pm5 an5 cd5 ct5), sl5⟩) (c5 : PySem.W.codeIn K cd5 "_width" = true) (k5 : PySem.W.keepIn K (.ref f5) = true)
    (a6 : PySem.W.nsIn K mainGlobals "_is_square" = some (some (.ref f6))) (l6 : K.lookup f6 = some ⟨oc6, od6, .func (PySem.W.fnOf "_is_square" "_is_square" (defArgs s_is_square) (defBody s_is_square) (defScope s_is_square) .none kV6 dc6 pm6 an6 (.ref C6) ct6), sl6⟩) (c6 : PySem.W.codeIn K (.ref C6) "_is_square" = true) (k6 : PySem.W.keepIn K (.ref f6) = true)
    (t6 : K.lookup C6 = some ⟨te6, td6, .fields tv6, tl6⟩) (p6 : tv6[11]? = some (.ref P6)) (n6 : K.lookup P6 = none)
    (a7 : PySem.W.nsIn K mainGlobals "value_at" = some (some (.ref f7))) (l7 : K.lookup f7 = some ⟨oc7, od7, .func (PySem.W.fnOf "value_at" "value_at" (defArgs s_value_at) (defBody s_value_at) (defScope s_value_at) .none kV7 dc7 pm7 an7 cd7 ct7), sl7⟩) (c7 : PySem.W.codeIn K cd7 "value_at" = true) (k7 : PySem.W.keepIn K (.ref f7) = true)
    (a8 : PySem.W.nsIn K mainGlobals "_cell" = some (some (.ref f8))) (l8 : K.lookup f8 = some ⟨oc8, od8, .func (PySem.W.fnOf "_cell" "_cell" (defArgs s_cell) (defBody s_cell) (defScope s_cell) .none kV8 dc8 pm8 an8 cd8 ct8), sl8⟩) (c8 : PySem.W.codeIn K cd8 "_cell" = true) (k8 : PySem.W.keepIn K (.ref f8) = true)
    (a9 : PySem.W.nsIn K mainGlobals "product" = some (some (.ref f9))) (l9 : K.lookup f9 = some ⟨oc9, od9, .func (PySem.W.fnOf "product" "product" (defArgs s_product) (defBody s_product) (defScope s_product) .none kV9 dc9 pm9 an9 cd9 ct9), sl9⟩) (c9 : PySem.W.codeIn K cd9 "product" = true) (k9 : PySem.W.keepIn K (.ref f9) = true)
    (a10 : PySem.W.nsIn K mainGlobals "multiple_of" = some (some (.ref f10))) (l10 : K.lookup f10 = some ⟨oc10, od10, .func (PySem.W.fnOf "multiple_of" "multiple_of" (defArgs s_multiple_of) (defBody s_multiple_of) (defScope s_multiple_of) .none kV10 dc10 pm10 an10 cd10 ct10), sl10⟩) (c10 : PySem.W.codeIn K cd10 "multiple_of" = true) (k10 : PySem.W.keepIn K (.ref f10) = true)
    (a11 : PySem.W.nsIn K mainGlobals "_law_draws" = some (some (.ref f11))) (l11 : K.lookup f11 = some ⟨oc11, od11, .func (PySem.W.fnOf "_law_draws" "_law_draws" (defArgs s_law_draws) (defBody s_law_draws) (defScope s_law_draws) .none kV11 dc11 pm11 an11 cd11 ct11), sl11⟩) (c11 : PySem.W.codeIn K cd11 "_law_draws" = true) (k11 : PySem.W.keepIn K (.ref f11) = true)
    (a12 : PySem.W.nsIn K mainGlobals "_law_at" = some (some (.ref f12))) (l12 : K.lookup f12 = some ⟨oc12, od12, .func (PySem.W.fnOf "_law_at" "_law_at" (defArgs s_law_at) (defBody s_law_at) (defScope s_law_at) .none kV12 dc12 pm12 an12 cd12 ct12), sl12⟩) (c12 : PySem.W.codeIn K cd12 "_law_at" = true) (k12 : PySem.W.keepIn K (.ref f12) = true)
    (a13 : PySem.W.nsIn K mainGlobals "_law_number" = some (some (.ref f13))) (l13 : K.lookup f13 = some ⟨oc13, od13, .func (PySem.W.fnOf "_law_number" "_law_number" (defArgs s_law_number) (defBody s_law_number) (defScope s_law_number) .none kV13 dc13 pm13 an13 cd13 ct13), sl13⟩) (c13 : PySem.W.codeIn K cd13 "_law_number" = true) (k13 : PySem.W.keepIn K (.ref f13) = true)
    (a14 : PySem.W.nsIn K mainGlobals "_law_poly" = some (some (.ref f14))) (l14 : K.lookup f14 = some ⟨oc14, od14, .func (PySem.W.fnOf "_law_poly" "_law_poly" (defArgs s_law_poly) (defBody s_law_poly) (defScope s_law_poly) .none kV14 dc14 pm14 an14 cd14 ct14), sl14⟩) (c14 : PySem.W.codeIn K cd14 "_law_poly" = true) (k14 : PySem.W.keepIn K (.ref f14) = true)
    (a15 : PySem.W.nsIn K mainGlobals "_law_plus" = some (some (.ref f15))) (l15 : K.lookup f15 = some ⟨oc15, od15, .func (PySem.W.fnOf "_law_plus" "_law_plus" (defArgs s_law_plus) (defBody s_law_plus) (defScope s_law_plus) .none kV15 dc15 pm15 an15 cd15 ct15), sl15⟩) (c15 : PySem.W.codeIn K cd15 "_law_plus" = true) (k15 : PySem.W.keepIn K (.ref f15) = true)
    (a16 : PySem.W.nsIn K mainGlobals "_law_times" = some (some (.ref f16))) (l16 : K.lookup f16 = some ⟨oc16, od16, .func (PySem.W.fnOf "_law_times" "_law_times" (defArgs s_law_times) (defBody s_law_times) (defScope s_law_times) .none kV16 dc16 pm16 an16 cd16 ct16), sl16⟩) (c16 : PySem.W.codeIn K cd16 "_law_times" = true) (k16 : PySem.W.keepIn K (.ref f16) = true)
    (a17 : PySem.W.nsIn K mainGlobals "_law_value" = some (some (.ref f17))) (l17 : K.lookup f17 = some ⟨oc17, od17, .func (PySem.W.fnOf "_law_value" "_law_value" (defArgs s_law_value) (defBody s_law_value) (defScope s_law_value) .none kV17 dc17 pm17 an17 cd17 ct17), sl17⟩) (c17 : PySem.W.codeIn K cd17 "_law_value" = true) (k17 : PySem.W.keepIn K (.ref f17) = true)
    (a18 : PySem.W.nsIn K mainGlobals "_law_long" = some (some (.ref f18))) (l18 : K.lookup f18 = some ⟨oc18, od18, .func (PySem.W.fnOf "_law_long" "_law_long" (defArgs s_law_long) (defBody s_law_long) (defScope s_law_long) .none kV18 dc18 pm18 an18 cd18 ct18), sl18⟩) (c18 : PySem.W.codeIn K cd18 "_law_long" = true) (k18 : PySem.W.keepIn K (.ref f18) = true)
    (a19 : PySem.W.nsIn K mainGlobals "_law_table" = some (some (.ref f19))) (l19 : K.lookup f19 = some ⟨oc19, od19, .func (PySem.W.fnOf "_law_table" "_law_table" (defArgs s_law_table) (defBody s_law_table) (defScope s_law_table) .none kV19 dc19 pm19 an19 cd19 ct19), sl19⟩) (c19 : PySem.W.codeIn K cd19 "_law_table" = true) (k19 : PySem.W.keepIn K (.ref f19) = true)
    (a20 : PySem.W.nsIn K mainGlobals "_law_product" = some (some (.ref f20))) (l20 : K.lookup f20 = some ⟨oc20, od20, .func (PySem.W.fnOf "_law_product" "_law_product" (defArgs s_law_product) (defBody s_law_product) (defScope s_law_product) .none kV20 dc20 pm20 an20 cd20 ct20), sl20⟩) (c20 : PySem.W.codeIn K cd20 "_law_product" = true) (k20 : PySem.W.keepIn K (.ref f20) = true)
    (a21 : PySem.W.nsIn K mainGlobals "_law_refused" = some (some (.ref f21))) (l21 : K.lookup f21 = some ⟨oc21, od21, .func (PySem.W.fnOf "_law_refused" "_law_refused" (defArgs s_law_refused) (defBody s_law_refused) (defScope s_law_refused) .none kV21 dc21 pm21 an21 cd21 ct21), sl21⟩) (c21 : PySem.W.codeIn K cd21 "_law_refused" = true) (k21 : PySem.W.keepIn K (.ref f21) = true)
    (a22 : PySem.W.nsIn K mainGlobals "_law_one" = some (some (.ref f22))) (l22 : K.lookup f22 = some ⟨oc22, od22, .func (PySem.W.fnOf "_law_one" "_law_one" (defArgs s_law_one) (defBody s_law_one) (defScope s_law_one) .none kV22 dc22 pm22 an22 cd22 ct22), sl22⟩) (c22 : PySem.W.codeIn K cd22 "_law_one" = true) (k22 : PySem.W.keepIn K (.ref f22) = true)
    (a23 : PySem.W.nsIn K mainGlobals "_law_spoilt" = some (some (.ref f23))) (l23 : K.lookup f23 = some ⟨oc23, od23, .func (PySem.W.fnOf "_law_spoilt" "_law_spoilt" (defArgs s_law_spoilt) (defBody s_law_spoilt) (defScope s_law_spoilt) .none kV23 dc23 pm23 an23 cd23 ct23), sl23⟩) (c23 : PySem.W.codeIn K cd23 "_law_spoilt" = true) (k23 : PySem.W.keepIn K (.ref f23) = true)
    (a24 : PySem.W.nsIn K mainGlobals "_law_due" = some (some (.ref f24))) (l24 : K.lookup f24 = some ⟨oc24, od24, .func (PySem.W.fnOf "_law_due" "_law_due" (defArgs s_law_due) (defBody s_law_due) (defScope s_law_due) .none kV24 dc24 pm24 an24 cd24 ct24), sl24⟩) (c24 : PySem.W.codeIn K cd24 "_law_due" = true) (k24 : PySem.W.keepIn K (.ref f24) = true)
    (a25 : PySem.W.nsIn K mainGlobals "_law_pair" = some (some (.ref f25))) (l25 : K.lookup f25 = some ⟨oc25, od25, .func (PySem.W.fnOf "_law_pair" "_law_pair" (defArgs s_law_pair) (defBody s_law_pair) (defScope s_law_pair) .none kV25 dc25 pm25 an25 cd25 ct25), sl25⟩) (c25 : PySem.W.codeIn K cd25 "_law_pair" = true) (k25 : PySem.W.keepIn K (.ref f25) = true)
    (a26 : PySem.W.nsIn K mainGlobals "_law_tables_hold" = some (some (.ref f26))) (l26 : K.lookup f26 = some ⟨oc26, od26, .func (PySem.W.fnOf "_law_tables_hold" "_law_tables_hold" (defArgs s_law_tables_hold) (defBody s_law_tables_hold) (defScope s_law_tables_hold) .none kV26 dc26 pm26 an26 cd26 ct26), sl26⟩) (c26 : PySem.W.codeIn K cd26 "_law_tables_hold" = true) (k26 : PySem.W.keepIn K (.ref f26) = true)
    (a27 : PySem.W.nsIn K mainGlobals "law" = some (some (.ref f27))) (l27 : K.lookup f27 = some ⟨oc27, od27, .func (PySem.W.fnOf "law" "law" (defArgs s_law) (defBody s_law) (defScope s_law) .none kV27 dc27 pm27 an27 cd27 ct27), sl27⟩) (c27 : PySem.W.codeIn K cd27 "law" = true) (k27 : PySem.W.keepIn K (.ref f27) = true)
    (z_abs : PySem.W.nsIn K mainGlobals "abs" = some none)
    (z_all : PySem.W.nsIn K mainGlobals "all" = some none)
    (z_enumerate : PySem.W.nsIn K mainGlobals "enumerate" = some none)
    (z_int : PySem.W.nsIn K mainGlobals "int" = some none)
    (z_isinstance : PySem.W.nsIn K mainGlobals "isinstance" = some none)
    (z_len : PySem.W.nsIn K mainGlobals "len" = some none)
    (z_list : PySem.W.nsIn K mainGlobals "list" = some none)
    (z_max : PySem.W.nsIn K mainGlobals "max" = some none)
    (z_min : PySem.W.nsIn K mainGlobals "min" = some none)
    (z_range : PySem.W.nsIn K mainGlobals "range" = some none)
    (z_repr : PySem.W.nsIn K mainGlobals "repr" = some none)
    (z_reversed : PySem.W.nsIn K mainGlobals "reversed" = some none)
    (aM : PySem.W.nsIn K mainGlobals "ModelError" = some (some (.ref CM)))
    (zV : PySem.W.nsIn K mainGlobals "ValueError" = some none)
    (vV : PySem.W.findCls K (.type "ValueError") (.type "type") "__init__" = some (.val (.builtin "ValueError.__init__")))
    (iM : PySem.W.isClsIn K CM = true)
    (tM : PySem.W.typeIn K (.ref CM) = some (.type "type"))
    (bM : PySem.W.subIn K (.ref CM) (.type "BaseException") = some true)
    (iI : PySem.W.findIn K (.ref CM) "__init__" = some (some (.ref fI)))
    (lI : K.lookup fI = some ⟨ocI, odI, .func (PySem.W.fnOf "__init__" "ModelError.__init__" (defArgs s_init) (defBody s_init) (defScope s_init) .none kVI dcI pmI anI cdI ctI), slI⟩)
    (cI : PySem.W.codeIn K cdI "ModelError.__init__" = true)
    (kI : PySem.W.keepIn K (.ref fI) = true)
    (tI : PySem.W.typeIn K (.ref fI) = some (.type "function"))
    (xsp : PySem.W.specialIn K (.builtin "object.__class__") "__get__" = some (some (.builtin "getset_descriptor.__get__")))
    (xtk : PySem.W.takesIn K (.builtin "object.__class__") = some true)
    (e0_a : PySem.W.nsIn K mainGlobals "WrongSize" = some (some (.ref e0_C)))
    (e0_x : K.lookup e0_C = some (excClassObj e0_nm e0_q e0_C e0_N e0_bs [.ref CM, .type "ValueError", .type "Exception", .type "BaseException", .type "object"] true e0_sn e0_sub e0_ab e0_col e0_dd e0_m0 e0_m1 (some (.str e0_nk e0_tk)) e0_m3 e0_m5 "ValueError.__new__"))
    (e0_sz : e0_nk.length ≤ 1000)
    (e0_sa : PySem.W.findIn K (.ref e0_C) "__setattr__" = some (some (.builtin "object.__setattr__")))
    (e0_ga : PySem.W.findIn K (.ref e0_C) "__getattribute__" = some (some (.builtin "BaseException.__getattribute__")))
    (e0_gg : PySem.W.findIn K (.ref e0_C) "__getattr__" = some none)
    (e0_no : PySem.W.findIn K (.ref e0_C) "at" = some none)
    (e0_in : PySem.W.findIn K (.ref e0_C) "__init__" = some (some (.ref fI)))
    (e0_be : PySem.W.subIn K (.ref e0_C) (.type "BaseException") = some true)
    (e0_ty : PySem.W.typeIn K (.ref e0_C) = some (.type "type"))
    (e0_ke : PySem.W.keepIn K (.ref e0_C) = true)
    (e0_hd : PySem.W.hasDictIn K e0_C = true)
    (e0_cl : PySem.W.isClsIn K e0_C = true)
    (e0_at : PySem.W.findIn K (.ref e0_C) "__class__" = some (some (.builtin "object.__class__")))
    (e0_mr : PySem.W.mroIn K e0_C (.type "object") = some true)
    (e0_rd : PySem.W.readsIn K e0_C (.type "type") = true)
    (e0_fc : PySem.W.findCls K (.ref e0_C) (.type "type") "__name__" = some (.get (.builtin "getset_descriptor.__get__") (.builtin "type.__name__") (.ref e0_C) (.type "type")))
    (e0_sM : PySem.W.subIn K (.ref e0_C) (.ref CM) = some true)
    (kpM : PySem.W.kitOne K (.ref e0_C) (.ref CM) = some true) (sS : PySem.W.subIn K (.ref e0_C) (.ref e0_C) = some true)
    (bare : ∀ nm ∈ (["_is_square"] : List Str), LG.Bare mg h nm)
    : ∃ (fd : FuncData) (cs : List (Addr × Addr)) (sp : Sp), (∀ p ∈ cs, h.get? p.2 = some { cls := .none, data := .fields #[] }) ∧ (∀ p ∈ cs, K.lookup p.2 = none) ∧ (∀ p ∈ cs, PySem.W.CodeHd h p.1 p.2) ∧ (∀ (s : Shared) (u : Value), BindsTo s fd ⟨[u], []⟩ [("script", u)]) ∧
        (∀ (H : Hp) (a : Addr) (ns : List Int), ns.length ≤ 63 → (∀ p ∈ cs, H p.2 = some (.tbl #[])) → SqL K H a (ns.map V.int) → sp [.ref a] H (fun v _ => v = .bl true) fun _ _ _ => False) ∧
        ∀ base : Heap, K.In base → base.Ns mainGlobals mg → (∀ p ∈ cs, GxR.TabB base mg p.1 p.2) → LG.FnG l.prog w K mg base CX0 8 fa fd ["script"] sp := by
  have b6 : h.get? P6 = some { cls := .none, data := .fields #[] } ∧ PySem.W.CodeHd h C6 P6 := by
    obtain ⟨b, c, Q, o, fd, m1, m2, m3, m4, m5, m6⟩ := bare "_is_square" (by simp)
    cases m1.symm.trans (PySem.W.mg_of X G a6)
    cases m2.symm.trans (X _ _ l6)
    cases m3
    cases m4
    have m5c := m5
    obtain ⟨o2, vs, _, _, _, _, _, _, _, e1, _, e3, e4, _⟩ := m5c
    cases e1.symm.trans (X _ _ t6)
    cases e3
    cases e4.symm.trans p6
    exact ⟨m6, m5⟩
  have e := hfa.symm.trans (PySem.W.mg_of X G a27)
  cases e
  let T : Txt K mg := {
    trimmed := ⟨_, _, fun_mk (st := s_trimmed) l0 c0 k0, (fun_mk (st := s_trimmed) l0 c0 k0).binds (ps := ["numbers"]) (fun _ _ _ _ _ _ us hl => match us, hl with | [_], _ => rfl), PySem.W.mg_of X G a0⟩
    value := ⟨_, _, fun_mk (st := s_value) l1 c1 k1, (fun_mk (st := s_value) l1 c1 k1).binds (ps := ["one", "at"]) (fun _ _ _ _ _ _ us hl => match us, hl with | [_, _], _ => rfl), PySem.W.mg_of X G a1⟩
    plus := ⟨_, _, fun_mk (st := s_plus) l2 c2 k2, (fun_mk (st := s_plus) l2 c2 k2).binds (ps := ["one", "two"]) (fun _ _ _ _ _ _ us hl => match us, hl with | [_, _], _ => rfl), PySem.W.mg_of X G a2⟩
    times := ⟨_, _, fun_mk (st := s_times) l3 c3 k3, (fun_mk (st := s_times) l3 c3 k3).binds (ps := ["one", "two"]) (fun _ _ _ _ _ _ us hl => match us, hl with | [_, _], _ => rfl), PySem.W.mg_of X G a3⟩
    wording := ⟨_, _, fun_mk (st := s_wording) l4 c4 k4, (fun_mk (st := s_wording) l4 c4 k4).binds (ps := ["name", "at"]) (fun _ _ _ _ _ _ us hl => match us, hl with | [_, _], _ => rfl), PySem.W.mg_of X G a4⟩
    width := ⟨_, _, fun_mk (st := s_width) l5 c5 k5, (fun_mk (st := s_width) l5 c5 k5).binds (ps := ["table"]) (fun _ _ _ _ _ _ us hl => match us, hl with | [_], _ => rfl), PySem.W.mg_of X G a5⟩
    is_square := ⟨_, C6, _, ⟨_, _, _, _, _, _, _, _, _, rfl, l6, c6⟩, k6, (fun_mk (st := s_is_square) l6 c6 k6).binds (ps := ["table"]) (fun _ _ _ _ _ _ us hl => match us, hl with | [_], _ => rfl), PySem.W.mg_of X G a6⟩
    value_at := ⟨_, _, fun_mk (st := s_value_at) l7 c7 k7, (fun_mk (st := s_value_at) l7 c7 k7).binds (ps := ["table", "at"]) (fun _ _ _ _ _ _ us hl => match us, hl with | [_, _], _ => rfl), PySem.W.mg_of X G a7⟩
    cell := ⟨_, _, fun_mk (st := s_cell) l8 c8 k8, (fun_mk (st := s_cell) l8 c8 k8).binds (ps := ["row", "two", "j"]) (fun _ _ _ _ _ _ us hl => match us, hl with | [_, _, _], _ => rfl), PySem.W.mg_of X G a8⟩
    product := ⟨_, _, fun_mk (st := s_product) l9 c9 k9, (fun_mk (st := s_product) l9 c9 k9).binds (ps := ["one", "two"]) (fun _ _ _ _ _ _ us hl => match us, hl with | [_, _], _ => rfl), PySem.W.mg_of X G a9⟩
    multiple_of := ⟨_, _, fun_mk (st := s_multiple_of) l10 c10 k10, (fun_mk (st := s_multiple_of) l10 c10 k10).binds (ps := ["table"]) (fun _ _ _ _ _ _ us hl => match us, hl with | [_], _ => rfl), PySem.W.mg_of X G a10⟩
    law_draws := ⟨_, _, fun_mk (st := s_law_draws) l11 c11 k11, (fun_mk (st := s_law_draws) l11 c11 k11).binds (ps := ["script"]) (fun _ _ _ _ _ _ us hl => match us, hl with | [_], _ => rfl), PySem.W.mg_of X G a11⟩
    law_at := ⟨_, _, fun_mk (st := s_law_at) l12 c12 k12, (fun_mk (st := s_law_at) l12 c12 k12).binds (ps := ["draws", "k", "many"]) (fun _ _ _ _ _ _ us hl => match us, hl with | [_, _, _], _ => rfl), PySem.W.mg_of X G a12⟩
    law_number := ⟨_, _, fun_mk (st := s_law_number) l13 c13 k13, (fun_mk (st := s_law_number) l13 c13 k13).binds (ps := ["draws", "k"]) (fun _ _ _ _ _ _ us hl => match us, hl with | [_, _], _ => rfl), PySem.W.mg_of X G a13⟩
    law_poly := ⟨_, _, fun_mk (st := s_law_poly) l14 c14 k14, (fun_mk (st := s_law_poly) l14 c14 k14).binds (ps := ["draws", "k", "most"]) (fun _ _ _ _ _ _ us hl => match us, hl with | [_, _, _], _ => rfl), PySem.W.mg_of X G a14⟩
    law_plus := ⟨_, _, fun_mk (st := s_law_plus) l15 c15 k15, (fun_mk (st := s_law_plus) l15 c15 k15).binds (ps := ["one", "two"]) (fun _ _ _ _ _ _ us hl => match us, hl with | [_, _], _ => rfl), PySem.W.mg_of X G a15⟩
    law_times := ⟨_, _, fun_mk (st := s_law_times) l16 c16 k16, (fun_mk (st := s_law_times) l16 c16 k16).binds (ps := ["one", "two"]) (fun _ _ _ _ _ _ us hl => match us, hl with | [_, _], _ => rfl), PySem.W.mg_of X G a16⟩
    law_value := ⟨_, _, fun_mk (st := s_law_value) l17 c17 k17, (fun_mk (st := s_law_value) l17 c17 k17).binds (ps := ["one", "at"]) (fun _ _ _ _ _ _ us hl => match us, hl with | [_, _], _ => rfl), PySem.W.mg_of X G a17⟩
    law_long := ⟨_, _, fun_mk (st := s_law_long) l18 c18 k18, (fun_mk (st := s_law_long) l18 c18 k18).binds (ps := ["step", "i", "j"]) (fun _ _ _ _ _ _ us hl => match us, hl with | [_, _, _], _ => rfl), PySem.W.mg_of X G a18⟩
    law_table := ⟨_, _, fun_mk (st := s_law_table) l19 c19 k19, (fun_mk (st := s_law_table) l19 c19 k19).binds (ps := ["draws", "k", "rows", "columns", "long"]) (fun _ _ _ _ _ _ us hl => match us, hl with | [_, _, _, _, _], _ => rfl), PySem.W.mg_of X G a19⟩
    law_product := ⟨_, _, fun_mk (st := s_law_product) l20 c20 k20, (fun_mk (st := s_law_product) l20 c20 k20).binds (ps := ["one", "two", "columns"]) (fun _ _ _ _ _ _ us hl => match us, hl with | [_, _, _], _ => rfl), PySem.W.mg_of X G a20⟩
    law_refused := ⟨_, _, fun_mk (st := s_law_refused) l21 c21 k21, (fun_mk (st := s_law_refused) l21 c21 k21).binds (ps := ["one", "two"]) (fun _ _ _ _ _ _ us hl => match us, hl with | [_, _], _ => rfl), PySem.W.mg_of X G a21⟩
    law_one := ⟨_, _, fun_mk (st := s_law_one) l22 c22 k22, (fun_mk (st := s_law_one) l22 c22 k22).binds (ps := ["many", "number"]) (fun _ _ _ _ _ _ us hl => match us, hl with | [_, _], _ => rfl), PySem.W.mg_of X G a22⟩
    law_spoilt := ⟨_, _, fun_mk (st := s_law_spoilt) l23 c23 k23, (fun_mk (st := s_law_spoilt) l23 c23 k23).binds (ps := ["draws", "table", "number"]) (fun _ _ _ _ _ _ us hl => match us, hl with | [_, _, _], _ => rfl), PySem.W.mg_of X G a23⟩
    law_due := ⟨_, _, fun_mk (st := s_law_due) l24 c24 k24, (fun_mk (st := s_law_due) l24 c24 k24).binds (ps := ["table"]) (fun _ _ _ _ _ _ us hl => match us, hl with | [_], _ => rfl), PySem.W.mg_of X G a24⟩
    law_pair := ⟨_, _, fun_mk (st := s_law_pair) l25 c25 k25, (fun_mk (st := s_law_pair) l25 c25 k25).binds (ps := ["draws", "many", "number"]) (fun _ _ _ _ _ _ us hl => match us, hl with | [_, _, _], _ => rfl), PySem.W.mg_of X G a25⟩
    law_tables_hold := ⟨_, _, fun_mk (st := s_law_tables_hold) l26 c26 k26, (fun_mk (st := s_law_tables_hold) l26 c26 k26).binds (ps := ["draws"]) (fun _ _ _ _ _ _ us hl => match us, hl with | [_], _ => rfl), PySem.W.mg_of X G a26⟩
    law := ⟨_, _, fun_mk (st := s_law) l27 c27 k27, (fun_mk (st := s_law) l27 c27 k27).binds (ps := ["script"]) (fun _ _ _ _ _ _ us hl => match us, hl with | [_], _ => rfl), PySem.W.mg_of X G a27⟩
    m_abs := PySem.W.mg_none_of X G z_abs
    m_all := PySem.W.mg_none_of X G z_all
    m_enumerate := PySem.W.mg_none_of X G z_enumerate
    m_int := PySem.W.mg_none_of X G z_int
    m_isinstance := PySem.W.mg_none_of X G z_isinstance
    m_len := PySem.W.mg_none_of X G z_len
    m_list := PySem.W.mg_none_of X G z_list
    m_max := PySem.W.mg_none_of X G z_max
    m_min := PySem.W.mg_none_of X G z_min
    m_range := PySem.W.mg_none_of X G z_range
    m_repr := PySem.W.mg_none_of X G z_repr
    m_reversed := PySem.W.mg_none_of X G z_reversed
  }
  let E : Errs K mg := {
    e0 := ⟨CM, fI, _, fun_mk (st := s_init) lI cI kI, (fun_mk (st := s_init) lI cI kI).binds (ps := ["self", "at"]) (fun _ _ _ _ _ _ us hl => match us, hl with | [_, _], _ => rfl), tI, PySem.W.mg_of X G aM, PySem.W.mg_none_of X G zV, vV⟩
    WrongSize := { C := e0_C, nm := e0_nk, named := ⟨⟨e0_cl, e0_ga, e0_gg, e0_be, e0_at, xsp, xtk, e0_mr⟩, e0_rd, e0_fc, e0_ty, ⟨_, _, e0_x, rfl⟩, e0_sz⟩, oex := ⟨⟨_, _, _, _, _, _, _, _, _, _, _, _, _, _, _, e0_x, LX.refs_one _⟩, e0_sa, e0_be, e0_ty, e0_ke⟩, noAt := e0_no, iC := e0_in, g := PySem.W.mg_of X G e0_a, exm := LX.exm_is bM iM tM e0_sM, kit := LX.kit_self _ _, xf := ⟨e0_ga, e0_gg, e0_be, e0_hd⟩ }
    exS := LX.exm_is e0_be e0_cl e0_ty sS
    kitM := kpM
  }
  refine ⟨PySem.W.fnOf "law" "law" (defArgs s_law) (defBody s_law) (defScope s_law) .none kV27 dc27 pm27 an27 cd27 ct27, [(C6, P6)], sp_law K P6, ?_, ?_, ?_, fun s v => .of_eq rfl, fun H a ns hl ht hS => ?_, fun base _ _ tb => ok_law T E (tb (C6, P6) (by simp))⟩
  · intro p hp; simp only [List.mem_cons, List.not_mem_nil, or_false] at hp; subst hp
    · exact b6.1
  · intro p hp; simp only [List.mem_cons, List.not_mem_nil, or_false] at hp; subst hp
    · exact n6
  · intro p hp; simp only [List.mem_cons, List.not_mem_nil, or_false] at hp; subst hp
    · exact b6.2
  · exact ⟨a, ns, rfl, hS, hl, ⟨#[], ht (C6, P6) (by simp), trivial⟩, fun _ => rfl⟩
end
end K01

open PySem PySem.W PyProof.Rows in
set_option maxRecDepth 100000 in
set_option maxHeartbeats 0 in
theorem PySem.Challenge.cw_unsaidsizes_k01_tables_and_products_holds : PySem.Challenge.rw_unsaidsizes_k01_tables_and_products.Holds := by
  w_on; o_law; k_head; (case hw => w_witness2)
  k_fill
  refine LG.walkGT (l := PySem.Challenge.rw_unsaidsizes_k01_tables_and_products) (n := 63) (k := 8) (x := "script") ["_is_square"] rfl (by decide) rfl ⟨rfl, by decide, by decide⟩ (by kernel_rfl) (fun w h Y => PySem.W.kIn_of Y) ?F
  case F =>
    intro w mg fa h KX G hmg bare
    refine' K01.all_mk KX G hmg ?a0 ?l0 ?c0 ?k0 ?a1 ?l1 ?c1 ?k1 ?a2 ?l2 ?c2 ?k2 ?a3 ?l3 ?c3 ?k3 ?a4 ?l4 ?c4 ?k4 ?a5 ?l5 ?c5 ?k5 ?a6 ?l6 ?c6 ?k6 ?t6 ?p6 ?n6 ?a7 ?l7 ?c7 ?k7 ?a8 ?l8 ?c8 ?k8 ?a9 ?l9 ?c9 ?k9 ?a10 ?l10 ?c10 ?k10 ?a11 ?l11 ?c11 ?k11 ?a12 ?l12 ?c12 ?k12 ?a13 ?l13 ?c13 ?k13 ?a14 ?l14 ?c14 ?k14 ?a15 ?l15 ?c15 ?k15 ?a16 ?l16 ?c16 ?k16 ?a17 ?l17 ?c17 ?k17 ?a18 ?l18 ?c18 ?k18 ?a19 ?l19 ?c19 ?k19 ?a20 ?l20 ?c20 ?k20 ?a21 ?l21 ?c21 ?k21 ?a22 ?l22 ?c22 ?k22 ?a23 ?l23 ?c23 ?k23 ?a24 ?l24 ?c24 ?k24 ?a25 ?l25 ?c25 ?k25 ?a26 ?l26 ?c26 ?k26 ?a27 ?l27 ?c27 ?k27 ?z_abs ?z_all ?z_enumerate ?z_int ?z_isinstance ?z_len ?z_list ?z_max ?z_min ?z_range ?z_repr ?z_reversed ?aM ?zV ?vV ?iM ?tM ?bM ?iI ?lI ?cI ?kI ?tI ?xsp ?xtk ?e0_a ?e0_x ?e0_sz ?e0_sa ?e0_ga ?e0_gg ?e0_no ?e0_in ?e0_be ?e0_ty ?e0_ke ?e0_hd ?e0_cl ?e0_at ?e0_mr ?e0_rd ?e0_fc ?e0_sM ?kpM ?sS bare
    (case a0 => k_is)
    (case l0 => k_is)
    (case c0 => k_is)
    (case k0 => k_is)
    (case a1 => k_is)
    (case l1 => k_is)
    (case c1 => k_is)
    (case k1 => k_is)
    (case a2 => k_is)
    (case l2 => k_is)
    (case c2 => k_is)
    (case k2 => k_is)
    (case a3 => k_is)
    (case l3 => k_is)
    (case c3 => k_is)
    (case k3 => k_is)
    (case a4 => k_is)
    (case l4 => k_is)
    (case c4 => k_is)
    (case k4 => k_is)
    (case a5 => k_is)
    (case l5 => k_is)
    (case c5 => k_is)
    (case k5 => k_is)
    (case a6 => k_is)
    (case l6 => k_is)
    (case c6 => k_is)
    (case k6 => k_is)
    (case t6 => k_is)
    (case p6 => rfl)
    (case n6 => first | kernel_rfl | rfl)
    (case a7 => k_is)
    (case l7 => k_is)
    (case c7 => k_is)
    (case k7 => k_is)
    (case a8 => k_is)
    (case l8 => k_is)
    (case c8 => k_is)
    (case k8 => k_is)
    (case a9 => k_is)
    (case l9 => k_is)
    (case c9 => k_is)
    (case k9 => k_is)
    (case a10 => k_is)
    (case l10 => k_is)
    (case c10 => k_is)
    (case k10 => k_is)
    (case a11 => k_is)
    (case l11 => k_is)
    (case c11 => k_is)
    (case k11 => k_is)
    (case a12 => k_is)
    (case l12 => k_is)
    (case c12 => k_is)
    (case k12 => k_is)
    (case a13 => k_is)
    (case l13 => k_is)
    (case c13 => k_is)
    (case k13 => k_is)
    (case a14 => k_is)
    (case l14 => k_is)
    (case c14 => k_is)
    (case k14 => k_is)
    (case a15 => k_is)
    (case l15 => k_is)
    (case c15 => k_is)
    (case k15 => k_is)
    (case a16 => k_is)
    (case l16 => k_is)
    (case c16 => k_is)
    (case k16 => k_is)
    (case a17 => k_is)
    (case l17 => k_is)
    (case c17 => k_is)
    (case k17 => k_is)
    (case a18 => k_is)
    (case l18 => k_is)
    (case c18 => k_is)
    (case k18 => k_is)
    (case a19 => k_is)
    (case l19 => k_is)
    (case c19 => k_is)
    (case k19 => k_is)
    (case a20 => k_is)
    (case l20 => k_is)
    (case c20 => k_is)
    (case k20 => k_is)
    (case a21 => k_is)
    (case l21 => k_is)
    (case c21 => k_is)
    (case k21 => k_is)
    (case a22 => k_is)
    (case l22 => k_is)
    (case c22 => k_is)
    (case k22 => k_is)
    (case a23 => k_is)
    (case l23 => k_is)
    (case c23 => k_is)
    (case k23 => k_is)
    (case a24 => k_is)
    (case l24 => k_is)
    (case c24 => k_is)
    (case k24 => k_is)
    (case a25 => k_is)
    (case l25 => k_is)
    (case c25 => k_is)
    (case k25 => k_is)
    (case a26 => k_is)
    (case l26 => k_is)
    (case c26 => k_is)
    (case k26 => k_is)
    (case a27 => k_is)
    (case l27 => k_is)
    (case c27 => k_is)
    (case k27 => k_is)
    (case z_abs => k_is)
    (case z_all => k_is)
    (case z_enumerate => k_is)
    (case z_int => k_is)
    (case z_isinstance => k_is)
    (case z_len => k_is)
    (case z_list => k_is)
    (case z_max => k_is)
    (case z_min => k_is)
    (case z_range => k_is)
    (case z_repr => k_is)
    (case z_reversed => k_is)
    (case aM => k_is)
    (case zV => k_is)
    (case vV => k_is)
    (case iM => k_is)
    (case tM => k_is)
    (case bM => k_is)
    (case iI => k_is)
    (case lI => k_is)
    (case cI => k_is)
    (case kI => k_is)
    (case tI => k_is)
    (case xsp => k_is)
    (case xtk => k_is)
    (case e0_a => k_is)
    (case e0_x => k_is)
    (case e0_sz => decide +kernel)
    (case e0_sa => k_is)
    (case e0_ga => k_is)
    (case e0_gg => k_is)
    (case e0_no => k_is)
    (case e0_in => k_is)
    (case e0_be => k_is)
    (case e0_ty => k_is)
    (case e0_ke => k_is)
    (case e0_hd => k_is)
    (case e0_cl => k_is)
    (case e0_at => k_is)
    (case e0_mr => k_is)
    (case e0_rd => k_is)
    (case e0_fc => k_is)
    (case e0_sM => k_is)
    (case kpM => kit_is)
    (case sS => k_is)
