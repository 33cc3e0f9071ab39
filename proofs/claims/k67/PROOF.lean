import PyProof.Rows.All
import Wide.All
import OpenK.AllK
import Wide.FinOn
import KE.KTypeName
import KE.KExcIs
import PyProof.FitsInt
import HandS.Base
import HandS.Call
import HandS.List
import HandS.Comp
import HandS.Ends
import HandS.Iter
import HandS.Wide
import HandS.WideBits
import HandS.Gcd
import HandS.Words
import HandS.WordsList
import HandS.WordsExc
import HandS.IsInst
import HandS.TupLe
import HandS.Exc
import HandS.ExcOwn
import HandS.ExcInit
import HandS.ExcField
import HandS.FStr
import KE.KNest
import PyProof.ReprRoads
import PyProof.StrLawsRepr
import PyProof.StrBlock2
import HandS.Nested
import HandS.AnyAll
import HandS.EndBits
import HandS.SetBool
import HandS.Deep
import HandS.Walk
import HandS.Set
import HandS.Strs
import PyProof.ListOps
import PyProof.Rows.SetFrom
import PyProof.SumAny
import HandS.TryOnly
import HandS.Conv
import HandS.GenOver
import PyProof.FitsInt
import HandS.RevRange
import PySem.Challenge.RW_unsaidsizes_k67_equations_solved
import KE.KMathG
import KE.RegKMathG
set_option Elab.async false
set_option linter.all false
set_option maxRecDepth 100000
set_option maxHeartbeats 8000000
-- G
/-! calls under which no text of a list is being made (for repr of lists) -/
namespace LG
open PySem PySem.Spec PyProof.Rows L2
/-- as FnOk, for callers of which it is known that no guard stands -/
structure FnG (P : Program) (w : World) (K : PySem.W.Frag) (mg : Str → Option Value) (base : Heap) (CX : CXT) (k : Nat) (f : Addr) (fd : FuncData) (ps : List Str) (sp : Sp) : Prop where
  len : ∀ vs H Q E, sp vs H Q E → vs.length = ps.length
  run : ∀ (A : Around) (ou : List Env) (s : Shared) (H : Hp) (ar : Args) (us : List Value) (vs : List V) (Q : VK) (E : XK), Room k A → A.guards = some [] → Env0 P w K mg base A ou s H →
    BindsTo s fd ar (ps.zip us) → Vals vs us → sp vs H Q E → codeAny (model P w) A (.call (.ref f) ar) (CR CX ou P w H s Q E) s
section
variable {P : Program} {w : World} {K : PySem.W.Frag} {mg : Str → Option Value} {base : Heap} {CX : CXT} {k : Nat} {f : Addr} {fd : FuncData} {ps : List Str} {sp : Sp}
theorem deeper_guards {A : Around} (e : Env) (h : A.guards = some []) : (A.deeper e).guards = some [] := h
theorem g_of_ok (F : FnOk P w K mg base CX k f fd ps sp) : FnG P w K mg base CX k f fd ps sp := ⟨F.len, fun A ou s H ar us vs Q E hr _ => F.run A ou s H ar us vs Q E hr⟩

/-- a def's body keeps its promise, under known guards -/
theorem fnG_of {nm qu : Str} {pa : Arguments} {bo : List Stmt} {sc : Scope} {dv kv dc pm cd ct oc : Value} {an od : Option Addr} {sl : Array (Option Value)} {N : List Str}
    (hf : K.lookup f = some ⟨oc, od, .func (PySem.W.fnOf nm qu pa bo sc dv kv dc pm an cd ct), sl⟩) (hq : PySem.W.codeIn K cd qu = true) (S : FnScope N ps sc) (ln : ∀ vs H Q E, sp vs H Q E → vs.length = ps.length)
    (hb : ∀ (A : Around) (ou : List Env) (s : Shared) (H : Hp) (vs : List V) (Q : VK) (E : XK), Room k (A.deeper (envOfC qu sc s.heap.objs.size f cd)) → A.guards = some [] → sp vs H Q E →
      ∃ t, PSs (cxOf CX P w K mg base N qu sc f cd A ou s H E) bo t ∧ t { nx := fun _ G => Q .non G, rt := Q } (L2.start N vs) H) :
    FnG P w K mg base CX (k + 1) f (PySem.W.fnOf nm qu pa bo sc dv kv dc pm an cd ct) ps sp := by
  refine ⟨ln, fun A ou s H ar us vs Q E room gd en bd rel want => ?_⟩
  have there : K.In s.heap := en.mod.kin.keeps fun b o z => (en.bs b o z).1
  have nl : s.heap.NoLimit := en.mod.nolimit.keeps fun b o z => (en.bs b o z).1
  refine codeAny_call_function room.depth (there _ _ hf) rfl S.co S.gen rfl (PySem.W.codeRec_of there hq) (bd _ _ _ _ ?_)
  refine wpAny_newFunctionEnv_cells S.kind (fun y hy => ?_) fun env eenv s1 x => ?_
  · obtain ⟨n, v⟩ := y
    exact (S.par n (List.of_mem_zip hy).1).imp id fun q => ⟨q, PySem.W.cellsFrom_some _ _ _ (.inl q)⟩
  subst eenv
  refine ⟨nl.keeps x.toInCall.keep, codeAny_func ?_⟩
  obtain ⟨t, ht, hw⟩ := hb A ou s H vs Q E (room.deeper _) gd want
  have J0 := inv_start (CX := CX) (E := E) S room.hd en (ln _ _ _ _ want) rel x
  refine wpAny_mono (ht.run [] s1 (L2.start N vs) H _ J0 hw) (fun fl s' hs => ?_) fun e s' hs => hs
  cases fl with
  | brk => exact False.elim hs.choose_spec.choose_spec.2
  | cont => exact False.elim hs.choose_spec.choose_spec.2
  | ret u =>
    obtain ⟨v, _, G, J, rv, q⟩ := hs
    exact ⟨v, G, J.os, J.bare, J.base, J.hok, rv, q⟩
  | next =>
    obtain ⟨_, G, J, q⟩ := hs
    exact ⟨V.non, G, J.os, J.bare, J.base, J.hok, rfl, q⟩
/-- .. by the text -/
theorem fun_okG {x qual : Str} {st : Stmt} {N : List Str} (F : Fun K x qual st f fd) (S : FnScope N ps (defScope st)) (ln : ∀ vs H Q E, sp vs H Q E → vs.length = ps.length)
    (hb : ∀ (cd : Value) (A : Around) (ou : List Env) (s : Shared) (H : Hp) (vs : List V) (Q : VK) (E : XK), Room k (A.deeper (envOfC qual (defScope st) s.heap.objs.size f cd)) → A.guards = some [] → sp vs H Q E →
      ∃ t, PSs (cxOf CX0 P w K mg base N qual (defScope st) f cd A ou s H E).nox (defBody st) t ∧ t { nx := fun _ G => Q .non G, rt := Q } (L2.start N vs) H) : FnG P w K mg base CX0 (k + 1) f fd ps sp := by
  obtain ⟨oc, od, kV, doc, pm, an, cd, ct, osl, rfl, lk, hc⟩ := F.ex
  refine fnG_of lk hc S ln fun A ou s H vs Q E hr hg want => ?_
  obtain ⟨t, h, q⟩ := hb cd A ou s H vs Q E hr hg want
  exact ⟨t, h.nox, q⟩
end
section
variable {X : Cx} {CX : CXT} {k : Nat} {f : Addr} {fd : FuncData} {ps : List Str} {sp : Sp} {dvs : List V} {ds : List Value} {E : XK} {x : Str} {p pos : Pos} {e : Expr} {es : List Expr} {t : TA}
theorem pe_callG (F : FnG X.prog X.w X.K X.mg X.base CX k f fd ps sp) (hr : Room k X.A) (gd : X.A.guards = some []) (hg : Gl X x) (hm : X.mg x = some (.ref f)) (hk : PySem.W.keepIn X.K (.ref f) = true) (hb : Binds X.K fd ps ds) (hd : Vals dvs ds) (hx : Passes CX X E)
    (ha : PA X (e :: es) t) (hdb : (x == ("__debug__" : Str)) = false := by decide) (he : starEach (e :: es) X.env = (false, eval e X.env) :: starEach es X.env := by rfl) (hpl : (backTo pos (starEach es X.env)).any (·.1) = false := by rfl) :
    PE X (.Call (.Name x p) (e :: es) [] pos) (tCall sp dvs E t) := by
  refine ⟨fun pins s σ H Q I h => wpAny_Call_Name_kw (ld_glob I hg hm ?_ hdb)⟩
  refine PySem.W.callWith_K (h₀ := X.base) I.ok.mod.kin hk (thn (ha.run pos pins s σ H _ I h) fun us s1 ⟨vs, H1, J, r, q⟩ => ⟨J.kIn, ?_⟩) he hpl
  have r2 : Vals (vs ++ dvs) (us ++ ds) := r.append hd
  have ll : (us ++ ds).length = ps.length := by
    rw [← r2.length]
    exact F.len _ _ _ _ q
  refine wpAny_call (codeAny_mono (F.run X.A X.stack s1 H1 ⟨us, []⟩ (us ++ ds) (vs ++ dvs) Q E hr gd J.env0 (hb s1 us J.kIn ll) r2 q) fun r s' z => ?_)
  cases r with
  | error er => exact hx pins σ H1 s1 er s' J z
  | ok fl =>
    cases fl with
    | ret u => exact J.after z
    | next => exact False.elim z
    | brk => exact False.elim z
    | cont => exact False.elim z
/-- repr of nested data -/
theorem call_reprD (gd : X.A.guards = some []) (hu : X.A.units + 64 < cLine) : CallR X (.builtin "repr") (fun xs H Q => ∃ (a : Addr) (d : PyData), xs = [.ref a] ∧ Dp X.K H (.ref a) d ∧ d.showable = true ∧ d.hasDict = false ∧ d.depth ≤ 60 ∧ d.shown.length ≤ sizeLine ∧ Q (.str d.shown) H) := by
  intro pins s σ H xs us Q I r h
  obtain ⟨a, d, rfl, hd, h1, h2, h3, h4, q⟩ := h
  obtain ⟨u, rfl, e⟩ := vals1 r
  cases (show u = Value.ref a from e)
  obtain ⟨as, rd⟩ := Dp.reads I d (.ref a) (.ref a) hd rfl
  refine PySem.repr_of_reads' rd h1 (fun z => by rw [h2] at z; cases z) gd (by omega) (fun _ _ z => z) (fun h' u tk k => ?_) h4
  exact ⟨.str _, H, I.kept (t' := tk) k, ⟨u, rfl⟩, q⟩
end

/-! the law's own call -/
section
variable {P : Program} {w : World} {K : PySem.W.Frag} {mg mb : Str → Option Value} {k : Nat} {fa a : Addr} {fd : FuncData} {x : Str} {sp : Sp} {s₁ : Shared} {vs : List Value} {ns : List Int}
/-- from one abstract heap, in which the script alone may stand -/
theorem enter (KX : K.In s₁.heap) (gl : s₁.heap.Ns mainGlobals mg) (bl : s₁.heap.Ns builtinsNs mb) (bb : ∀ y : Str, y ≠ "__name__" → mb y = bootBuiltins y) (nl : s₁.heap.NoLimit) (g0 : s₁.gens = #[])
    (at_ : s₁.heap.get? a = some { cls := .type "list", data := .seq vs.toArray }) (room : Room k callerA) (bind : ∀ (s : Shared) (u : Value), BindsTo s fd ⟨[u], []⟩ [(x, u)])
    (F : ∀ base : Heap, K.In base → base.Ns mainGlobals mg → FnG P w K mg base CX0 k fa fd [x] sp) {H : Hp} (only : Only H) (ok : HOk P w H s₁.heap) (alone : ∀ b, H b ≠ none → b = a) (notK : H a ≠ none → K.lookup a = none)
    (want : sp [.ref a] H (fun v _ => v = .bl true) fun _ _ _ => False) :
    codeAny (model P w) callerA (.call (.ref fa) ⟨[.ref a], []⟩) (fun r s' => r = .ok (.ret (.bool true)) ∧ OldK s₁.heap s'.heap ∧ s'.os = s₁.os ∧ AllBare s'.gens) s₁ := by
  have free : ∀ {b : Addr} {o : Obj}, s₁.heap.get? b = some o → (∀ it n, o.data ≠ .seq it n) → H b = none := fun {b o} z nd => by
    cases q : H b with
    | none => rfl
    | some u =>
      obtain rfl := alone b (by rw [q]; exact fun y => nomatch y)
      rw [at_] at z
      cases z
      exact absurd rfl (nd vs.toArray _)
  have nsOf : ∀ {b : Addr} {m : Str → Option Value}, s₁.heap.Ns b m → (hidT s₁.heap H).Ns b m := fun {b m} ⟨o, es, ep, z, d, r⟩ =>
    ⟨o, es, ep, hidT_get z (free z fun it n y => by rw [d] at y; exact nomatch y), d, r⟩
  have inB : K.In (hidT s₁.heap H) := fun b o z => by
    refine hidT_get (KX b o z) ?_
    cases q : H b with
    | none => rfl
    | some u =>
      obtain rfl := alone b (by rw [q]; exact fun y => nomatch y)
      rw [notK (by rw [q]; exact fun y => nomatch y)] at z
      cases z
  have md : Mod K mg (hidT s₁.heap H) := ⟨inB, nsOf gl, ⟨mb, nsOf bl, bb⟩, let ⟨mc, y1, y2⟩ := nl; ⟨mc, nsOf y1, y2⟩⟩
  have en : Env0 P w K mg (hidT s₁.heap H) callerA [] s₁ H := ⟨rfl, md, fun b o z => of_hidT z, Nat.le_of_eq (hidT_size _ _), trivial, fun b z => absurd (show b ∈ ([] : List Addr) from z) (List.not_mem_nil), ok, .of_eq g0⟩
  refine codeAny_mono ((F _ inB (nsOf gl)).run callerA [] s₁ H ⟨[.ref a], []⟩ [.ref a] [.ref a] _ _ room rfl en (bind s₁ (.ref a)) (.cons rfl .nil) want) fun r s' h => ?_
  cases r with
  | error e => exact False.elim h
  | ok fl =>
    cases fl with
    | next => exact False.elim h
    | brk => exact False.elim h
    | cont => exact False.elim h
    | ret u =>
      obtain ⟨v, G, e1, e2, un, okG, rel, q⟩ := h
      obtain rfl : v = V.bl true := q
      obtain rfl : u = Value.bool true := rel
      refine ⟨rfl, OldK.of_keep fun b o z => ?_, e1, e2⟩
      cases q : H b with
      | none => exact un.keep b o z q (fun y => nomatch y) (fun y => nomatch y)
      | some u =>
        rcases only b with y | ⟨ob, xs, y⟩
        · rw [q] at y
          cases y
        · have z1 := (ok b _ y).1
          have z2 := (okG b _ (un.frzs b ob _ y)).1
          rw [z] at z1
          cases z1
          exact z2

theorem enter_all (KX : K.In s₁.heap) (gl : s₁.heap.Ns mainGlobals mg) (bl : s₁.heap.Ns builtinsNs mb) (bb : ∀ y : Str, y ≠ "__name__" → mb y = bootBuiltins y) (nl : s₁.heap.NoLimit) (g0 : s₁.gens = #[])
    (at_ : s₁.heap.get? a = some { cls := .type "list", data := .seq vs.toArray }) (ia : IntsAre vs ns) (small : ns.length ≤ sizeLine) (room : Room k callerA) (bind : ∀ (s : Shared) (u : Value), BindsTo s fd ⟨[u], []⟩ [(x, u)])
    (F : ∀ base : Heap, K.In base → base.Ns mainGlobals mg → FnG P w K mg base CX0 k fa fd [x] sp) (want : ∀ H : Hp, Only H → SqL K H a (ns.map V.int) → sp [.ref a] H (fun v _ => v = .bl true) fun _ _ _ => False) :
    codeAny (model P w) callerA (.call (.ref fa) ⟨[.ref a], []⟩) (fun r s' => r = .ok (.ret (.bool true)) ∧ OldK s₁.heap s'.heap ∧ s'.os = s₁.os ∧ AllBare s'.gens) s₁ := by
  have rel := vals_ints ia
  cases hk : K.lookup a with
  | some o =>
    have z := KX a o hk
    rw [at_] at z
    cases z
    have only : Only (fun _ => none) := fun _ => .inl rfl
    have len := ia.length
    exact enter KX gl bl bb nl g0 at_ room bind F only (fun b u z => by cases z) (fun b z => absurd rfl z) (fun z => absurd rfl z)
      (want _ only (.inr ⟨_, vs.toArray, _, hk, rfl, rfl, rfl, by rw [List.size_toArray, len]; exact small, by simpa using rel⟩))
  | none =>
    let ob : Obj := { cls := .type "list", data := .seq vs.toArray }
    let H : Hp := fun b => if b = a then some (.frz ob (.lst (ns.map V.int))) else none
    have hit : H a = some (.frz ob (.lst (ns.map V.int))) := if_pos rfl
    have one : ∀ b, H b ≠ none → b = a := fun b z => by
      by_cases e : b = a
      · exact e
      · exact absurd (if_neg e) z
    have only : Only H := fun b => by
      by_cases e : b = a
      · exact .inr ⟨ob, ns.map V.int, if_pos e⟩
      · exact .inl (if_neg e)
    refine enter KX gl bl bb nl g0 at_ room bind F only (fun b u z => ?_) one (fun _ => hk) (want H only (.inl (.inr ⟨ob, hit⟩)))
    obtain rfl := one b (by rw [z]; exact fun y => nomatch y)
    rw [hit] at z
    cases z
    exact ⟨at_, by rw [List.length_map]; exact small, vs, _, rel, at_⟩
end
/-- what k_head leaves, from the law's promise -/
theorem walkG {l : PySem.W.OpenLaw} {n k : Nat} {q : Program} {loose : List Str} {XP : (Str → Option Value) → Heap → Prop} {YP : World → Heap → Prop} {d : DefRec} {K : Params → PySem.W.Frag} {sp : PySem.W.Frag → Sp} {x : Str}
    (hn : l.most = some n) (hz : n ≤ sizeLine) (hdf : d.params.defaults = []) (room : Room k callerA) (hY : ∀ (w : World) (h : Heap), YP w h → (K w.params).In h)
    (F : ∀ (w : World) (mg : Str → Option Value) (fa : Addr) (h : Heap), (K w.params).In h → h.Ns mainGlobals mg → mg d.name = some (.ref fa) →
      ∃ fd : FuncData, (∀ (s : Shared) (u : Value), BindsTo s fd ⟨[u], []⟩ [(x, u)]) ∧ ∀ base : Heap, (K w.params).In base → base.Ns mainGlobals mg → FnG l.prog w (K w.params) mg base CX0 k fa fd [x] (sp (K w.params)))
    (want : ∀ (K : PySem.W.Frag) (H : Hp) (a : Addr) (ns : List Int), ns.length ≤ n → Only H → SqL K H a (ns.map V.int) → sp K [.ref a] H (fun v _ => v = .bl true) fun _ _ _ => False) :
    PySem.W.WalkO q loose XP YP l.row.toRowW d [] (fun f vs => PySem.call f vs) := by
  refine Att.attach_call hn hdf fun w s0 s1 mg mb fa o pm cd doc a vs ns G Y ho hd hcd hmg hobj ia len g0 => ?_
  obtain ⟨fd, bi, FF⟩ := F w mg fa _ (hY w _ Y) G.T.g hmg
  exact enter_all (hY w _ Y) G.T.g G.T.b G.T.builtins G.T.nolimit g0 hobj ia (Nat.le_trans len hz) room bi FF fun H only hs => want _ H a ns len only hs
end LG
-- GL
/-! elements of generator expressions that call nothing of the text: values by names, under whatever frames -/
namespace LE
open PySem PySem.Spec PyProof.Rows L2
/-- where such an element is reckoned: the names that it sees, what stands as the def that holds it had it -/
structure Site (X : Cx) (sc : Scope) (H : Hp) (Γ : List (Str × V)) (ce : Env) (t : Shared) : Prop where
  fn : sc.kind = .function
  eqs : ce.scope = sc
  gl : ce.globals = mainGlobals
  bl : ce.builtins = builtinsNs
  mod : Mod X.K X.mg X.base
  bs : ∀ b o, X.base.get? b = some o → t.heap.get? b = some o
  obj : ∀ b u, H b = some u → (∀ q, u ≠ .tbl q) → ObjOk X.prog X.w H t.heap b u
  var : ∀ y v, Γ.lookup y = some v → ∃ u, RelV v u ∧ ((sc.names.lookup y = some .local ∧ ∃ m, t.heap.Ns ce.locals m ∧ m y = some u) ∨ (sc.names.lookup y = some .free ∧ ∃ c, ce.cells.lookup y = some c ∧ t.heap.IsCell c (some u)))
section
variable {X : Cx} {sc : Scope} {H : Hp} {Γ : List (Str × V)} {ce : Env} {t t' : Shared}
theorem Site.keeps (S : Site X sc H Γ ce t) (k : Keeps t t') : Site X sc H Γ ce t' := by
  obtain ⟨h', n, rfl, kk⟩ := k
  refine ⟨S.fn, S.eqs, S.gl, S.bl, S.mod, fun b o e => kk _ _ (S.bs b o e), fun b u e n => (S.obj b u e n).stay (fun c v _ y => kk c v y) (fun _ y => y) fun _ _ y => y, fun y v e => ?_⟩
  obtain ⟨u, r, l⟩ := S.var y v e
  refine ⟨u, r, l.imp (fun ⟨a, m, hn, hm⟩ => ⟨a, m, hn.keeps kk, hm⟩) fun ⟨a, c, hc, o, ho, hd⟩ => ⟨a, c, hc, o, kk _ _ ho, hd⟩⟩
theorem Site.list {p : Addr} {xs : List V} (S : Site X sc H Γ ce t) (h : SqL X.K H p xs) : ∃ its : List Value, Vals xs its ∧ PlainL t.heap p its.toArray ∧ xs.length ≤ sizeLine := by
  rcases h with (h | ⟨o, h⟩) | ⟨o, its, n, hk, hc, hd, hs, hz, r⟩
  · obtain ⟨z, its, n, r, e⟩ := S.obj p _ h fun _ y => nomatch y
    exact ⟨its, r, ⟨_, n, e, rfl, rfl, rfl⟩, z⟩
  · obtain ⟨_, z, its, n, r, e⟩ := S.obj p _ h fun _ y => nomatch y
    exact ⟨its, r, ⟨_, n, e, rfl, rfl, rfl⟩, z⟩
  · refine ⟨its.toList, r, ⟨o, n, S.bs _ _ (S.mod.kin p o hk), hc, hd, by simpa using hs⟩, ?_⟩
    have e := r.length
    simp only [Array.length_toList] at e
    omega
end
/-- e is v there, and nothing is changed -/
def PU (X : Cx) (sc : Scope) (H : Hp) (Γ : List (Str × V)) (e : Expr) (v : V) : Prop :=
  ∀ (ce : Env) (B : Around) (t : Shared) (F R : Value → Shared → Prop), Site X sc H Γ ce t → (∀ u t', RelV v u → Keeps t t' → R u t') → wpAny (model X.prog X.w) B (eval e ce) R F t
theorem kt (s : Shared) (k : Nat) : Keeps s { s with toks := k } := ⟨s.heap, k, rfl, fun _ _ e => e⟩
theorem k0 (s : Shared) : Keeps s s := kt s s.toks
theorem Keeps.on {a b c : Shared} (h : Keeps a b) (h' : Keeps b c) : Keeps a c := by
  obtain ⟨x, n, rfl, k⟩ := h
  obtain ⟨y, m, rfl, k'⟩ := h'
  exact ⟨y, m, rfl, fun i o e => k' i o (k i o e)⟩
section
variable {X : Cx} {sc : Scope} {H : Hp} {Γ : List (Str × V)} {a b : Expr} {pos : Pos}
theorem pu_var {y : Str} {v : V} (h : Γ.lookup y = some v) (hd : (y == ("__debug__" : Str)) = false := by decide) (hcd : (y == ("__classdict__" : Str)) = false := by decide) : PU X sc H Γ (.Name y pos) v := by
  intro ce B t F R S q
  obtain ⟨u, r, l⟩ := S.var y v h
  have fk : ce.scope.kind = .function := by rw [S.eqs]; exact S.fn
  rcases l with ⟨hl, m, hn, hm⟩ | ⟨hl, c, hc, ho⟩
  · exact wpAny_Name (wpAny_loadName_local fk (show ce.scope.names.lookup y = some .local by rw [S.eqs]; exact hl) hn hm (q u t r (k0 t))) hd
  · exact wpAny_Name (wpAny_loadName_free fk (show ce.scope.names.lookup y = some .free by rw [S.eqs]; exact hl) hc ho (q u t r (k0 t)) hcd) hd
theorem pu_int {i : Int} {j : Nat} : PU X sc H Γ (.Constant (.int i) j pos) (.int i) := fun ce B t F R S q => wpAny_Constant_int (q _ _ ⟨_, rfl⟩ (kt t _))
/-- two ints are compared -/
theorem pu_cmp {op : CmpOp} {g : Int → Int → Bool} {i j : Int} (rule : ∀ (B : Around) (i j : Int) (t u : Tok) (s : Shared) (Q : Value → Shared → Prop) (E : Value → Shared → Prop), Q (.bool (g i j)) s → wpAny (model X.prog X.w) B (compareOp op (.int i t) (.int j u)) Q E s)
    (ha : PU X sc H Γ a (.int i)) (hb : PU X sc H Γ b (.int j)) (hm : behindInMarks op b = false := by rfl) : PU X sc H Γ (.Compare a [op] [b] pos) (.bl (g i j)) := by
  intro ce B t F R S q
  refine wpAny_Compare1 (ha ce B t F _ S fun u t1 r1 k1 => hb ce B t1 F _ (S.keeps k1) fun w t2 r2 k2 => ?_) hm
  obtain ⟨_, rfl⟩ := r1
  obtain ⟨_, rfl⟩ := r2
  exact rule _ _ _ _ _ _ _ _ (q _ _ rfl (Keeps.on k1 k2))
theorem pu_lt {i j : Int} (ha : PU X sc H Γ a (.int i)) (hb : PU X sc H Γ b (.int j)) : PU X sc H Γ (.Compare a [.Lt] [b] pos) (.bl (decide (i < j))) := pu_cmp (g := fun i j => decide (i < j)) (fun _ _ _ _ _ _ _ _ q => lt_int q) ha hb (nomark _)
theorem pu_eqI {i j : Int} (ha : PU X sc H Γ a (.int i)) (hb : PU X sc H Γ b (.int j)) : PU X sc H Γ (.Compare a [.Eq] [b] pos) (.bl (decide (i = j))) := by
  intro ce B t F R S q
  refine wpAny_Compare1 (ha ce B t F _ S fun u t1 r1 k1 => hb ce B t1 F _ (S.keeps k1) fun w t2 r2 k2 => ?_) (nomark _)
  obtain ⟨_, rfl⟩ := r1
  obtain ⟨_, rfl⟩ := r2
  exact eq_int (q _ _ (by show _ = _; congr 1) (Keeps.on k1 k2))
theorem pu_sub {i j : Int} (ha : PU X sc H Γ a (.int i)) (hb : PU X sc H Γ b (.int j)) : PU X sc H Γ (.BinOp a .Sub b pos) (.int (i - j)) := by
  intro ce B t F R S q
  refine wpAny_BinOp (ha ce B t F _ S fun u t1 r1 k1 => hb ce B t1 F _ (S.keeps k1) fun w t2 r2 k2 => ?_)
  obtain ⟨_, rfl⟩ := r1
  obtain ⟨_, rfl⟩ := r2
  exact sub_int (q _ _ ⟨_, rfl⟩ (Keeps.on (Keeps.on k1 k2) (kt t2 _)))
theorem pu_non {j : Nat} : PU X sc H Γ (.Constant .none j pos) .non := fun ce B t F R S q => Constant_none (q _ _ rfl (k0 t))
/-- a is not None -/
theorem pu_notN {v : V} {j : Nat} {p : Pos} (ha : PU X sc H Γ a v) : PU X sc H Γ (.Compare a [.IsNot] [.Constant .none j p] pos) (.bl (!decide (v = .non))) := by
  intro ce B t F R S q
  refine wpAny_Compare1 (ha ce B t F _ S fun u t1 r1 k1 => Constant_none (isnot_none_gen (q _ _ ?_ k1))) rfl
  cases v <;> first
    | (cases r1; rfl)
    | (obtain ⟨t, rfl⟩ := r1; rfl)
theorem pu_one {op : BoolOp} {v : V} (ha : PU X sc H Γ a v) : PU X sc H Γ (.BoolOp op [a] pos) v := fun ce B t F R S q => BoolOp_one (ha ce B t F R S q)
theorem pu_and {rest : List Expr} {c r : Bool} (ha : PU X sc H Γ a (.bl c)) (hb : c = true → PU X sc H Γ (.BoolOp .And (b :: rest) pos) (.bl r)) : PU X sc H Γ (.BoolOp .And (a :: b :: rest) pos) (.bl (c && r)) := by
  intro ce B t F R S q
  refine BoolOp_and (ha ce B t F _ S fun u t1 r1 k1 => ?_)
  cases r1
  refine wpAny_truthy_bool ?_
  cases c with
  | true => exact hb rfl ce B t1 F R (S.keeps k1) fun u t2 r2 k2 => q u t2 r2 (Keeps.on k1 k2)
  | false => exact q _ _ rfl k1
/-- an item of a list, by a place from 0 on -/
theorem pu_ix {p : Addr} {xs : List V} {i : Nat} {v : V} (ha : PU X sc H Γ a (.ref p)) (hb : PU X sc H Γ b (.int (i : Int))) (hl : SqL X.K H p xs) (hi : xs[i]? = some v) (hs : PlainIx b := by exact fun _ _ => rfl) : PU X sc H Γ (.Subscript a b pos) v := by
  intro ce B t F R S q
  refine Subscript_ (ha ce B t F _ S fun u t1 r1 k1 => hb ce B t1 F _ (S.keeps k1) fun w t2 r2 k2 => ?_)
  cases r1
  obtain ⟨_, rfl⟩ := r2
  have S2 := (S.keeps k1).keeps k2
  obtain ⟨its, r, pl, hz⟩ := S2.list hl
  obtain ⟨x, ex, rx⟩ := r.get hi
  have hn := line63
  have hlt : i < xs.length := (List.getElem?_eq_some_iff.mp hi).1
  exact item_listR pl.isList (by omega) (by omega) (by simpa using ex) (q _ _ rx (Keeps.on k1 k2)) (hs _ _)
/-- len of a list -/
theorem pu_len {p : Addr} {xs : List V} {np : Pos} (ha : PU X sc H Γ a (.ref p)) (hl : SqL X.K H p xs) (hg : sc.names.lookup ("len" : Str) = some .globalImplicit) (hm : X.mg "len" = none)
    (he : ∀ ce : Env, starEach [a] ce = (false, eval a ce) :: starEach [] ce := by exact fun _ => rfl) : PU X sc H Γ (.Call (.Name "len" np) [a] [] pos) (.int xs.length) := by
  intro ce B t F R S q
  obtain ⟨mb, h1, h2⟩ := S.mod.blt
  refine wpAny_Call_Name_kw (Calls.Name_function_global (by rw [S.eqs]; exact S.fn) (show ce.scope.names.lookup ("len" : Str) = some .globalImplicit by rw [S.eqs]; exact hg)
    (Calls.loadGlobal_builtin (by rw [S.gl]; exact S.mod.glob.keeps S.bs) hm (by rw [S.bl]; exact h1.keeps S.bs) ((h2 "len" (by decide)).trans boot_len) ?_) (by decide))
  refine PyProof.Rows.callWith_builtin1 ?_ (he ce) rfl
  rw [he ce]
  refine Calls.spliced_cons (ha ce B t F _ S fun u t1 r1 k1 => Calls.spliced_nil ?_)
  cases r1
  obtain ⟨its, r, pl, hz⟩ := (S.keeps k1).list hl
  have hn := line63
  have e := r.length
  exact Calls.call_len_list pl.isList (by simp only [List.size_toArray] <;> omega) (q _ _ ⟨_, by rw [List.size_toArray, e]⟩ (Keeps.on k1 (kt t1 _)))
end
end LE
-- GA
/-! any and all of a generator expression over a list, its element reckoned by GL -/
namespace LE
open PySem PySem.Spec PyProof.Rows L2
open GxR (TabB TabG Tabbed GenS)
theorem pair_of_lookup {α : Type} : ∀ {l : List (Str × α)} {y : Str} {v : α}, l.lookup y = some v → (y, v) ∈ l
  | (k, w) :: r, y, v, h => by
    rw [List.lookup_cons] at h
    cases e : y == k with
    | true =>
      rw [e] at h
      have e2 : y = k := by simpa using e
      cases h
      rw [e2]
      exact List.mem_cons_self
    | false =>
      rw [e] at h
      exact List.mem_cons_of_mem _ (pair_of_lookup h)
/-- what is asked of the expression's scope, to be seen by looking -/
structure GOK (ds sc : Scope) (x : Str) : Prop where
  kind : sc.kind = .function
  co : sc.isCoroutine = false
  cell : ∀ y ∈ sc.names, y.2 ≠ .cell
  dot : sc.names.lookup (".0" : Str) = some NameKind.local
  loc : sc.names.lookup x = some .local
  kin : ∀ y ∈ sc.names, y.2 = .free → ds.names.lookup y.1 = some .cell ∨ ds.names.lookup y.1 = some .free
instance {ds sc : Scope} {x : Str} : Decidable (GOK ds sc x) :=
  decidable_of_iff (sc.kind = .function ∧ sc.isCoroutine = false ∧ (∀ y ∈ sc.names, y.2 ≠ .cell) ∧ sc.names.lookup (".0" : Str) = some NameKind.local ∧ sc.names.lookup x = some .local ∧ ∀ y ∈ sc.names, y.2 = .free → ds.names.lookup y.1 = some .cell ∨ ds.names.lookup y.1 = some .free)
    ⟨fun ⟨a, b, c, d, e, f⟩ => ⟨a, b, c, d, e, f⟩, fun ⟨a, b, c, d, e, f⟩ => ⟨a, b, c, d, e, f⟩⟩
def Gsc (X : Cx) (sc : Scope) (x : Str) : Prop := ∃ ds, X.env.scope = ds ∧ GOK ds sc x
theorem Gsc.gens {X : Cx} {sc : Scope} {x : Str} (g : Gsc X sc x) (ok : X.Ok) : GenS X.env sc x := by
  obtain ⟨ds, rfl, h⟩ := g
  exact ⟨h.kind, h.co, h.cell, h.dot, h.loc, fun y hy e => ok.has _ (h.kin y hy e)⟩
/-- the names of the def that the element sees, and what they hold -/
def Seen (X : Cx) (σ : L2.St) (sc : Scope) (Γ : List (Str × V)) : Prop :=
  ∀ y v, Γ.lookup y = some v → ∃ i : Nat, X.N[i]? = some y ∧ σ[i]? = some (some v) ∧ (X.env.scope.names.lookup y = some .cell ∨ X.env.scope.names.lookup y = some .free) ∧ sc.names.lookup y = some .free
theorem seen_nil {X : Cx} {σ : L2.St} {sc : Scope} : Seen X σ sc [] := fun _ _ h => nomatch h
theorem seen_cons {X : Cx} {σ : L2.St} {sc : Scope} {Γ : List (Str × V)} {y : Str} {v : V} (i : Nat) (hN : X.N[i]? = some y) (hσ : σ[i]? = some (some v)) (hk : X.env.scope.names.lookup y = some .cell ∨ X.env.scope.names.lookup y = some .free) (hf : sc.names.lookup y = some .free)
    (r : Seen X σ sc Γ) : Seen X σ sc ((y, v) :: Γ) := fun z w h => by
  rw [List.lookup_cons] at h
  cases e : z == y with
  | true =>
    rw [e] at h
    cases h
    rw [show z = y by simpa using e]
    exact ⟨i, hN, hσ, hk, hf⟩
  | false =>
    rw [e] at h
    exact r z w h
/-- a generator that is ready, of n turns, the j-th one true as tr says -/
def Rdy (X : Cx) (pins : List (Addr × Obj)) (σ : L2.St) (H1 : Hp) (P : Addr) (n : Nat) (tr : Nat → Bool) (g : Addr) (s5 : Shared) : Prop :=
  ∃ (fp wr : List Addr) (G : Array GenState → Array GenState → Prop) (F : Nat → Value → Prop) (St : Nat → Shared → Prop),
    WalksS X.prog X.w X.A.in1 g fp wr G n F St ∧ St 0 s5 ∧ TruthOf X.prog X.w X.A.in1 F tr ∧ ∀ s', Moved wr G s5 s' → ∃ H2, Tabbed P H1 H2 ∧ Inv X pins σ H2 s'
section
variable {X : Cx} {pins : List (Addr × Obj)} {σ : L2.St} {H : Hp} {s : Shared}
/-- the expression's code object: found, or made and put behind the table -/
theorem code_step {c P : Addr} {pos : Pos} {q : Str} {sc : Scope} {ps : Array Value} {R : Value → Shared → Prop} {E : Value → Shared → Prop} {A : Around} {M : Model} {t : Shared} (hcode : X.env.code = .ref c) (cd : PySem.W.CodeHd t.heap c P)
    (hP : t.heap.get? P = some { cls := .none, data := .fields ps }) (ht : TriplesOk ps.toList)
    (go : ∀ (code : Value) (h3 : Heap) (tk : Nat) (more : Array Value), Heap.ExtBut P t.heap h3 → t.heap.objs.size ≤ h3.objs.size → h3.get? P = some { cls := .none, data := .fields (ps ++ more) } → TriplesOk (ps ++ more).toList → R code { t with heap := h3, toks := tk }) :
    wpAny M A (genexprCode X.env pos q sc) R E t := by
  cases e : codeAmong pos ps.toList with
  | some v =>
    refine PySem.wpAny_genexprCode_hit hcode (cd.code hP ht) e ?_
    have z := go v t.heap t.toks #[] (Heap.ExtBut.refl _ _) (Nat.le_refl _) (by rw [Array.append_empty]; exact hP) (by rw [Array.append_empty]; exact ht)
    exact z
  | none =>
    refine PySem.wpAny_genexprCodeX hcode (cd.code hP ht) (cd.tab hP) e fun d h3 tk x ge lt ic _ it _ => go _ h3 tk _ x (Nat.le_trans ge (Nat.le_of_lt lt)) it.2 ?_
    obtain ⟨_, _, _, _, _, _, _, _, _, _, _, _, _, _, _, _, _, _, _, tr, _⟩ := ic
    exact tr
/-- .. for x in a list -/
theorem gen_list {c P : Addr} {elt iter : Expr} {x : Str} {px gpos : Pos} {sc : Scope} {te : TE} {k : Nat} {Q' : Value → Shared → Prop} {R : Nat → (Nat → Bool) → Hp → Prop}
    (hr : Room k X.A) (TB : TabB X.base X.mg c P) (hcode : X.env.code = .ref c) (S : GenS X.env sc x) (hi : PE X iter te) (hs : ∀ v, genFold iter X.env v = pure v) (I : Inv X pins σ H s)
    (h : te σ H fun v H1 => ∃ (a : Addr) (xs : List V) (tr : Nat → Bool) (Γ : List (Str × V)), v = .ref a ∧ SqL X.K H1 a xs ∧ TabG H1 P ∧ Seen X σ sc Γ ∧ (∀ j w, xs[j]? = some w → PU X sc H1 ((x, w) :: Γ) elt (.bl (tr j))) ∧ R xs.length tr H1)
    (hQ : ∀ n tr H1 g s5, R n tr H1 → Rdy X pins σ H1 P n tr g s5 → Q' (.ref g) s5) :
    wpAny (model X.prog X.w) X.A (eval (.GeneratorExp elt [⟨.Name x px, iter, [], 0⟩] sc gpos) X.env) Q' X.xe s := by
  refine wpAny_GeneratorExp_walksQ hr.hd S.co (closure_ok S.free) S.cell S.dot S.loc S.kind (by have := hr.dp; omega) ?_ hs
  refine thn (hi.run pins s σ H _ I h) fun u s1 ⟨v, H1, I1, r1, a, xs, tr, Γ, ev, hl, ⟨ps, hP, ht⟩, sn, hel, hR⟩ => ?_
  subst ev
  cases (show u = Value.ref a from r1)
  obtain ⟨its, rv, pl, hz⟩ := I1.list hl
  have nlen := rv.length
  refine wpAny_pyIter_list pl.isList ?_
  -- the iterator stands behind all else
  have kp : ∀ b o, s1.heap.get? b = some o → (s1.heap.push { cls := .type "list_iterator", data := .fields #[.ref a, .int 0 0] }).get? b = some o := fun b o e => Heap.get?_push_of_some _ e
  have oP : s1.heap.get? P = some { cls := .none, data := .fields ps } := I1.hok P _ hP
  have nl2 : (s1.heap.push { cls := .type "list_iterator", data := .fields #[.ref a, .int 0 0] }).NoLimit := I1.nolimit.push _
  have hsz2 : (s1.heap.push { cls := .type "list_iterator", data := .fields #[.ref a, .int 0 0] }).objs.size = s1.heap.objs.size + 1 := Heap.size_push ..
  have itA : (s1.heap.push { cls := .type "list_iterator", data := .fields #[.ref a, .int 0 0] }).IsListIter s1.heap.objs.size a 0 := ⟨_, Heap.get?_push_size _ rfl, rfl, rfl⟩
  have hal : a < s1.heap.objs.size := by
    obtain ⟨o, e, _⟩ := pl.isList
    exact Heap.lt_size e
  refine ⟨nl2, code_step (ps := ps) hcode (TB.code.keeps fun b o e => kp b o (I1.bk b o e)) (kp _ _ oP) ht fun code h3 tk more ex ge hP3 ht3 => ?_⟩
  have ge : s1.heap.objs.size + 1 ≤ h3.objs.size := by
    rw [← hsz2]
    exact ge
  obtain ⟨bm, ob, e1, e2, e3, e4, e5, e6, e7, e8⟩ := TB.bm
  have k3 : ∀ b o, b ≠ P → s1.heap.get? b = some o → h3.get? b = some o := fun b o n e => ex b o n (kp b o e)
  refine wpAny_builtinsFor (m := X.mg) (by rw [I1.ok.glob]; exact ((I1.mod.glob.keeps I1.bk).keeps kp).extBut ex TB.gP) e1 e2 (k3 _ _ e4 (I1.bk _ _ e5)) e6 e7 e8 ?_
  have aP : a ≠ P := fun z => by
    obtain ⟨o, e, d, n, e'⟩ := pl.isList
    rw [z, oP] at e
    cases e
    cases e'
  have iP : s1.heap.objs.size ≠ P := fun z => by
    have := Heap.lt_size oP
    rw [← z] at this
    exact Nat.lt_irrefl _ this
  have cP : cStatics ≠ P := fun z => by
    obtain ⟨_, ⟨o, es, ep, ho, hd, _⟩, _⟩ := I1.nolimit
    rw [z, oP] at ho
    cases ho
    cases hd
  have cl : cStatics < s1.heap.objs.size := let ⟨_, q, _⟩ := I1.nolimit; q.lt
  refine ⟨s1.heap.objs.size, [s1.heap.objs.size, a], [s1.heap.objs.size], its.toArray.size, fun i v => its.toArray[i]? = some v, fun i h => h.IsListIter s1.heap.objs.size a i ∧ h.IsList a its.toArray, fun _ => true, fun i y => y = .bool (tr i), rfl,
    fun A' hA => Walks.list hA _ _ (Nat.ne_of_lt hal) _, ⟨itA.at fun o e => ex _ o iP e, ?_⟩, fun b hb => ?_, nl2.extBut ex cP, fun z => ?_, fun href hk => ⟨fun A' E' i v t m _ _ _ _ _ => ?_, fun A' E' i v t m hA hv _ hn hm kk => ?_⟩, fun g h5 tk5 gs bare lt5 sz5 k5 W at5 => ?_⟩
  · obtain ⟨o, e, r⟩ := pl.isList
    exact ⟨o, k3 a o aP e, r⟩
  · show b < h3.objs.size
    rcases List.mem_cons.mp hb with z | z
    · rw [z]
      exact Nat.lt_of_lt_of_le (Nat.lt_succ_self _) ge
    · rw [List.mem_singleton.mp z]
      exact Nat.lt_of_lt_of_le (Nat.lt_succ_of_lt hal) ge
  · have z2 := List.mem_singleton.mp z
    rw [z2] at cl
    exact Nat.lt_irrefl _ cl
  · rw [List.forIn_nil]
    exact wpAny_pure ⟨rfl, k0 t⟩
  · -- one element
    have up : ∀ b o, b ≠ P → s1.heap.get? b = some o → t.heap.get? b = some o := fun b o n e => by
      have lb := Heap.lt_size e
      refine kk b (List.mem_range.mpr (show b < h3.objs.size from Nat.lt_of_lt_of_le (Nat.lt_succ_of_lt lb) ge)) (fun y => ?_) o (hk b o (k3 b o n e))
      rw [List.mem_singleton.mp y] at lb
      exact Nat.lt_irrefl _ lb
    have hv' : its[i]? = some v := by simpa using hv
    obtain ⟨w, ew, rw'⟩ : ∃ w, xs[i]? = some w ∧ RelV w v := by
      have lt : i < xs.length := by
        rw [nlen]
        exact (List.getElem?_eq_some_iff.mp hv').1
      obtain ⟨y, ey, ry⟩ := rv.get (List.getElem?_eq_getElem lt)
      rw [hv'] at ey
      cases ey
      exact ⟨_, List.getElem?_eq_getElem lt, ry⟩
    refine hel i w ew _ A' t E' _ ?_ fun u t' ru ku => ⟨ru, ku⟩
    refine ⟨S.kind, rfl, I1.ok.glob, rfl, I1.mod, fun b o e => up b o (fun z => ?_) (I1.bk b o e), fun b o e n => (I1.hok b o e).stay (fun d y hd ey => up d y (fun z => ?_) ey) (fun _ y => y) fun _ _ y => y, fun y v' e => ?_⟩
    · have := (I1.bs b o e).2
      rw [z, hP] at this
      cases this
    · rcases hd with q | q
      · rw [← q, z, hP] at e
        exact n ps (Option.some.inj e).symm
      · rw [z, hP] at q
        cases q
    · rw [List.lookup_cons] at e
      cases b : y == x with
      | true =>
        rw [b] at e
        have e' : y = x := by simpa using b
        cases e
        exact ⟨v, rw', .inl ⟨by rw [e']; exact S.loc, m, hn, by rw [e']; exact hm⟩⟩
      | false =>
        rw [b] at e
        obtain ⟨j, hN, hσ, hv2, hf⟩ := sn y v' e
        obtain ⟨m1, _, hl1⟩ := I1.loc
        obtain ⟨u, ru, lk⟩ := hl1 j y v' hN hσ (.inr hv2)
        rcases lk with ⟨q1, _⟩ | ⟨_, cc, hc, hcell⟩
        · have q1' : X.env.scope.names.lookup y = some .local := q1
          rcases hv2 with q2 | q2 <;> (rw [q1'] at q2; cases q2)
        · obtain ⟨oc, ec, dc⟩ := hcell
          refine ⟨u, ru, .inr ⟨hf, cc, NdefX.clo_has S.free (pair_of_lookup hf) hc, oc, up cc oc (fun z => ?_) ec, dc⟩⟩
          rw [z, oP] at ec
          cases ec
          cases dc
  · -- behind its making
    simp only [GxR.passing_true, List.length_range] at W
    have en : its.toArray.size = xs.length := by rw [List.size_toArray, nlen]
    refine hQ its.toArray.size tr H1 g _ (by rw [en]; exact hR) ⟨_, _, _, _, _, W.in4_1, at5, fun j y sj Qj Ej hy hq => ?_, fun s' mv => ?_⟩
    · obtain ⟨i, hij, rfl⟩ := hy
      obtain ⟨_, ej⟩ := List.getElem?_eq_some_iff.mp hij
      rw [List.getElem_range] at ej
      rw [← ej]
      exact wpAny_truthy_bool hq
    · have out : ∀ b o, s1.heap.get? b = some o → b ∉ h3.objs.size :: [s1.heap.objs.size] := fun b o e y => by
        have lb := Heap.lt_size e
        rcases List.mem_cons.mp y with z | z
        · rw [z] at lb
          have : (h3.objs.size : Nat) < s1.heap.objs.size := lb
          omega
        · rw [List.mem_singleton.mp z] at lb
          exact Nat.lt_irrefl _ lb
      have J := GxR.inv_tab (more := more) (h' := s'.heap) (g' := s'.gens) (d' := s'.drawn) (t' := s'.toks) I1 hP (fun b o n e => mv.heap b o (out b o e) (k5 b o (k3 b o n e))) (mv.heap P _ (out P _ oP) (k5 P _ hP3)) (AllBare.movedS (I1.bare.push bare) mv)
      rw [GxR.sh_eta s1 s' mv.os] at J
      exact ⟨_, ⟨⟨_, upd_same, ht3⟩, fun b n => upd_ne n⟩, J⟩
/-- any(test for x in a list), all(..) -/
def tGenL (X : Cx) (P : Addr) (x : Str) (sc : Scope) (elt : Expr) (fold : Nat → (Nat → Bool) → Bool) (te : TE) : TE := fun σ H Q => te σ H fun v H1 => ∃ (a : Addr) (xs : List V) (tr : Nat → Bool) (Γ : List (Str × V)), v = .ref a ∧ SqL X.K H1 a xs ∧ TabG H1 P ∧
  Seen X σ sc Γ ∧ (∀ j w, xs[j]? = some w → PU X sc H1 ((x, w) :: Γ) elt (.bl (tr j))) ∧ ∀ H2, Tabbed P H1 H2 → Q (.bl (fold xs.length tr)) H2
def anyTo (n : Nat) (tr : Nat → Bool) : Bool := (List.range n).any tr
def allTo (n : Nat) (tr : Nat → Bool) : Bool := (List.range n).all tr
section
variable {c P : Addr} {elt iter : Expr} {x : Str} {px p pos gpos : Pos} {sc : Scope} {te : TE} {k : Nat}
theorem pe_anyL (hr : Room k X.A) (hg : Gl X "any") (hm : X.mg "any" = none) (TB : TabB X.base X.mg c P) (hcode : X.env.code = .ref c) (S : Gsc X sc x) (hi : PE X iter te) (hs : ∀ v, genFold iter X.env v = pure v)
    (he : starEach [.GeneratorExp elt [⟨.Name x px, iter, [], 0⟩] sc gpos] X.env = (false, eval (.GeneratorExp elt [⟨.Name x px, iter, [], 0⟩] sc gpos) X.env) :: starEach [] X.env := by rfl) :
    PE X (.Call (.Name "any" p) [.GeneratorExp elt [⟨.Name x px, iter, [], 0⟩] sc gpos] [] pos) (tGenL X P x sc elt anyTo te) := by
  refine ⟨fun pins s σ H Q I h => wpAny_Call_Name_kw (ld_blt I hg hm boot_any (PyProof.Rows.callWith_builtin1 ?_ he (by rfl)))⟩
  rw [he]
  refine Calls.spliced_cons (gen_list (R := fun n tr H1 => ∀ H2, Tabbed P H1 H2 → Q (.bl (anyTo n tr)) H2) hr TB hcode (S.gens I.ok) hi hs I h fun n tr H1 g s5 hR ⟨fp, wr, G, F, sq, W, h0, tt, aft⟩ => Calls.spliced_nil ?_)
  refine call_any_walkS (W.self 0 _ _ _ h0 ⟨g, fp, wr, G, _, F, sq, _, rfl, W, h0, tt, fun s' mv => ?_⟩)
  obtain ⟨H2, T, J⟩ := aft s' mv
  exact ⟨.bl _, H2, J, rfl, hR H2 T⟩
theorem pe_allL (hr : Room k X.A) (hg : Gl X "all") (hm : X.mg "all" = none) (TB : TabB X.base X.mg c P) (hcode : X.env.code = .ref c) (S : Gsc X sc x) (hi : PE X iter te) (hs : ∀ v, genFold iter X.env v = pure v)
    (he : starEach [.GeneratorExp elt [⟨.Name x px, iter, [], 0⟩] sc gpos] X.env = (false, eval (.GeneratorExp elt [⟨.Name x px, iter, [], 0⟩] sc gpos) X.env) :: starEach [] X.env := by rfl) :
    PE X (.Call (.Name "all" p) [.GeneratorExp elt [⟨.Name x px, iter, [], 0⟩] sc gpos] [] pos) (tGenL X P x sc elt allTo te) := by
  refine ⟨fun pins s σ H Q I h => wpAny_Call_Name_kw (ld_blt I hg hm (by decide +kernel : bootBuiltins "all" = some (.builtin "all")) (PyProof.Rows.callWith_builtin1 ?_ he (by rfl)))⟩
  rw [he]
  refine Calls.spliced_cons (gen_list (R := fun n tr H1 => ∀ H2, Tabbed P H1 H2 → Q (.bl (allTo n tr)) H2) hr TB hcode (S.gens I.ok) hi hs I h fun n tr H1 g s5 hR ⟨fp, wr, G, F, sq, W, h0, tt, aft⟩ => Calls.spliced_nil ?_)
  refine call_all_walkS (W.self 0 _ _ _ h0 ⟨g, fp, wr, G, _, F, sq, _, rfl, W, h0, tt, fun s' mv => ?_⟩)
  obtain ⟨H2, T, J⟩ := aft s' mv
  exact ⟨.bl _, H2, J, rfl, hR H2 T⟩
end
end
end LE
-- GN
/-! any and all of a generator expression: whatever a for may walk, whatever target, the element by any judgement (it may call defs) -/
namespace GN
open PySem PySem.Spec PyProof.Rows L2 GenW
open GxR (TabB TabG Tabbed)
/-- the context in which such an element is reckoned; the expression's frame was made at s, over the around A -/
abbrev inGen (X : Cx) (s : Shared) (H : Hp) (A : Around) (ce : Env) (fp : List Addr) : Cx :=
  { X with s_0 := s, H_0 := H, env := ce, outer := X.stack, stack := ce :: X.stack, A := A.deeper ce, ex := fp, fn := fun _ => false, calm := true, pn := [], xe := fun _ _ => False }
/-- the names: the expression's own ones with their slots, or captured ones; none that a further one captures -/
structure NmOk (N : List Str) (ds sc : Scope) (own : List (Str × Nat)) : Prop where
  blk : BlkOk N ds sc own
  co : sc.isCoroutine = false
  cell : ∀ y ∈ sc.names, y.2 ≠ .cell
  dot : sc.names.lookup (".0" : Str) = some NameKind.local
theorem nmOk_by {N : List Str} {ds sc : Scope} {own : List (Str × Nat)} (b : BlkOk N ds sc own) (c : sc.isCoroutine = false := by rfl) (d : ∀ y ∈ sc.names, y.2 ≠ .cell := by decide +kernel) (e : sc.names.lookup (".0" : Str) = some NameKind.local := by decide +kernel) : NmOk N ds sc own := ⟨b, c, d, e⟩
section
variable {X : Cx} {pins : List (Addr × Obj)} {σ : L2.St} {H : Hp} {s s5 : Shared}
/-- only the table of generators, the marks and the count of texts are others -/
theorem inv_gens {s' : Shared} (I : Inv X pins σ H s) (ho : s'.os = s.os) (hh : s'.heap = s.heap) (hb : AllBare s'.gens) : Inv X pins σ H s' := by
  obtain ⟨a1, a2, a3, a4, a5, a6, a7, a8, a9, b1, b2⟩ := I
  refine ⟨a1, ho.trans a2, hb, ?_, ?_, ?_, a7, a8, ?_, ?_, b2⟩ <;> rw [hh] <;> assumption
theorem gen_start {sc : Scope} {own : List (Str × Nat)} {fp : List Addr} {A : Around} {code : Value} {m : Str → Option Value} (I : Inv X pins σ H s) (ok : NmOk X.N X.env.scope sc own) (hN : X.N.Nodup)
    (hfp : ∀ b ∈ fp, FpOk X pins H b ∧ b < s.heap.objs.size) (fr : A.frames = some X.stack) (hd : A.handled = none) (ho : s5.os = s.os) (hb : AllBare s5.gens)
    (kp : ∀ b o, s.heap.get? b = some o → s5.heap.get? b = some o) (ns : s5.heap.Ns s.heap.objs.size m) :
    Inv (inGen X s H A (genEnv sc (cloFrom X.env.cells sc.names []) s.heap.objs.size code builtinsNs X.env) fp) [] (wipe σ (own.map (·.2))) H s5 := by
  have hfree : ∀ y ∈ sc.names, y.2 = .free → ∃ c, X.env.cells.lookup y.1 = some c := fun y hy e => I.ok.has _ (ok.blk.free y hy e)
  have cm : ∀ {y c}, (cloFrom X.env.cells sc.names []).lookup y = some c → X.env.cells.lookup y = some c ∧ c < s.heap.objs.size := fun {y c} e => by
    rcases cloFrom_mem (PySem.mem_of_lookup e) with hm | ⟨h1, rfl⟩
    · cases hm
    · obtain ⟨c, hc⟩ := hfree _ h1 rfl
      rw [hc]
      obtain ⟨w, z⟩ := I.cell _ _ hc
      exact ⟨rfl, z.lt⟩
  have look : ∀ {y}, sc.names.lookup y = some .free → ∃ c, (cloFrom X.env.cells sc.names []).lookup y = some c ∧ X.env.cells.lookup y = some c := fun {y} hl => by
    obtain ⟨c', e'⟩ := mem_lookup (cloFrom_has (cells := X.env.cells) (acc := []) (PySem.mem_of_lookup hl))
    exact ⟨c', e', (cm e').1⟩
  have okG : (inGen X s H A (genEnv sc (cloFrom X.env.cells sc.names []) s.heap.objs.size code builtinsNs X.env) fp).Ok := by
    refine ⟨I.ok.mod, ok.blk.kind, I.ok.glob, rfl, Nat.le_refl _, fun y z c e1 e2 => I.ok.inj y z c (cm e1).1 (cm e2).1, fun y hy => ?_, fun y c z _ => absurd z Bool.false_ne_true, fun _ => hd, Around.frames_deeper fr, .inr ⟨rfl, rfl⟩,
      fun b hb => ⟨Nat.ne_of_lt (hfp b hb).2, fun y c e z => (hfp b hb).1.2.2.2.2.1 y c (cm e).1 z⟩, I.bs, Nat.le_trans I.ok.bsz I.sz, fun b o e hb => ?_, fun b hb z => ?_, I.stack, I.stkFree⟩
    · have hy' : sc.names.lookup y = some .cell ∨ sc.names.lookup y = some .free := hy
      rcases hy' with hy' | hy'
      · exact absurd rfl (ok.cell _ (PySem.mem_of_lookup hy'))
      · obtain ⟨c, h1, _⟩ := look hy'
        exact ⟨c, h1⟩
    · rcases (hfp b hb).1.2.2.2.1 with z | z
      · exact I.ok.noex b o e z
      · exact absurd (Nat.lt_of_lt_of_le (Heap.lt_size e) (Nat.le_trans I.ok.bsz z)) (Nat.lt_irrefl _)
    · rcases List.mem_cons.mp (I.stkSub b z) with z | z
      · exact (hfp b hb).1.2.1 z
      · exact (hfp b hb).1.2.2.1 z
  refine ⟨okG, ho, hb, Un.kept kp, ⟨m, ns, fun i y v e1 e2 e3 => ?_⟩, fun y c e => ?_, I.hok.fresh (Nat.le_refl _), fun y c e => I.freeC y c (cm e).1, fun p hp => absurd (show p ∈ ([] : List (Addr × Obj)) ++ [] from hp) (by simp), I.hok.kept kp, by rw [wipe_length]; exact I.len⟩
  · obtain ⟨e2, hne⟩ := wipe_some e2
    have e3 : Vis sc y := e3
    have fr : sc.names.lookup y = some .free := by
      rcases e3 with e | e | e
      · rcases ok.blk.own _ (PySem.mem_of_lookup e) (.inl rfl) with e' | e'
        · obtain ⟨p, hp, hpy⟩ := List.mem_map.mp e'
          have e5 := ok.blk.ix p hp
          have : p.1 = y := hpy
          rw [this] at e5
          exact absurd (List.mem_map.mpr ⟨p, hp, nodup_ix hN e5 e1⟩) hne
        · exact absurd (List.mem_of_getElem? e1) e'
      · exact absurd rfl (ok.cell _ (PySem.mem_of_lookup e))
      · exact e
    obtain ⟨m1, _, hl⟩ := I.loc
    have hvis : Vis X.env.scope y := .inr (ok.blk.free _ (PySem.mem_of_lookup fr) rfl)
    obtain ⟨w, r, q⟩ := hl i y v e1 e2 hvis
    obtain ⟨c, h1, h2⟩ := look fr
    refine ⟨w, r, .inr ⟨.inr fr, c, h1, ?_⟩⟩
    rcases q with ⟨k, _⟩ | ⟨_, c', e', z⟩
    · have k : X.env.scope.names.lookup y = some .local := k
      rcases ok.blk.free _ (PySem.mem_of_lookup fr) rfl with k' | k' <;> rw [show X.env.scope.names.lookup y = _ from k'] at k <;> cases k
    · rw [h2] at e'
      cases e'
      exact z.keeps kp
  · obtain ⟨w, z⟩ := I.cell y c (cm e).1
    exact ⟨w, z.keeps kp⟩
end
/-! ### one segment of the generator -/
/-- all goes well as long as W says so; vs: the expression's own slots, forgotten ahead of each turn -/
structure Way (J : It) (g : TG) (te : TE) (stop : Bool) (vs : List Nat) (σ : L2.St) (Q : VK) (W : Nat → Nat → Hp → Prop) : Prop where
  turn : ∀ i m H, W i m H → (J.stop i H ∧ Q (.bl (!stop)) H) ∨ (J.go i H ∧ ∀ x H2, J.yld i H x H2 → g x (wipe σ vs) H2 fun σ2 H3 => wipe σ2 vs = wipe σ vs ∧ te σ2 H3 fun v H4 => ∃ b, v = .bl b ∧ if b = stop then Q (.bl stop) H4 else ∃ m', m' < m ∧ W (i + 1) m' H4)
theorem inv_wipe {X : Cx} {pins : List (Addr × Obj)} {σ : L2.St} {H : Hp} {s : Shared} (vs : List Nat) (I : Inv X pins σ H s) : Inv X pins (wipe σ vs) H s := I.weak (wipe_length σ vs) fun _ _ e => (wipe_some e).1
/-- a state that looks the same to the generator -/
def Like (s s' : Shared) : Prop := s'.os = s.os ∧ s'.heap = s.heap ∧ AllBare s'.gens
def GEnd (Y : Cx) (ps : List (Addr × Obj)) (stop : Bool) (Q : VK) (s : Shared) : Prop := ∃ σ H, Inv Y ps σ H s ∧ Q (.bl (!stop)) H
def GPro (Y : Cx) (ps : List (Addr × Obj)) (stop : Bool) (Q : VK) : Protocol := fun _ _ v s kap =>
  ∃ b σ H, v = Value.bool b ∧ Inv Y ps σ H s ∧ if b = stop then Q (.bl stop) H else ∀ s', Like s s' → kap (.send .none) s'
theorem over_gen {A : Around} {elt tg iter : Expr} {ifs : List Expr} {sc : Scope} {pos : Pos} {it acc : Value} {ce : Env} : A.over (.compLoop (.GeneratorExp elt [⟨tg, iter, ifs, 0⟩] sc pos) 0 it acc ce) [] = A.deeper ce := by
  first
    | rfl
    | (obtain ⟨hd, d, fr, gs, u⟩ := A; simp [Around.over, Around.deeper, marksOver, frameCount, unitsOf, envsOf, guardsOf, pushEnvs, pushGuards, Code.envs, Code.env?, Code.isFrame, Code.guards, Code.isGuard, Code.weight, Code.frames, Code.isCreation, Code.isCaller, Code.cUnits])
theorem over_gen0 {A : Around} {elt tg iter : Expr} {ifs : List Expr} {sc : Scope} {pos : Pos} {it acc : Value} {ce : Env} : A.over (.compStart (.GeneratorExp elt [⟨tg, iter, ifs, 0⟩] sc pos) 0 it acc ce) [] = A.deeper ce := by
  first
    | rfl
    | (obtain ⟨hd, d, fr, gs, u⟩ := A; simp [Around.over, Around.deeper, marksOver, frameCount, unitsOf, envsOf, guardsOf, pushEnvs, pushGuards, Code.envs, Code.env?, Code.isFrame, Code.guards, Code.isGuard, Code.weight, Code.frames, Code.isCreation, Code.isCaller, Code.cUnits])
section
variable {Y : Cx} {A : Around} {ps : List (Addr × Obj)} {elt tg iter : Expr} {sc : Scope} {pos : Pos} {it : Addr} {fp : List Addr} {tn : Nat → Heap → Prop} {J : It} {g : TG} {te : TE} {stop : Bool} {Q : VK} {W : Nat → Nat → Hp → Prop} {vs : List Nat} {σ₀ : L2.St}
abbrev Rg (Y : Cx) (ps : List (Addr × Obj)) (stop : Bool) (Q : VK) : GenEnd := fun n s₀ r s₁ => r = .ok .next ∧ (fun (_ : Nat) (_ s : Shared) => GEnd Y ps stop Q s) n s₀ s₁
theorem seg_turns (hA : A.deeper Y.env = Y.A) (hx : ∀ e s, ¬ Y.xe e s) (hc : Y.calm = true) (hco : Y.env.scope.isCoroutine = false) (T : Turn Y.prog Y.w Y.K tg J fp it tn) (hg : PG Y tg g) (he : PE Y elt te) (hW : Way J g te stop vs σ₀ Q W)
    (fo : ∀ (H : Hp), (∀ b ∈ fp, H b = none) → ∀ b ∈ fp, FpOk Y ps H b) :
    ∀ (m n i : Nat) (H : Hp) (s₀ s : Shared), m < n → W i m H → Inv Y ps (wipe σ₀ vs) H s → tn i s.heap → (∀ b ∈ fp, H b = none) →
      Seg (model Y.prog Y.w) A (Rg Y ps stop Q) (GPro Y ps stop Q) n s₀ (.compLoop (.GeneratorExp elt [⟨tg, iter, [], 0⟩] sc pos) 0 (.ref it) .none Y.env)
        ((model Y.prog Y.w).den (.compLoop (.GeneratorExp elt [⟨tg, iter, [], 0⟩] sc pos) 0 (.ref it) .none Y.env)) [] s := by
  intro m
  induction m using Nat.strongRecOn with
  | ind m ih =>
    intro n i H s₀ s hmn hw I st fr
    generalize hσ : wipe σ₀ vs = σ at I
    have oA : A.over (.compLoop (.GeneratorExp elt [⟨tg, iter, [], 0⟩] sc pos) 0 (.ref it) .none Y.env) [] = Y.A := over_gen.trans hA
    show Seg _ A _ _ _ s₀ _ ((compTurn (.GeneratorExp elt [⟨tg, iter, [], 0⟩] sc pos) 0 (.ref it) .none Y.env).onRaise (leaving Y.env)) [] s
    rw [compTurn_gen, Sem.onRaise_eq_wrap]
    refine seg_bind_wrap (wpAny_standAt ?_)
    rcases hW.turn i m H hw with ⟨hs, q⟩ | ⟨hgo, step⟩
    · refine seg_bind_wrap ?_
      rw [oA]
      refine thn (T.done Y rfl rfl rfl hc i ps s σ H _ I (fo H fr) st hs) fun r s1 ⟨er, I1⟩ => ?_
      subst er
      exact seg_end (.ok .next) ⟨rfl, σ, H, I1, q⟩
    · refine seg_bind_wrap ?_
      rw [oA]
      refine thn (T.item Y rfl rfl rfl hc i ps s σ H _ I (fo H fr) st hgo) fun r s1 ⟨u, er, h1⟩ => ?_
      subst er
      refine seg_bind_wrap ?_
      rw [oA]
      refine thn h1 fun _ s2 ⟨x, H2, I2, rx, hy, st2, fr2⟩ => ?_
      have I2' := I2.pinned (fo H2 fr2) (T.obj _ _ st2)
      refine seg_bind_wrap ?_
      rw [oA]
      refine wpAny_mono (hg.run _ s2 σ H2 x u _ I2' rx (by have q := step x H2 hy; rw [hσ] at q; exact q)) (fun _ s3 h3 => ?_) fun e s' z => absurd z (hx e s')
      obtain ⟨σ3, H3, I3, hw3, q3⟩ := h3
      refine seg_bind_wrap ?_
      rw [oA]
      refine wpAny_tests_nil ?_
      obtain ⟨n, rfl⟩ : ∃ k, n = k + 1 := ⟨n - 1, by omega⟩
      simp only [if_true]
      have hy : ∀ v, yieldOut Y.env v = yieldValue v := fun v => by simp only [yieldOut, hco, Bool.false_eq_true, if_false]
      simp only [hy]
      rw [Sem.bind_eq_wrap', Sem.bind_eq_wrap', Sem.wrap_wrap, Sem.wrap_wrap]
      refine seg_wrap ?_
      rw [oA]
      refine wpAny_mono (he.run _ s3 σ3 H3 _ I3 q3) (fun y s4 h4 => ?_) fun e s' z => absurd z (hx e s')
      obtain ⟨v, H4, I4, ry, b, ev, q4⟩ := h4
      subst ev
      cases (show y = Value.bool b from ry)
      have st4 : tn (i + 1) s4.heap := T.keep _ _ _ st2 fun c hc o e => (I4.pin (c, o) (List.mem_append_right _ (List.mem_append_right _ (mem_pinsAt hc e)))).1
      have fr4 : ∀ c ∈ fp, H4 c = none := fun c hc => by
        obtain ⟨o, e, _⟩ := T.obj _ _ st2 c hc
        exact (I4.pin (c, o) (List.mem_append_right _ (List.mem_append_right _ (mem_pinsAt hc e)))).2.1
      refine seg_at (seg_yield rfl rfl rfl ⟨b, σ3, H4, rfl, I4.unpinned, ?_⟩)
      by_cases hb : b = stop
      · rw [if_pos hb] at q4 ⊢
        exact q4
      · rw [if_neg hb] at q4 ⊢
        obtain ⟨m', hm, w4⟩ := q4
        intro s5 lk
        refine seg_again rfl (ih m' hm n (i + 1) H4 s5 s5 (by omega) w4 (inv_gens (by rw [hσ, ← hw3]; exact inv_wipe vs I4.unpinned) lk.1 lk.2.1 lk.2.2) ?_ fr4)
        rw [lk.2.1]
        exact st4
theorem seg_first (hA : A.deeper Y.env = Y.A) (hx : ∀ e s, ¬ Y.xe e s) (hc : Y.calm = true) (hco : Y.env.scope.isCoroutine = false) (T : Turn Y.prog Y.w Y.K tg J fp it tn) (hg : PG Y tg g) (he : PE Y elt te) (hW : Way J g te stop vs σ₀ Q W)
    (fo : ∀ (H : Hp), (∀ b ∈ fp, H b = none) → ∀ b ∈ fp, FpOk Y ps H b) {m n : Nat} {H : Hp} {s₀ s : Shared} (hmn : m < n) (hw : W 0 m H) (I : Inv Y ps (wipe σ₀ vs) H s) (st : tn 0 s.heap) (fr : ∀ b ∈ fp, H b = none) :
    Seg (model Y.prog Y.w) A (Rg Y ps stop Q) (GPro Y ps stop Q) n s₀ (.compStart (.GeneratorExp elt [⟨tg, iter, [], 0⟩] sc pos) 0 (.ref it) .none Y.env)
        ((model Y.prog Y.w).den (.compStart (.GeneratorExp elt [⟨tg, iter, [], 0⟩] sc pos) 0 (.ref it) .none Y.env)) [] s := by
  have loop := seg_turns (iter := iter) (sc := sc) (pos := pos) hA hx hc hco T hg he hW fo m n 0 H s₀ s hmn hw I st fr
  show Seg _ A _ _ _ s₀ _ ((compStart (.GeneratorExp elt [⟨tg, iter, [], 0⟩] sc pos) 0 (.ref it) .none Y.env).onRaise (leaving Y.env)) [] s
  unfold compStart
  rw [Sem.onRaise_eq_wrap]
  show Seg _ A _ _ _ s₀ _ ((ask >>= _).wrap _ _ _ _) [] s
  refine seg_bind_wrap (wpAny_askSetting ?_)
  split
  · exact seg_again rfl loop
  · first
      | exact seg_bind_wrap (wpAny_rule (seg_bind_wrap (wpAny_standAt (seg_bind_wrap (T.self _ 0 s _ _ st (seg_again rfl loop))))))
      | (refine seg_bind_wrap (wpAny_rule ?_); show Seg _ A _ _ _ s₀ _ ((standAt iter.pos >>= _).wrap _ _ _ _) [] s; exact seg_bind_wrap (wpAny_standAt (seg_bind_wrap (T.self _ 0 s _ _ st (seg_again rfl loop)))))
end
/-! ### what consumes it -/
/-- the generator sleeps, n wakings at most are left -/
def Ready (Y : Cx) (A : Around) (ps : List (Addr × Obj)) (g : Nat) (stop : Bool) (Q : VK) (n : Nat) (s : Shared) : Prop :=
  (∃ (σ : L2.St) (H : Hp), Inv Y ps σ H s) ∧ ∃ gs, s.gens[g]? = some gs ∧ ∀ s', Like s s' → gs.Goes (model Y.prog Y.w) A (Rg Y ps stop Q) (GPro Y ps stop Q) n (.send .none) s'
/-- what a waking hands out -/
def Woke (Y : Cx) (A : Around) (ps : List (Addr × Obj)) (g : Nat) (stop : Bool) (Q : VK) (n : Nat) (r : Option Value) (s : Shared) : Prop :=
  match r with
  | none => GEnd Y ps stop Q s
  | some v => ∃ b, v = Value.bool b ∧ if b = stop then ∃ σ H, Inv Y ps σ H s ∧ Q (.bl stop) H else ∃ k, k < n ∧ Ready Y A ps g stop Q k s
theorem bare_set {gens : Array GenState} {g : Nat} {x : GenState} (h : AllBare gens) (hx : x.bare = true) : AllBare (gens.setIfInBounds g x) := fun y hy => by
  rcases Array.mem_or_eq_of_mem_setIfInBounds hy with z | z
  · exact h y z
  · rw [z]
    exact hx
theorem set_there {s : Shared} {g : Nat} {x : GenState} (h : g + 1 ≤ (s.setGen g x).gens.size) : (s.setGen g x).gens[g]? = some x := by
  rw [setGen_size] at h
  have : g < s.gens.size := h
  simp [Shared.setGen, this]
section
variable {Y : Cx} {A : Around} {ps : List (Addr × Obj)} {a : Addr} {ao : Obj} {g : Nat} {stop : Bool} {Q : VK}
theorem woken {n : Nat} {s : Shared} {E : Value → Shared → Prop} (hh : A.handled = none) (hroom : A.depth < recursionLimit) (ha : (a, ao) ∈ ps) (hao : ∃ nm qn, ao.cls = .type "generator" ∧ ao.data = .fields #[.int g 0, nm, qn] ∧ ao.slots = #[])
    (h : Ready Y A.in1 ps g stop Q n s) : wpAny (model Y.prog Y.w) A (pyNext (.ref a)) (Woke Y A.in1 ps g stop Q n) E s := by
  obtain ⟨⟨σ, H, I⟩, gs, hgs, go⟩ := h
  obtain ⟨nm, qn, c1, c2, c3⟩ := hao
  have ge : s.heap.IsGen a g := ⟨ao, nm, qn, (I.pin (a, ao) (List.mem_append_right _ ha)).1, c1, c2, c3⟩
  have glt : g + 1 ≤ s.gens.size := by
    obtain ⟨z, _⟩ := Array.getElem?_eq_some_iff.mp hgs
    exact z
  have b0 : AllBare (s.setGen g .running).gens := bare_set I.bare rfl
  refine wpAny_gsz glt (wpAny_mono (wpAny_pyNext_genexpQ (P := fun _ _ s => GEnd Y ps stop Q s) hh I.nolimit hroom ge hgs (go _ ⟨rfl, rfl, b0⟩) (fun v s1 gs' hb hv => ?_) (fun s1 hp h' hk => ?_)) (fun r s' z => z) fun e s' (z : False) => False.elim z)
  · intro hsz
    obtain ⟨b, σ1, H1, rfl, I1, q⟩ := hv
    have b1 : AllBare (s1.setGen g gs').gens := bare_set I1.bare hb
    have I2 : Inv Y ps σ1 H1 (s1.setGen g gs') := inv_gens I1 rfl rfl b1
    refine ⟨b, rfl, ?_⟩
    by_cases e : b = stop
    · rw [if_pos e] at q ⊢
      exact ⟨σ1, H1, I2, q⟩
    · rw [if_neg e] at q ⊢
      cases n with
      | zero => exact (q s1 ⟨rfl, rfl, I1.bare⟩).elim
      | succ k => exact ⟨k, Nat.lt_succ_self k, ⟨σ1, H1, I2⟩, gs', set_there hsz, fun s' lk => q s' ⟨lk.1, lk.2.1, lk.2.2⟩⟩
  · intro _
    obtain ⟨σ1, H1, I1, q⟩ := hp
    have I2 : Inv Y ps σ1 H1 { s1 with heap := h', toks := s1.toks } := I1.kept hk
    exact ⟨σ1, H1, inv_gens I2 rfl rfl (bare_set I1.bare rfl), q⟩
/-- how the builtin ends -/
def Told (Y : Cx) (ps : List (Addr × Obj)) (Q : VK) (r : Result) (s : Shared) : Prop := ∃ b σ H, r = .ok (.ret (.bool b)) ∧ Inv Y ps σ H s ∧ Q (.bl b) H
theorem loop_all (hh : A.handled = none) (hroom : A.depth < recursionLimit) (ha : (a, ao) ∈ ps) (hao : ∃ nm qn, ao.cls = .type "generator" ∧ ao.data = .fields #[.int g 0, nm, qn] ∧ ao.slots = #[]) :
    ∀ (n : Nat) (s : Shared), Ready Y A.in1.in1 ps g false Q n s → codeAny (model Y.prog Y.w) A (.builtin "all.loop" ⟨[.ref a], []⟩) (Told Y ps Q) s := by
  intro n
  induction n using Nat.strongRecOn with
  | ind n ih =>
    intro s h
    refine codeAny_builtin F.entry_all_loop ?_
    rw [Around.under_plainId F.plain_all_loop _]
    show wpAny _ A.in1 (pyNext (.ref a) >>= _) _ _ s
    refine wpAny_bind (wpAny_mono (woken (A := A.in1) hh hroom ha hao h) (fun r s' w => ?_) fun _ _ z => z)
    cases r with
    | none =>
      obtain ⟨σ, H, I, q⟩ := w
      exact wpAny_bind (wpAny_rule (wpAny_pure ⟨true, σ, H, rfl, I, q⟩))
    | some v =>
      obtain ⟨b, rfl, w⟩ := w
      refine wpAny_bind (wpAny_holding (wpAny_truthy_bool ?_))
      refine wpAny_bind (wpAny_letGo ?_)
      cases b with
      | true =>
        rw [if_neg (by decide)] at w
        obtain ⟨k, hk, w⟩ := w
        simp only [if_true]
        exact wpAny_pure ⟨plainId_quiet F.plain_all_loop _, ih k hk s' w⟩
      | false =>
        rw [if_pos rfl] at w
        obtain ⟨σ, H, I, q⟩ := w
        simp only [Bool.false_eq_true, if_false]
        exact wpAny_bind (wpAny_rule (wpAny_pure ⟨false, σ, H, rfl, I, q⟩))
theorem loop_any (hh : A.handled = none) (hroom : A.depth < recursionLimit) (ha : (a, ao) ∈ ps) (hao : ∃ nm qn, ao.cls = .type "generator" ∧ ao.data = .fields #[.int g 0, nm, qn] ∧ ao.slots = #[]) :
    ∀ (n : Nat) (s : Shared), Ready Y A.in1.in1 ps g true Q n s → codeAny (model Y.prog Y.w) A (.builtin "any.loop" ⟨[.ref a], []⟩) (Told Y ps Q) s := by
  intro n
  induction n using Nat.strongRecOn with
  | ind n ih =>
    intro s h
    refine codeAny_builtin F.entry_any_loop ?_
    rw [Around.under_plainId F.plain_any_loop _]
    show wpAny _ A.in1 (pyNext (.ref a) >>= _) _ _ s
    refine wpAny_bind (wpAny_mono (woken (A := A.in1) hh hroom ha hao h) (fun r s' w => ?_) fun _ _ z => z)
    cases r with
    | none =>
      obtain ⟨σ, H, I, q⟩ := w
      exact wpAny_bind (wpAny_rule (wpAny_pure ⟨false, σ, H, rfl, I, q⟩))
    | some v =>
      obtain ⟨b, rfl, w⟩ := w
      refine wpAny_bind (wpAny_holding (wpAny_truthy_bool ?_))
      refine wpAny_bind (wpAny_letGo ?_)
      cases b with
      | false =>
        rw [if_neg (by decide)] at w
        obtain ⟨k, hk, w⟩ := w
        simp only [Bool.false_eq_true, if_false]
        exact wpAny_pure ⟨plainId_quiet F.plain_any_loop _, ih k hk s' w⟩
      | true =>
        rw [if_pos rfl] at w
        obtain ⟨σ, H, I, q⟩ := w
        simp only [if_true]
        exact wpAny_bind (wpAny_rule (wpAny_pure ⟨true, σ, H, rfl, I, q⟩))
end
/-! ### its making -/
/-- .. over iter, P the def's own table of code -/
def tGn (P : Addr) (own : List Nat) (stop : Bool) (wi : TI) (g : TG) (te : TE) : TE := fun σ H Q => wi σ H fun J H1 => TabG H1 P ∧ ∃ W : Nat → Nat → Hp → Prop, (∀ H2, Tabbed P H1 H2 → ∃ m, W 0 m H2) ∧ Way J g te stop own σ Q W
/-- it is made, nothing has been woken -/
def Fresh (X : Cx) (pins : List (Addr × Obj)) (σ : L2.St) (stop : Bool) (Q : VK) (a : Addr) (s : Shared) : Prop :=
  ∃ (Y : Cx) (ao : Obj) (g n : Nat), Y.prog = X.prog ∧ Y.w = X.w ∧ (∃ nm qn, ao.cls = .type "generator" ∧ ao.data = .fields #[.int g 0, nm, qn] ∧ ao.slots = #[]) ∧ Ready Y X.A.in1.in1 [(a, ao)] g stop Q n s ∧
    ∀ σ' H' s', Inv Y [(a, ao)] σ' H' s' → Inv X pins σ H' s'
section
variable {X : Cx} {pins : List (Addr × Obj)} {σ : L2.St} {H : Hp} {s : Shared} {c P : Addr} {elt tg iter : Expr} {sc : Scope} {own : List (Str × Nat)} {wi : TI} {g : TG} {te : TE} {k : Nat} {stop : Bool} {gpos : Pos}
theorem gen_made {Q : VK} {Q' : Value → Shared → Prop} (hr : Room (k + 1) X.A) (hN : X.N.Nodup) (TB : TabB X.base X.mg c P) (hcode : X.env.code = .ref c) (ok : NmOk X.N X.env.scope sc own) (hi : PI X tg iter wi) (hs : ∀ v, genFold iter X.env v = pure v)
    (hg : ∀ (s : Shared) (H : Hp) (A : Around) (C : Addr) (cd : Value) (fp : List Addr), PG (inGen X s H A (genEnv sc (cloFrom X.env.cells sc.names []) C cd builtinsNs X.env) fp) tg g)
    (he : ∀ (s : Shared) (H : Hp) (A : Around) (C : Addr) (cd : Value) (fp : List Addr), Room k (A.deeper (genEnv sc (cloFrom X.env.cells sc.names []) C cd builtinsNs X.env)) → A.guards = X.A.guards → PE (inGen X s H A (genEnv sc (cloFrom X.env.cells sc.names []) C cd builtinsNs X.env) fp) elt te)
    (I : Inv X pins σ H s) (h : tGn P (own.map (·.2)) stop wi g te σ H Q) (hQ : ∀ a s', Fresh X pins σ stop Q a s' → Q' (.ref a) s') :
    wpAny (model X.prog X.w) X.A (eval (.GeneratorExp elt [⟨tg, iter, [], 0⟩] sc gpos) X.env) Q' X.xe s := by
  have hfree : ∀ y ∈ sc.names, y.2 = .free → ∃ c, X.env.cells.lookup y.1 = some c := fun y hy e => I.ok.has _ (ok.blk.free y hy e)
  refine wpAny_GeneratorExp_make ok.co (closure_ok hfree) ok.cell ok.dot ok.blk.kind (by have := hr.dp; omega) ?_ hs
  refine thn (hi.run pins s σ H _ I h) fun xv s1 hx => thn hx fun itv s2 h2 => ?_
  obtain ⟨it, fp, tn, J, H2, rfl, I2, T, st2, f2, ⟨qs, hP, ht⟩, W, w0, way⟩ := h2
  have oP : s2.heap.get? P = some { cls := .none, data := .fields qs } := I2.hok P _ hP
  have nP : ∀ b ∈ fp, b ≠ P := fun b hb z => by
    have := (f2 b hb).1
    rw [z, hP] at this
    cases this
  refine ⟨I2.nolimit, LE.code_step (ps := qs) hcode (TB.code.keeps I2.bk) oP ht fun code h3 tk more ex ge hP3 ht3 => ?_⟩
  have I4 : Inv X pins σ (upd H2 P (.tbl (qs ++ more))) { s2 with heap := h3, toks := tk } := GxR.inv_tab (g' := s2.gens) (d' := s2.drawn) (t' := tk) I2 hP (fun b o n e => ex b o n e) hP3 I2.bare
  have tab : Tabbed P H2 (upd H2 P (.tbl (qs ++ more))) := ⟨⟨_, upd_same, ht3⟩, fun b n => upd_ne n⟩
  have st4 : tn 0 h3 := T.keep _ _ _ st2 fun b hb o e => ex b o (nP b hb) e
  have f4 : ∀ b ∈ fp, FpOk X pins (upd H2 P (.tbl (qs ++ more))) b := fun b hb => ⟨by rw [upd_ne (nP b hb)]; exact (f2 b hb).1, (f2 b hb).2⟩
  have lt4 : ∀ b ∈ fp, b < h3.objs.size := fun b hb => by
    obtain ⟨o, e, _⟩ := T.obj _ _ st4 b hb
    exact Heap.lt_size e
  obtain ⟨m0, w0⟩ := w0 _ tab
  generalize hH4 : upd H2 P (.tbl (qs ++ more)) = H4 at I4 tab f4 w0
  generalize hs4 : ({ s2 with heap := h3, toks := tk } : Shared) = s4 at I4
  have e4 : s4.heap = h3 := by rw [← hs4]
  rw [← e4] at st4 lt4
  obtain ⟨bm, ob, e1, e2, e3, e4', e5, e6, e7, e8⟩ := TB.bm
  refine wpAny_builtinsFor (m := X.mg) (by rw [I4.ok.glob]; exact I4.mod.glob.keeps I4.bk) e1 e2 (I4.bk _ _ e5) e6 e7 e8 ?_
  intro h' hn' hs'
  have hsz : h'.objs.size = s4.heap.objs.size + 1 := by rw [hs'.1, Heap.size_push]
  have keep' : ∀ b o, s4.heap.get? b = some o → h'.get? b = some o := fun b o e => hs'.extBut b o (Nat.ne_of_lt (Heap.lt_size e)) (Heap.get?_push_of_some _ e)
  generalize hce : genEnv sc (cloFrom X.env.cells sc.names []) s4.heap.objs.size code builtinsNs X.env = ce
  generalize hs5 : ({ s4 with gens := s4.gens.push (.fresh (.compStart (.GeneratorExp elt [⟨tg, iter, [], 0⟩] sc gpos) 0 (.ref it) .none ce)), toks := s4.toks + 1 + 1 + 1, heap := h'.push { cls := .type "generator", data := .fields #[.int s4.gens.size 0, .str "<genexpr>" (s4.toks + 1), .str (X.env.qual ++ "<genexpr>") (s4.toks + 1 + 1)] } } : Shared) = s5
  have h5 : s5.heap = h'.push { cls := .type "generator", data := .fields #[.int s4.gens.size 0, .str "<genexpr>" (s4.toks + 1), .str (X.env.qual ++ "<genexpr>") (s4.toks + 1 + 1)] } := by rw [← hs5]
  have g5 : s5.gens = s4.gens.push (.fresh (.compStart (.GeneratorExp elt [⟨tg, iter, [], 0⟩] sc gpos) 0 (.ref it) .none ce)) := by rw [← hs5]
  have o5 : s5.os = s4.os := by rw [← hs5]
  have kp : ∀ b o, s4.heap.get? b = some o → s5.heap.get? b = some o := fun b o e => by
    rw [h5]
    exact Heap.get?_push_of_some _ (keep' b o e)
  have hA : X.A.in1.in1.handled = none := hr.hd
  have J5 := gen_start (A := X.A.in1.in1) (code := code) (s5 := s5) (m := fun y => if y = (".0" : Str) then some (.ref it) else none) I4 ok hN (fun b hb => ⟨f4 b hb, lt4 b hb⟩) (show X.A.in1.in1.frames = _ from I4.ok.frames) hA o5
    (by rw [g5]; exact I4.bare.push rfl) kp (by rw [h5]; exact hn'.push _)
  have pg := hg s4 H4 X.A.in1.in1 s4.heap.objs.size code fp
  have pe := he s4 H4 X.A.in1.in1 s4.heap.objs.size code fp ⟨hr.hd, by have := hr.dp; show X.A.depth + 1 + 3 * k + 5 < _; omega, by have := hr.un; show X.A.units + 1 + 1 + 3 + 16 * k + 200 < _; omega⟩ rfl
  rw [hce] at J5 pg pe
  have hcl : ce.locals = s4.heap.objs.size := by rw [← hce]; rfl
  have hcs : ce.scope = sc := by rw [← hce]; rfl
  have hcc : ce.cells = cloFrom X.env.cells sc.names [] := by rw [← hce]; rfl
  have ae : h'.objs.size = s4.heap.objs.size + 1 := hsz
  have fsS : ∀ b ∈ frs X.stack, b < s4.heap.objs.size := fun b hb => by
    rcases List.mem_cons.mp (I4.stkSub b hb) with z | z
    · rw [z]
      exact I4.lt
    · rcases Nat.lt_or_ge b s4.heap.objs.size with y | y
      · exact y
      · exact absurd z (I4.nofs y)
  refine hQ _ _ ⟨inGen X s4 H4 X.A.in1.in1 ce fp, { cls := .type "generator", data := .fields #[.int s4.gens.size 0, .str "<genexpr>" (s4.toks + 1), .str (X.env.qual ++ "<genexpr>") (s4.toks + 1 + 1)] }, s4.gens.size, m0 + 1, rfl, rfl, ⟨_, _, rfl, rfl, rfl⟩, ?_, fun σ' H' s' J' => ?_⟩
  · have J6 : Inv (inGen X s4 H4 X.A.in1.in1 ce fp) [(h'.objs.size, { cls := .type "generator", data := .fields #[.int s4.gens.size 0, .str "<genexpr>" (s4.toks + 1), .str (X.env.qual ++ "<genexpr>") (s4.toks + 1 + 1)] })] (wipe σ (own.map (·.2))) H4 s5 := by
      refine J5.pins_of fun p hp => ?_
      rw [List.mem_singleton.mp hp]
      refine ⟨by rw [h5]; exact Heap.get?_push_size _ rfl, I4.hok.fresh (by rw [ae]; exact Nat.le_succ _), by show h'.objs.size ≠ ce.locals; rw [hcl, ae]; exact Nat.succ_ne_self _, fun z => ?_, fun v z => nomatch z⟩
      have lz : h'.objs.size < s4.heap.objs.size := fsS _ z
      rw [ae] at lz
      exact absurd lz (Nat.not_lt.mpr (Nat.le_succ _))
    refine ⟨⟨_, _, J6⟩, .fresh (.compStart (.GeneratorExp elt [⟨tg, iter, [], 0⟩] sc gpos) 0 (.ref it) .none ce), (by rw [g5]; exact Array.getElem?_push_size ..), fun s6 lk => ⟨rfl, ?_⟩⟩
    refine seg_first (Y := inGen X s4 H4 X.A.in1.in1 ce fp) (A := X.A.in1.in1) (T := T) (W := W) (J := J) rfl (fun _ _ z => z) rfl (by show ce.scope.isCoroutine = false; rw [hcs]; exact ok.co) pg pe way (fun Hx hn b hb => ?_) (Nat.lt_succ_self m0) w0 (inv_gens J6 lk.1 lk.2.1 lk.2.2) (by rw [lk.2.1]; exact T.keep _ _ _ st4 fun b _ o e => kp b o e) fun b hb => (f4 b hb).1
    have lb := lt4 b hb
    refine ⟨hn b hb, by show b ≠ ce.locals; rw [hcl]; exact Nat.ne_of_lt lb, fun z => ?_, .inl hb, fun y cc e z => ?_, fun p hp z => ?_⟩
    · rcases List.mem_cons.mp (I4.stkSub b z) with y | y
      · exact (f4 b hb).2.1 y
      · exact (f4 b hb).2.2.1 y
    · have e : ce.cells.lookup y = some cc := e
      rw [hcc] at e
      rcases cloFrom_mem (PySem.mem_of_lookup e) with hm | ⟨h1, h2⟩
      · cases hm
      · obtain ⟨c2, e2⟩ := hfree _ h1 rfl
        have e2' : X.env.cells.lookup y = some c2 := e2
        rw [e2'] at h2
        exact (f4 b hb).2.2.2.2.1 y c2 e2 (by rw [← z]; exact h2.symm)
    · have hp' : p ∈ [(h'.objs.size, ({ cls := .type "generator", data := .fields #[.int s4.gens.size 0, .str "<genexpr>" (s4.toks + 1), .str (X.env.qual ++ "<genexpr>") (s4.toks + 1 + 1)] } : Obj))] := hp
      rw [List.mem_singleton.mp hp'] at z
      have z' : h'.objs.size = b := z
      rw [← z', ae] at lb
      exact absurd lb (Nat.not_lt.mpr (Nat.le_succ _))
  · refine I4.call' (ch := fp) J'.os J'.base J'.hok J'.bare fun b hb => ?_
    have := f4 b hb
    exact ⟨this.2.2.2.1, this.2.1, this.2.2.2.2.1, this.2.2.2.2.2⟩
section
variable {p pos : Pos}
theorem pe_allG (hr : Room (k + 1) X.A) (hN : X.N.Nodup) (hgl : Gl X "all") (hm : X.mg "all" = none) (TB : TabB X.base X.mg c P) (hcode : X.env.code = .ref c) (ok : NmOk X.N X.env.scope sc own) (hi : PI X tg iter wi)
    (hg : ∀ (s : Shared) (H : Hp) (A : Around) (C : Addr) (cd : Value) (fp : List Addr), PG (inGen X s H A (genEnv sc (cloFrom X.env.cells sc.names []) C cd builtinsNs X.env) fp) tg g)
    (he : ∀ (s : Shared) (H : Hp) (A : Around) (C : Addr) (cd : Value) (fp : List Addr), Room k (A.deeper (genEnv sc (cloFrom X.env.cells sc.names []) C cd builtinsNs X.env)) → A.guards = X.A.guards → PE (inGen X s H A (genEnv sc (cloFrom X.env.cells sc.names []) C cd builtinsNs X.env) fp) elt te)
    (hs : ∀ v, genFold iter X.env v = pure v := by intro _; rfl) (hst : starEach [.GeneratorExp elt [⟨tg, iter, [], 0⟩] sc gpos] X.env = (false, eval (.GeneratorExp elt [⟨tg, iter, [], 0⟩] sc gpos) X.env) :: starEach [] X.env := by rfl) :
    PE X (.Call (.Name "all" p) [.GeneratorExp elt [⟨tg, iter, [], 0⟩] sc gpos] [] pos) (tGn P (own.map (·.2)) false wi g te) := by
  refine ⟨fun pins s σ H Q I h => wpAny_Call_Name_kw (ld_blt I hgl hm (by decide +kernel : bootBuiltins "all" = some (.builtin "all")) (PyProof.Rows.callWith_builtin1 ?_ hst (by rfl)))⟩
  rw [hst]
  refine Calls.spliced_cons (gen_made hr hN TB hcode ok hi hs hg he I h fun a s5 ⟨Y, ao, gn, n, rfl1, rfl2, hao, rd, back⟩ => Calls.spliced_nil ?_)
  refine call_function_tree F.kind_all F.plain_all F.entry_all (F.args_all1 _) ?_
  unfold Builtin.«all»
  refine wpAny_bind (m := oneArg "all" _) (wpAny_pure ?_)
  obtain ⟨nm, qn, c1, c2, c3⟩ := id hao
  obtain ⟨⟨σ6, H6, I6⟩, _⟩ := id rd
  rw [← rfl1, ← rfl2]
  refine wpAny_bind (wpAny_pyIter_gen (g := gn) ⟨ao, nm, qn, (I6.pin (a, ao) (List.mem_append_right _ List.mem_cons_self)).1, c1, c2, c3⟩ ?_)
  refine wpAny_pure ⟨plainId_quiet F.plain_all_loop _, codeAny_mono (loop_all (A := X.A) hr.hd (by have := hr.dp; omega) List.mem_cons_self hao n s5 rd) fun r s' z => ?_⟩
  obtain ⟨b, σ7, H7, rfl, I7, q⟩ := z
  exact ⟨.bl b, H7, back _ _ _ I7, rfl, q⟩
theorem pe_anyG (hr : Room (k + 1) X.A) (hN : X.N.Nodup) (hgl : Gl X "any") (hm : X.mg "any" = none) (TB : TabB X.base X.mg c P) (hcode : X.env.code = .ref c) (ok : NmOk X.N X.env.scope sc own) (hi : PI X tg iter wi)
    (hg : ∀ (s : Shared) (H : Hp) (A : Around) (C : Addr) (cd : Value) (fp : List Addr), PG (inGen X s H A (genEnv sc (cloFrom X.env.cells sc.names []) C cd builtinsNs X.env) fp) tg g)
    (he : ∀ (s : Shared) (H : Hp) (A : Around) (C : Addr) (cd : Value) (fp : List Addr), Room k (A.deeper (genEnv sc (cloFrom X.env.cells sc.names []) C cd builtinsNs X.env)) → A.guards = X.A.guards → PE (inGen X s H A (genEnv sc (cloFrom X.env.cells sc.names []) C cd builtinsNs X.env) fp) elt te)
    (hs : ∀ v, genFold iter X.env v = pure v := by intro _; rfl) (hst : starEach [.GeneratorExp elt [⟨tg, iter, [], 0⟩] sc gpos] X.env = (false, eval (.GeneratorExp elt [⟨tg, iter, [], 0⟩] sc gpos) X.env) :: starEach [] X.env := by rfl) :
    PE X (.Call (.Name "any" p) [.GeneratorExp elt [⟨tg, iter, [], 0⟩] sc gpos] [] pos) (tGn P (own.map (·.2)) true wi g te) := by
  refine ⟨fun pins s σ H Q I h => wpAny_Call_Name_kw (ld_blt I hgl hm boot_any (PyProof.Rows.callWith_builtin1 ?_ hst (by rfl)))⟩
  rw [hst]
  refine Calls.spliced_cons (gen_made hr hN TB hcode ok hi hs hg he I h fun a s5 ⟨Y, ao, gn, n, rfl1, rfl2, hao, rd, back⟩ => Calls.spliced_nil ?_)
  refine call_function_tree F.kind_any F.plain_any F.entry_any (F.args_any1 _) ?_
  unfold Builtin.«any»
  refine wpAny_bind (m := oneArg "any" _) (wpAny_pure ?_)
  obtain ⟨nm, qn, c1, c2, c3⟩ := id hao
  obtain ⟨⟨σ6, H6, I6⟩, _⟩ := id rd
  rw [← rfl1, ← rfl2]
  refine wpAny_bind (wpAny_pyIter_gen (g := gn) ⟨ao, nm, qn, (I6.pin (a, ao) (List.mem_append_right _ List.mem_cons_self)).1, c1, c2, c3⟩ ?_)
  refine wpAny_pure ⟨plainId_quiet F.plain_any_loop _, codeAny_mono (loop_any (A := X.A) hr.hd (by have := hr.dp; omega) List.mem_cons_self hao n s5 rd) fun r s' z => ?_⟩
  obtain ⟨b, σ7, H7, rfl, I7, q⟩ := z
  exact ⟨.bl b, H7, back _ _ _ I7, rfl, q⟩
end
end
/-- over what Walk tells of, by a word of the turn and the heap -/
theorem gn_it {J : It} {n : Nat} {G : Hp → Prop} {Yl : Nat → Hp → V → Hp → Prop} (w : Walk J n G Yl) {P : Addr} {g : TG} {te : TE} {stop : Bool} {vs : List Nat} {σ : L2.St} {H1 : Hp} {Q : VK} (Pv : Nat → Hp → Prop) (h0 : ∀ H2, Tabbed P H1 H2 → Pv 0 H2)
    (hG : ∀ i H, i ≤ n → Pv i H → G H) (hs : ∀ i x H H', i < n → Pv i H → Yl i H x H' → g x (wipe σ vs) H' fun σ2 H2 => wipe σ2 vs = wipe σ vs ∧ te σ2 H2 fun v H4 => ∃ b, v = .bl b ∧ if b = stop then Q (.bl stop) H4 else Pv (i + 1) H4)
    (hd : ∀ H, Pv n H → Q (.bl (!stop)) H) : ∃ W : Nat → Nat → Hp → Prop, (∀ H2, Tabbed P H1 H2 → ∃ m, W 0 m H2) ∧ Way J g te stop vs σ Q W := by
  refine ⟨fun i m H => m = n - i ∧ i ≤ n ∧ Pv i H, fun H2 t => ⟨n, by simp, Nat.zero_le _, h0 H2 t⟩, ⟨?_⟩⟩
  rintro i m H ⟨rfl, hi, p⟩
  have q := hG i H hi p
  by_cases hlt : i < n
  · refine .inr ⟨w.goes i H hlt q, fun x H' y => ?_⟩
    have z := hs i x H H' hlt p (w.yields i H x H' hlt q y)
    have e : (fun (b : Bool) (H4 : Hp) => if b = stop then Q (.bl stop) H4 else ∃ m', m' < n - i ∧ m' = n - (i + 1) ∧ i + 1 ≤ n ∧ Pv (i + 1) H4) = fun b H4 => if b = stop then Q (.bl stop) H4 else Pv (i + 1) H4 := by
      funext b H4
      split
      · rfl
      · refine propext ⟨fun ⟨_, _, _, _, z⟩ => z, fun z => ⟨n - (i + 1), by omega, rfl, hlt, z⟩⟩
    have e2 : (fun v H4 => ∃ b, v = V.bl b ∧ if b = stop then Q (.bl stop) H4 else ∃ m', m' < n - i ∧ m' = n - (i + 1) ∧ i + 1 ≤ n ∧ Pv (i + 1) H4) = fun v H4 => ∃ b, v = V.bl b ∧ if b = stop then Q (.bl stop) H4 else Pv (i + 1) H4 := by
      funext v H4
      exact congrArg (fun f : Bool → Hp → Prop => ∃ b, v = V.bl b ∧ f b H4) e
    rw [e2]
    exact z
  · have e : i = n := by omega
    subst e
    exact .inl ⟨w.stops H q, hd H p⟩
section
variable {A B : Prop}
theorem on_t (h : B) : if true = false then A else B := by rw [if_neg (by decide)]; exact h
theorem end_f (h : A) : if false = false then A else B := by rw [if_pos rfl]; exact h
theorem on_f (h : B) : if false = true then A else B := by rw [if_neg (by decide)]; exact h
theorem end_t (h : A) : if true = true then A else B := by rw [if_pos rfl]; exact h
end
end GN
-- GT
/-! the law's own call under known guards, with the tables of the code objects that hold generator expressions -/
namespace LG
open PySem PySem.Spec PyProof.Rows L2
open GxR (TabB)
section
variable {P : Program} {w : World} {K : PySem.W.Frag} {mg mb : Str → Option Value} {k : Nat} {fa a : Addr} {fd : FuncData} {x : Str} {sp : Sp} {s₁ : Shared} {vs : List Value} {ns : List Int} {cs : List (Addr × Addr)}
/-- the abstract heap at the start: the script (if it is no written thing), the tables, nothing else -/
structure Begin (K : PySem.W.Frag) (cs : List (Addr × Addr)) (a : Addr) (H : Hp) : Prop where
  tab : ∀ p ∈ cs, H p.2 = some (.tbl #[])
  only : ∀ b u, H b = some u → (b ∈ cs.map (·.2) ∧ u = .tbl #[]) ∨ (b = a ∧ K.lookup a = none ∧ ∃ o xs, u = .frz o (.lst xs))
theorem enterT (KX : K.In s₁.heap) (gl : s₁.heap.Ns mainGlobals mg) (bl : s₁.heap.Ns builtinsNs mb) (bb : ∀ y : Str, y ≠ "__name__" → mb y = bootBuiltins y) (nl : s₁.heap.NoLimit) (g0 : s₁.gens = #[])
    (tb : ∀ p ∈ cs, s₁.heap.get? p.2 = some { cls := .none, data := .fields #[] }) (nk : ∀ p ∈ cs, K.lookup p.2 = none) (hd : ∀ p ∈ cs, PySem.W.CodeHd s₁.heap p.1 p.2)
    (bmn : ∃ (bm : Addr) (ob : Obj), mg "__builtins__" = some (.ref bm) ∧ bm ≠ builtinsNs ∧ s₁.heap.get? bm = some ob ∧ ob.cls = .type "module" ∧ ob.dict = some builtinsNs ∧ ob.data = .plain)
    (at_ : s₁.heap.get? a = some { cls := .type "list", data := .seq vs.toArray }) (room : Room k callerA) (bind : ∀ (s : Shared) (u : Value), BindsTo s fd ⟨[u], []⟩ [(x, u)])
    (F : ∀ base : Heap, K.In base → base.Ns mainGlobals mg → (∀ p ∈ cs, TabB base mg p.1 p.2) → FnG P w K mg base CX0 k fa fd [x] sp) {H : Hp} (bg : Begin K cs a H) (ok : HOk P w H s₁.heap)
    (want : sp [.ref a] H (fun v _ => v = .bl true) fun _ _ _ => False) :
    codeAny (model P w) callerA (.call (.ref fa) ⟨[.ref a], []⟩) (fun r s' => r = .ok (.ret (.bool true)) ∧ OldK s₁.heap s'.heap ∧ s'.os = s₁.os ∧ AllBare s'.gens) s₁ := by
  have tbm : ∀ b, b ∈ cs.map (·.2) → s₁.heap.get? b = some { cls := .none, data := .fields #[] } := fun b z => by
    obtain ⟨p, hp, rfl⟩ := List.mem_map.mp z
    exact tb p hp
  -- what is no list and no table is not told of
  have free : ∀ {b : Addr} {o : Obj}, s₁.heap.get? b = some o → (∀ it n, o.data ≠ .seq it n) → o.data ≠ .fields #[] → H b = none := fun {b o} z nd nf => by
    cases q : H b with
    | none => rfl
    | some u =>
      rcases bg.only b u q with ⟨m, _⟩ | ⟨rfl, _⟩
      · rw [tbm b m] at z
        cases z
        exact absurd rfl nf
      · rw [at_] at z
        cases z
        exact absurd rfl (nd vs.toArray _)
  have dic : ∀ {b : Addr} {o : Obj} {es : Array DictEntry} {ep : Nat}, s₁.heap.get? b = some o → o.data = .dict es ep → H b = none := fun {b o es ep} z d => free z (fun it n y => by rw [d] at y; exact nomatch y) fun y => by rw [d] at y; exact nomatch y
  have nsOf : ∀ {b : Addr} {m : Str → Option Value}, s₁.heap.Ns b m → (hidT s₁.heap H).Ns b m := fun {b m} ⟨o, es, ep, z, d, r⟩ => ⟨o, es, ep, hidT_get z (dic z d), d, r⟩
  have inB : K.In (hidT s₁.heap H) := fun b o z => by
    refine hidT_get (KX b o z) ?_
    cases q : H b with
    | none => rfl
    | some u =>
      rcases bg.only b u q with ⟨m, _⟩ | ⟨rfl, nl, _⟩
      · obtain ⟨p, hp, rfl⟩ := List.mem_map.mp m
        rw [nk p hp] at z
        cases z
      · rw [nl] at z
        cases z
  have md : Mod K mg (hidT s₁.heap H) := ⟨inB, nsOf gl, ⟨mb, nsOf bl, bb⟩, let ⟨mc, y1, y2⟩ := nl; ⟨mc, nsOf y1, y2⟩⟩
  have tabs : ∀ p ∈ cs, TabB (hidT s₁.heap H) mg p.1 p.2 := fun p hp => by
    have hP := tb p hp
    refine ⟨?_, ?_, fun z => ?_⟩
    · obtain ⟨o, us, f, tf, fl, tg, i, t, tt, z, c1, c2, c3, r⟩ := hd p hp
      refine ⟨o, us, f, tf, fl, tg, i, t, tt, hidT_get z (free z (fun it n y => by rw [c2] at y; exact nomatch y) fun y => ?_), c1, c2, c3, r⟩
      rw [c2] at y
      cases y
      simp at c3
    · obtain ⟨bm, ob, b1, b2, b3, b4, b5, b6⟩ := bmn
      refine ⟨bm, ob, b1, b2, fun z => ?_, fun z => ?_, hidT_get b3 (free b3 (fun it n y => by rw [b6] at y; exact nomatch y) fun y => by rw [b6] at y; exact nomatch y), b4, b5, b6⟩
      · obtain ⟨o, es, ep, e, d, _⟩ := gl
        rw [z, e] at b3
        cases b3
        rw [d] at b6
        exact nomatch b6
      · rw [z, hP] at b3
        cases b3
        exact nomatch b6
    · obtain ⟨o, es, ep, e, d, _⟩ := gl
      rw [z, hP] at e
      cases e
      exact nomatch d
  have en : Env0 P w K mg (hidT s₁.heap H) callerA [] s₁ H := ⟨rfl, md, fun b o z => of_hidT z, Nat.le_of_eq (hidT_size _ _), trivial, fun b z => absurd (show b ∈ ([] : List Addr) from z) (List.not_mem_nil), ok, .of_eq g0⟩
  refine codeAny_mono ((F _ inB (nsOf gl) tabs).run callerA [] s₁ H ⟨[.ref a], []⟩ [.ref a] [.ref a] _ _ room rfl en (bind s₁ (.ref a)) (.cons rfl .nil) want) fun r s' h => ?_
  cases r with
  | error e => exact False.elim h
  | ok fl =>
    cases fl with
    | next => exact False.elim h
    | brk => exact False.elim h
    | cont => exact False.elim h
    | ret u =>
      obtain ⟨v, G, e1, e2, un, okG, rel, q⟩ := h
      obtain rfl : v = V.bl true := q
      obtain rfl : u = Value.bool true := rel
      -- a table may have grown, all else stands
      have grow : ∀ p ∈ cs, ∃ more : Array Value, s'.heap.get? p.2 = some { cls := .none, data := .fields more } := fun p hp => by
        obtain ⟨more, z⟩ := un.tbls p.2 #[] (bg.tab p hp)
        exact ⟨_, okG p.2 _ z⟩
      have stay : ∀ b o, b ∉ cs.map (·.2) → s₁.heap.get? b = some o → s'.heap.get? b = some o := fun b o nb z => by
        cases q : H b with
        | none => exact un.keep b o z q (fun y => nomatch y) (fun y => nomatch y)
        | some u =>
          rcases bg.only b u q with ⟨m, _⟩ | ⟨_, _, ob, xs, rfl⟩
          · exact absurd m nb
          · have z1 := (ok b _ q).1
            have z2 := (okG b _ (un.frzs b ob _ q)).1
            rw [z] at z1
            cases z1
            exact z2
      refine ⟨rfl, ⟨fun b o z => ?_, fun b o z => ?_⟩, e1, e2⟩
      · by_cases m : b ∈ cs.map (·.2)
        · obtain ⟨p, hp, rfl⟩ := List.mem_map.mp m
          obtain ⟨more, hm⟩ := grow p hp
          rw [tb p hp] at z
          cases z
          exact .inr (.inl ⟨((hd p hp).tab (tb p hp)).isCodeTable, rfl, #[], more, rfl, by rw [Array.empty_append]; exact hm⟩)
        · exact .inl (stay b o m z)
      · by_cases m : b ∈ cs.map (·.2)
        · obtain ⟨p, hp, rfl⟩ := List.mem_map.mp m
          obtain ⟨more, hm⟩ := grow p hp
          exact ⟨_, hm⟩
        · exact ⟨o, stay b o m z⟩
theorem enterT_all (KX : K.In s₁.heap) (gl : s₁.heap.Ns mainGlobals mg) (bl : s₁.heap.Ns builtinsNs mb) (bb : ∀ y : Str, y ≠ "__name__" → mb y = bootBuiltins y) (nl : s₁.heap.NoLimit) (g0 : s₁.gens = #[])
    (tb : ∀ p ∈ cs, s₁.heap.get? p.2 = some { cls := .none, data := .fields #[] }) (nk : ∀ p ∈ cs, K.lookup p.2 = none) (hd : ∀ p ∈ cs, PySem.W.CodeHd s₁.heap p.1 p.2)
    (bmn : ∃ (bm : Addr) (ob : Obj), mg "__builtins__" = some (.ref bm) ∧ bm ≠ builtinsNs ∧ s₁.heap.get? bm = some ob ∧ ob.cls = .type "module" ∧ ob.dict = some builtinsNs ∧ ob.data = .plain)
    (at_ : s₁.heap.get? a = some { cls := .type "list", data := .seq vs.toArray }) (ia : IntsAre vs ns) (small : ns.length ≤ sizeLine) (room : Room k callerA) (bind : ∀ (s : Shared) (u : Value), BindsTo s fd ⟨[u], []⟩ [(x, u)])
    (F : ∀ base : Heap, K.In base → base.Ns mainGlobals mg → (∀ p ∈ cs, TabB base mg p.1 p.2) → FnG P w K mg base CX0 k fa fd [x] sp)
    (want : ∀ H : Hp, (∀ p ∈ cs, H p.2 = some (.tbl #[])) → SqL K H a (ns.map V.int) → sp [.ref a] H (fun v _ => v = .bl true) fun _ _ _ => False) :
    codeAny (model P w) callerA (.call (.ref fa) ⟨[.ref a], []⟩) (fun r s' => r = .ok (.ret (.bool true)) ∧ OldK s₁.heap s'.heap ∧ s'.os = s₁.os ∧ AllBare s'.gens) s₁ := by
  have rel := vals_ints ia
  have len := ia.length
  have tbm : ∀ b, b ∈ cs.map (·.2) → s₁.heap.get? b = some { cls := .none, data := .fields #[] } := fun b z => by
    obtain ⟨p, hp, rfl⟩ := List.mem_map.mp z
    exact tb p hp
  have an : a ∉ cs.map (·.2) := fun z => by
    have e := tbm a z
    rw [at_] at e
    exact nomatch congrArg Obj.data (Option.some.inj e)
  have mem : ∀ p ∈ cs, p.2 ∈ cs.map (·.2) := fun p hp => List.mem_map.mpr ⟨p, hp, rfl⟩
  cases hk : K.lookup a with
  | some o =>
    have z := KX a o hk
    rw [at_] at z
    cases z
    let H : Hp := fun b => if b ∈ cs.map (·.2) then some (.tbl #[]) else none
    have e1 : ∀ b, b ∈ cs.map (·.2) → H b = some (.tbl #[]) := fun b m => if_pos m
    have e2 : ∀ b u, H b = some u → b ∈ cs.map (·.2) ∧ u = .tbl #[] := fun b u z => by
      by_cases m : b ∈ cs.map (·.2)
      · rw [e1 b m] at z
        cases z
        exact ⟨m, rfl⟩
      · rw [show H b = none from if_neg m] at z
        cases z
    refine enterT KX gl bl bb nl g0 tb nk hd bmn at_ room bind F (H := H) ⟨fun p hp => e1 _ (mem p hp), fun b u z => .inl (e2 b u z)⟩ (fun b u z => ?_)
      (want H (fun p hp => e1 _ (mem p hp)) (.inr ⟨_, vs.toArray, _, hk, rfl, rfl, rfl, by rw [List.size_toArray, len]; exact small, by simpa using rel⟩))
    obtain ⟨m, rfl⟩ := e2 b u z
    exact tbm b m
  | none =>
    let ob : Obj := { cls := .type "list", data := .seq vs.toArray }
    let H : Hp := fun b => if b = a then some (.frz ob (.lst (ns.map V.int))) else if b ∈ cs.map (·.2) then some (.tbl #[]) else none
    have hit : H a = some (.frz ob (.lst (ns.map V.int))) := if_pos rfl
    have e1 : ∀ b, b ∈ cs.map (·.2) → H b = some (.tbl #[]) := fun b m => (if_neg (fun z => an (by rw [← z]; exact m))).trans (if_pos m)
    have e2 : ∀ b u, H b = some u → (b ∈ cs.map (·.2) ∧ u = .tbl #[]) ∨ (b = a ∧ u = .frz ob (.lst (ns.map V.int))) := fun b u z => by
      by_cases i : b = a
      · rw [i, hit] at z
        cases z
        exact .inr ⟨i, rfl⟩
      · by_cases m : b ∈ cs.map (·.2)
        · rw [e1 b m] at z
          cases z
          exact .inl ⟨m, rfl⟩
        · rw [show H b = none from (if_neg i).trans (if_neg m)] at z
          cases z
    refine enterT KX gl bl bb nl g0 tb nk hd bmn at_ room bind F (H := H) ⟨fun p hp => e1 _ (mem p hp), fun b u z => (e2 b u z).imp id fun ⟨i, e⟩ => ⟨i, hk, ob, _, e⟩⟩ (fun b u z => ?_) (want H (fun p hp => e1 _ (mem p hp)) (.inl (.inr ⟨ob, hit⟩)))
    rcases e2 b u z with ⟨m, rfl⟩ | ⟨rfl, rfl⟩
    · exact tbm b m
    · exact ⟨at_, by rw [List.length_map]; exact small, vs, _, rel, at_⟩
end
/-- a def of the text whose code object's table is empty at the law's start -/
def Bare (mg : Str → Option Value) (h : Heap) (nm : Str) : Prop := ∃ (a c P : Addr) (o : Obj) (fd : FuncData), mg nm = some (.ref a) ∧ h.get? a = some o ∧ o.data = .func fd ∧ fd.code = .ref c ∧ PySem.W.CodeHd h c P ∧ h.get? P = some { cls := .none, data := .fields #[] }
/-- what k_head leaves, from the law's promise; nms: the defs that hold generator expressions -/
theorem walkGT {l : PySem.W.OpenLaw} {n k : Nat} {q : Program} {loose : List Str} {XP : (Str → Option Value) → Heap → Prop} {YP : World → Heap → Prop} {d : DefRec} {K : Params → PySem.W.Frag} {x : Str} (nms : List Str)
    (hn : l.most = some n) (hz : n ≤ sizeLine) (hdf : d.params.defaults = []) (room : Room k callerA) (hrec : (nms.all fun nm => (recsOf q).any fun e => e.name == nm) = true) (hY : ∀ (w : World) (h : Heap), YP w h → (K w.params).In h)
    (F : ∀ (w : World) (mg : Str → Option Value) (fa : Addr) (h : Heap), (K w.params).In h → h.Ns mainGlobals mg → mg d.name = some (.ref fa) → (∀ nm ∈ nms, Bare mg h nm) →
      ∃ (fd : FuncData) (cs : List (Addr × Addr)) (sp : Sp), (∀ p ∈ cs, h.get? p.2 = some { cls := .none, data := .fields #[] }) ∧ (∀ p ∈ cs, (K w.params).lookup p.2 = none) ∧ (∀ p ∈ cs, PySem.W.CodeHd h p.1 p.2) ∧ (∀ (s : Shared) (u : Value), BindsTo s fd ⟨[u], []⟩ [(x, u)]) ∧
        (∀ (H : Hp) (a : Addr) (ns : List Int), ns.length ≤ n → (∀ p ∈ cs, H p.2 = some (.tbl #[])) → SqL (K w.params) H a (ns.map V.int) → sp [.ref a] H (fun v _ => v = .bl true) fun _ _ _ => False) ∧
        ∀ base : Heap, (K w.params).In base → base.Ns mainGlobals mg → (∀ p ∈ cs, TabB base mg p.1 p.2) → FnG l.prog w (K w.params) mg base CX0 k fa fd [x] sp) :
    PySem.W.WalkO q loose XP YP l.row.toRowW d [] (fun f vs => PySem.call f vs) := by
  refine Att.attach_call hn hdf fun w s0 s1 mg mb fa o pm cd doc a vs ns G Y ho hd hcd hmg hobj ia len g0 => ?_
  obtain ⟨fd, cs, sp, t1, t2, t3, bi, wt, FF⟩ := F w mg fa _ (hY w _ Y) G.T.g hmg fun nm hnm => by
    obtain ⟨e, he, en⟩ := List.any_eq_true.mp (List.all_eq_true.mp hrec nm hnm)
    obtain ⟨b, o2, fd2, c2, P2, h1, h2, h3, h4, h5, h6⟩ := G.T.tab e he
    rw [beq_iff_eq.mp en] at h1
    exact ⟨b, c2, P2, o2, fd2, h1, h2, h3, h4, PySem.W.CodeHd.of h5 h6, h6.2⟩
  exact enterT_all (hY w _ Y) G.T.g G.T.b G.T.builtins G.T.nolimit g0 t1 t2 t3 G.T.bmain hobj ia (Nat.le_trans len hz) room bi FF fun H ht hs => wt H a ns len ht hs
end LG
-- EX
/-! errors of own classes whose __init__ tells the class's name: C.__name__, e.__class__, isinstance, the whole of a raise -/
namespace LX
open PySem PySem.W PySem.Calls PyProof.Rows Builtin Builtin.ObjectAttr Builtin.Getset_descriptor
section
variable {prog : Program} {w : World} {A : Around} {E : Value → Shared → Prop} {s : Shared} {K : Frag} {R : Result → Shared → Prop} {C : Addr}
/-- the name that a class keeps in its slots -/
theorem kept_name {tp v : Value} {o : Obj} (X : K.In s.heap) (tC : typeIn K (.ref C) = some (.type "type")) (ho : K.lookup C = some o) (hs : o.slots[2]? = some (some v)) (h : R (.ok (.ret v)) s) :
    codeAny (model prog w) A (.call (.builtin "getset_descriptor.__get__") ⟨[.builtin "type.__name__", .ref C, tp], []⟩) R s := by
  obtain ⟨hp, g, dr, tk, os⟩ := s
  have isTy : Looks (model prog w) hp (typeOf (.ref C)) (.type "type") := looks_typeIn X tC
  have same : Looks (model prog w) hp (isSubtype (.type "type") (.type "type")) true := .of_pure (by rw [isSubtype_type]; kernel_rfl)
  refine codeAny_call_builtin KF.slot_gs.plain KF.entry_gs (KF.slot_gs.check _ _ _ _ _ _ _ _ ktyn_type (KF.args_gs _ _ _) ?_)
  unfold Builtin.«getset_descriptor.__get__» descrGet
  rw [show descrGetArgs ⟨[.builtin "type.__name__", .ref C, tp], []⟩ = pure (.builtin "type.__name__", some (.ref C), given tp) by kernel_rfl]
  refine wpAny_bind (wpAny_pure ?_); unfold descrGetter descrCheckInstance descrNameAndClass isInstance
  simp only [ktyn_owner]; repeat lk
  refine ⟨Code.quiet_builtin _ (by decide +kernel), codeAny_builtin ktyn_entry ?_⟩
  unfold Builtin.«type.__name__» keptObject slotAt; dsimp only
  refine wpAny_bind (wpAny_bind (wpAny_loadPart_at (X _ _ ho) (wpAny_pure ?_))); rw [hs]
  exact wpAny_pure h
theorem name_of_class {v : Value} {o : Obj} {ex : Bool} {Q : Value → Shared → Prop} (X : K.In s.heap) (hr : readsIn K C (.type "type") = true)
    (e : findCls K (.ref C) (.type "type") "__name__" = some (.get (.builtin "getset_descriptor.__get__") (.builtin "type.__name__") (.ref C) (.type "type")))
    (tC : typeIn K (.ref C) = some (.type "type")) (ho : K.lookup C = some o) (hs : o.slots[2]? = some (some v)) (hv : handedIn v = true) (h : Q v { s with toks := s.toks + 1 }) :
    wpAny (model prog w) A (getAttr (.ref C) "__name__" ex) Q E s := cls_bind X hr e (wpAny_call (kept_name (s := { s with toks := s.toks + 1 }) X tC ho hs (handed_on hv h)))
/-- what the written part says of an own error class -/
structure Own (K : Frag) (D : Addr) : Prop where
  cl : (clsIn K D).isSome = true
  ga : findIn K (.ref D) "__getattribute__" = some (some (.builtin "BaseException.__getattribute__"))
  gt : findIn K (.ref D) "__getattr__" = some none
  sub : subIn K (.ref D) (.type "BaseException") = some true
  at_ : findIn K (.ref D) "__class__" = some (some (.builtin "object.__class__"))
  sp : specialIn K (.builtin "object.__class__") "__get__" = some (some (.builtin "getset_descriptor.__get__"))
  tk : takesIn K (.builtin "object.__class__") = some true
  mro : mroIn K D (.type "object") = some true
theorem class_of_error {x D : Addr} {ox : Obj} {od : Option Obj} {ex : Bool} {Q : Value → Shared → Prop} (T : Own K D) (X : K.In s.heap) (I : InstAt s.heap x ox D od) (h : Q (.ref D) { s with toks := s.toks + 1 }) :
    wpAny (model prog w) A (getAttr (.ref x) "__class__" ex) Q E s := by
  have hf : findObj K D od "__class__" = some (.bind (.builtin "getset_descriptor.__get__") (.builtin "object.__class__")) := findObj_dataE T.cl T.at_ T.sp T.tk
  obtain ⟨hp, g, d, t, os⟩ := s
  have l0 := I.type (M := model prog w); have l1 := looks_findIn (M := model prog w) X T.ga
  have l2 := looks_findIn (M := model prog w) X T.gt; have l3 := looks_find (M := model prog w) X I hf
  have isE : Looks (model prog w) hp (isInstance (.ref x) (.type "BaseException")) true := l0.andThen (looks_subIn X T.sub)
  have n2 : (Value.builtin "BaseException.__getattribute__" == Value.builtin "object.__getattribute__") = false := by decide +kernel
  unfold getAttr getAttrBy
  refine wpAny_bind (wpAny_mkText (wpAny_holding (wpAny_bind (l0.at (wpAny_bind (l1.at ?_))))))
  show wpAny _ _ (if (onTheHeap (Value.ref D) && Value.builtin "BaseException.__getattribute__" == Value.builtin "object.__getattribute__") = true then _ else _) _ _ _; rw [n2, Bool.and_false, if_neg Bool.false_ne_true]
  unfold getAttrByItsOwn hookBefore; refine wpAny_bind ?_; rw [if_pos (show onTheHeap (Value.ref D) = true from rfl)]
  refine l2.at (wpAny_bind (wpAny_attempt (wpAny_holding ?_)))
  unfold callGetattribute boundAndCalled; rw [show (ex && onTheHeap (Value.builtin "BaseException.__getattribute__")) = false by cases ex <;> rfl, if_neg Bool.false_ne_true, PySem.F.excAttr_ValueError.ga.bind (.ref x)]
  refine wpAny_bind (wpAny_pure ?_); show wpAny _ _ (call (.builtin "BaseException.__getattribute__") [.ref x, .str "__class__" t]) _ _ _
  refine wpAny_call (codeAny_call_builtin PySem.F.excAttr_ValueError.ga.plain PySem.F.entry_bexc_ga (@PySem.W.check_slot (model prog w) _ _ ⟨hp, g, d, t + 1, os⟩ "BaseException.__getattribute__" "BaseException" "__getattribute__" (.ref x) [.str "__class__" t] [] _ (by decide +kernel) (by decide +kernel) isE (PySem.F.args_bexc_ga (.ref x) (.str "__class__" t)) ?_))
  unfold Builtin.«object.__getattribute__»; refine wpAny_bind (wpAny_of_eq (a := ((Value.ref x : Value), [Value.str "__class__" t])) (by first | rfl | (simp only [slotArgs]; rfl)) ?_)
  refine wpAny_bind (wpAny_pure (wpAny_bind (l0.at (wpAny_bind (l3.at (wpAny_bind (wpAny_holding (wpAny_call (class_get (s := ⟨hp, g, d, t + 1, os⟩) (ox := ox) (od := od) X I T.mro ?_)))))))))
  refine wpAny_pure ?_; show wpAny _ _ (handedOut (.ref D)) _ _ _; rw [handedOut_of (v := .ref D) rfl]
  first | exact wpAny_pure h | exact wpAny_pure (wpAny_pure h)
end
end LX
namespace LX
open PySem PySem.Spec PyProof.Rows L2
/-- .. and of its kept name -/
structure Named (K : PySem.W.Frag) (D : Addr) (nm : Str) : Prop where
  own : Own K D
  rd : PySem.W.readsIn K D (.type "type") = true
  fc : PySem.W.findCls K (.ref D) (.type "type") "__name__" = some (.get (.builtin "getset_descriptor.__get__") (.builtin "type.__name__") (.ref D) (.type "type"))
  ty : PySem.W.typeIn K (.ref D) = some (.type "type")
  lk : ∃ (o : Obj) (t : Tok), K.lookup D = some o ∧ o.slots[2]? = some (some (.str nm t))
  sz : nm.length ≤ 1000
def tCn (K : PySem.W.Frag) (te : TE) : TE := fun σ H Q => te σ H fun x H1 => ∃ (a D : Addr) (nm : Str), x = .ref a ∧ H1 a = some (exo a D none) ∧ Named K D nm ∧ Q (.str nm) H1
/-- self.__class__.__name__ -/
theorem pe_cn {X : Cx} {e : Expr} {te : TE} {p1 p2 : Pos} (he : PE X e te) (hb : attributeBase e "__class__" X.env (eval e X.env) = eval e X.env := by rfl)
    (hb2 : attributeBase (.Attribute e "__class__" p1) "__name__" X.env (eval (.Attribute e "__class__" p1) X.env) = eval (.Attribute e "__class__" p1) X.env := by rfl) : PE X (.Attribute (.Attribute e "__class__" p1) "__name__" p2) (tCn X.K te) := by
  refine ⟨fun pins s σ H Q I h => attr_of hb2 (attr_of hb (thn (he.run pins s σ H _ I h) fun u s1 hh => ?_))⟩
  obtain ⟨x, H1, J, rx, a, D, nm, rfl, ea, T, q⟩ := hh
  obtain rfl : u = Value.ref a := rx
  obtain ⟨t1, hg⟩ := exo_at J.hok ea
  obtain ⟨o, tk, hlk, hsl⟩ := T.lk
  refine class_of_error (od := none) T.own J.kIn ⟨hg, rfl, rfl, True.intro⟩ ?_
  exact name_of_class (s := { s1 with toks := s1.toks + 1 }) J.kIn T.rd T.fc T.ty hlk hsl rfl ⟨.str nm, H1, (J.tok _).tok _, ⟨tk, rfl⟩, q⟩
/-- isinstance(e, c) of a caught error that has fields -/
def rIsD (K : PySem.W.Frag) (D a dd : Addr) : List V → Hp → VK → Prop := fun xs H Q => ∃ (c : V) (cv : Value) (b : Bool) (fs : List (Str × V)), xs = [.ref a, c] ∧ ClsV c cv ∧ H dd = some (.xd fs) ∧ PySem.W.kitOne K (.ref D) cv = some b ∧ Q (.bl b) H
theorem call_isD {X : Cx} {a D dd : Addr} {oe : Obj} {pn : List (Addr × Obj)} (T : Own X.K D) (hz : Zc (.ref D) (some dd) oe) (hf : ∃ vs, oe.data = .fields vs) : CallR (X.suite a ((a, oe) :: pn)) (.builtin "isinstance") (rIsD X.K D a dd) := by
  intro pins s σ H xs us Q I r h
  obtain ⟨c, cv, b, fs, rfl, hcv, hdd, e, q⟩ := h
  obtain ⟨u1, u2, rfl, r1, r2⟩ := vals2 r
  obtain rfl : u1 = Value.ref a := r1
  have ec := hcv.eq r2
  subst ec
  obtain ⟨hget, _⟩ := I.pin (a, oe) (List.mem_append_left _ List.mem_cons_self)
  obtain ⟨vs, hv⟩ := hf
  have hx : ObjOk X.prog X.w H s.heap dd (.xd fs) := I.hok dd _ hdd
  obtain ⟨mA, hns, _⟩ := hx
  obtain ⟨od, ho, _⟩ := lookIn_ns hns
  have J : PySem.W.InstAt s.heap a oe D (some od) := ⟨hget, hz.1, by unfold PySem.W.notCls; rw [hv] <;> rfl, by rw [hz.2]; exact ho⟩
  exact PySem.W.kia_one (PySem.W.kitx_exc T.cl T.ga T.gt T.sub T.at_ T.sp T.tk T.mro) I.kIn J e (fun z => nomatch z) fun tk => ⟨.bl b, H, I.tok tk, rfl, q⟩
end LX
-- EY
/-! further generic texts: // by a divisor of any sign, isinstance of a caught error whose class is told by the reading, the facts of an own error class that keeps a number -/
namespace LX
open PySem PySem.Spec PyProof.Rows L2
def CDivWN (_ j : Int) : Prop := j ≠ 0 ∧ j.natAbs.log2 < 9000
section
variable {X : Cx}
theorem op_fdivWN : OpR X (binaryOp .FloorDiv) (rI CDivWN fun i j => .int (i.fdiv j)) := opI fun _ _ _ _ _ _ _ hc q => floordiv_int hc.1 q (.inl (PyProof.noPylong_of_log2 hc.2))
end
def rIsX (K : PySem.W.Frag) (a : Addr) (cls : Value) (d : Option Addr) : List V → Hp → VK → Prop := fun xs H Q => ∃ (D dd : Addr) (c : V) (cv : Value) (b : Bool) (fs : List (Str × V)), cls = .ref D ∧ d = some dd ∧ Own K D ∧ xs = [.ref a, c] ∧ ClsV c cv ∧
  H dd = some (.xd fs) ∧ PySem.W.kitOne K (.ref D) cv = some b ∧ Q (.bl b) H
theorem call_isX {X : Cx} {a : Addr} {cls : Value} {d : Option Addr} {oe : Obj} {pn : List (Addr × Obj)} (hz : Zc cls d oe) (hf : ∃ vs, oe.data = .fields vs) : CallR (X.suite a ((a, oe) :: pn)) (.builtin "isinstance") (rIsX X.K a cls d) := by
  intro pins s σ H xs us Q I r h
  obtain ⟨D, dd, c, cv, b, fs, rfl, rfl, T, ex, hcv, hdd, e, q⟩ := h
  exact call_isD T hz hf pins s σ H xs us Q I r ⟨c, cv, b, fs, ex, hcv, hdd, e, q⟩
theorem text_len {i : Int} {k : Nat} (hk : 0 < k) (h : i.natAbs < 10 ^ k) : (Str.ofString (toString i)).length ≤ k + 1 := by
  have e := PySem.int_text_length_le10 hk h
  rw [PyProof.Rows.ofString_length]
  exact e
theorem bits_le {i : Int} {k : Nat} (h : i.natAbs < 2 ^ k) : Builtin.Int.intBits i ≤ k := PyProof.Rows.intBits_le h
/-- the base of the text's errors -/
structure Err0 (K : PySem.W.Frag) (mg : Str → Option Value) (st : Stmt) where
  CM : Addr
  f : Addr
  fd : FuncData
  F : Fun K "__init__" "ModelError.__init__" st f fd
  b : Binds K fd ["self", "at"] []
  tI : PySem.W.typeIn K (.ref f) = some (.type "function")
  gM : mg "ModelError" = some (.ref CM)
  mV : mg "ValueError" = none
  vV : PySem.W.findCls K (.type "ValueError") (.type "type") "__init__" = some (.val (.builtin "ValueError.__init__"))
/-- one of them -/
structure ErrC (K : PySem.W.Frag) (mg : Str → Option Value) (x : Str) (CM f : Addr) where
  C : Addr
  nm : Str
  named : Named K C nm
  oex : OexC K C
  noAt : PySem.W.findIn K (.ref C) "at" = some none
  iC : PySem.W.findIn K (.ref C) "__init__" = some (some (.ref f))
  g : mg x = some (.ref C)
  exm : PySem.W.exmOne K (.ref C) (.ref CM) = some true
  kit : PySem.W.kitOne K (.ref C) (.ref C) = some true
  xf : XfC K C
/-- an error of the class at C is taken by a clause for the class at S above it -/
theorem exm_is {K : PySem.W.Frag} {S C : Addr} (h1 : PySem.W.subIn K (.ref S) (.type "BaseException") = some true) (h2 : PySem.W.isClsIn K S = true) (h3 : PySem.W.typeIn K (.ref S) = some (.type "type")) (h4 : PySem.W.subIn K (.ref C) (.ref S) = some true) :
    PySem.W.exmOne K (.ref C) (.ref S) = some true := by
  have a : ((PySem.W.clsIn K S).isSome && PySem.W.typeIn K (.ref S) == some (.type "type")) = true := by
    rw [show (PySem.W.clsIn K S).isSome = true from h2, h3]; rfl
  unfold PySem.W.exmOne
  rw [h1, if_pos (by rfl)]
  show (if ((PySem.W.clsIn K S).isSome && PySem.W.typeIn K (.ref S) == some (.type "type")) = true then PySem.W.subIn K (.ref C) (.ref S) else none) = some true
  rw [if_pos a, h4]
theorem refs_one (c : Addr) : PySem.HandSPX.refsVE [.ref c, .type "ValueError", .type "Exception", .type "BaseException", .type "object"] = true := by
  show PySem.HandSPX.refsVE PySem.HandSPX.veTail = true
  decide +kernel
theorem kit_self (K : PySem.W.Frag) (C : Addr) : PySem.W.kitOne K (.ref C) (.ref C) = some true := by
  unfold PySem.W.kitOne
  rw [if_pos (by simp)]
/-- a and b as a value, where b changes nothing and its answer is known -/
def tAndP (ta tb : TE) : TE := fun σ H Q => ta σ H fun x H1 => ∃ c r, x = .bl c ∧ (c = true → ∀ Q' : VK, Q' (.bl r) H1 → tb σ H1 Q') ∧ Q (.bl (c && r)) H1
theorem pe_andP {X : Cx} {a b : Expr} {rest : List Expr} {ta tb : TE} {pos : Pos} (ha : PE X a ta) (hb : PE X (.BoolOp .And (b :: rest) pos) tb) : PE X (.BoolOp .And (a :: b :: rest) pos) (tAndP ta tb) := by
  refine ⟨fun pins s σ H Q I h => ?_⟩
  refine BoolOp_and (thn (ha.run pins s σ H _ I h) fun v s1 ⟨x, H1, I1, r1, q1⟩ => ?_)
  obtain ⟨c, r, rfl, hA, q⟩ := q1
  cases r1
  refine wpAny_truthy_bool ?_
  cases c with
  | true => exact hb.run pins s1 σ H1 Q I1 (hA rfl Q q)
  | false => exact ⟨.bl false, H1, I1, rfl, q⟩
/-- an error is let go that stood above H -/
theorem upd_back {H : Hp} {a d : Addr} {o1 o2 o3 x : HO} (ha : H a = none) (hd : d ≠ a) : upd (del (upd (upd (upd H a o1) d o2) a o3) a) d x = upd H d x := by
  funext b
  by_cases h1 : b = d
  · rw [h1, upd_same, upd_same]
  · rw [upd_ne h1, upd_ne h1]
    by_cases h2 : b = a
    · rw [h2, del_same, ha]
    · rw [del_ne h2, upd_ne h2, upd_ne h1, upd_ne h2]
/-- __init__ of the text's errors, at an error of the class C -/
def sp_init (K : PySem.W.Frag) : Sp := fun vs H Q _ => ∃ (e C : Addr) (nm : Str) (i : Int), vs = [.ref e, .int i] ∧ H e = some (exo e C none) ∧ Named K C nm ∧ OexC K C ∧ PySem.W.findIn K (.ref C) "at" = some none ∧ i.natAbs < 10 ^ 12 ∧
  ∀ d, H d = none → d ≠ e → Q .non (upd (upd H d (exd d [("at", .int i)])) e (exo e C (some d)))
/-- what a raise asks when the class's __init__ is as above -/
theorem raised {K : PySem.W.Frag} {mg : Str → Option Value} {x : Str} {CM f : Addr} (T : ErrC K mg x CM f) {H : Hp} {n : Int} {E : XK} (hn : n.natAbs < 10 ^ 12) (q : ∀ d, H d = none → E (.ref T.C) (some d) (upd H d (.xd [("at", .int n)]))) (a : Addr) (ha : H a = none) :
    sp_init K (.ref a :: ([.int n] ++ [])) (upd H a (exo a T.C none)) (fun v H2 => v = .non ∧ ∃ (d : Addr) (fs : List (Str × V)), H2 a = some (exo a T.C (some d)) ∧ H2 d = some (exd d fs) ∧ H d = none ∧ E (.ref T.C) (some d) (upd (del H2 a) d (.xd fs))) (fun _ _ _ => False) := by
  refine ⟨a, T.C, T.nm, n, rfl, upd_same, T.named, T.oex, T.noAt, hn, fun d hd ne => ⟨rfl, d, [("at", .int n)], upd_same, ?_, ?_, ?_⟩⟩
  · rw [upd_ne ne]; exact upd_same
  · rw [upd_ne ne] at hd; exact hd
  · rw [upd_ne ne] at hd
    rw [upd_back ha ne]
    exact q d hd
end LX
-- LC
/-! math.lcm of two whole numbers of at most 13,000 digits of two -/
namespace LM
open PySem PySem.Spec L2
def rLcm : List V → Hp → VK → Prop := fun vs H Q => ∃ a b : Int, vs = [V.int a, V.int b] ∧ a.natAbs < 2 ^ 6000 ∧ b.natAbs < 2 ^ 6000 ∧ Q (V.int ((Nat.lcm a.natAbs b.natAbs : Nat) : Int)) H
theorem log13 {n : Nat} (h : n < 2 ^ 6000) : ¬ n.log2 / 30 + 1 > 450 := by
  have : n.log2 < 6000 := by
    rcases Nat.eq_zero_or_pos n with rfl | z
    · rw [Nat.log2_zero]; decide
    · exact (Nat.log2_lt (by omega)).mpr h
  omega
theorem cr_lcm {X : Cx} : CallR X (Value.builtin "math.lcm") rLcm := by
  intro pins s σ H vs us Q I r h
  obtain ⟨a, b, rfl, ha, hb, q⟩ := h
  obtain ⟨t, u, rfl⟩ := Vals.int2 r
  have e : Nat.lcm 1 a.natAbs = a.natAbs := Nat.lcm_one_left _
  have hl : Nat.lcm a.natAbs b.natAbs < 2 ^ 12000 := by
    refine Nat.lt_of_le_of_lt (Nat.div_le_self _ _) ?_
    have : (2 : Nat) ^ 12000 = 2 ^ 6000 * 2 ^ 6000 := by rw [← Nat.pow_add]
    rw [this]
    exact Nat.mul_lt_mul'' ha hb
  refine call_function_meets PySem.W.MGF.kind_lcm PySem.W.MGF.plain_lcm PySem.W.MGF.entry_lcm (PySem.W.MGF.args_lcm (Value.int a t) (Value.int b u))
    (Gives.meets (PySem.W.mg_run_lcm a t b u (log13 (by
      have : (1 : Nat) < 2 ^ 6000 := Nat.one_lt_two_pow (by decide)
      omega)) (log13 (by omega)) ?_)) ?_
  · rw [e, Int.natAbs_natCast]
    refine Nat.lt_trans ?_ (by decide : 12000 < bitsLine)
    rcases Nat.eq_zero_or_pos (Nat.lcm a.natAbs b.natAbs) with z | z
    · rw [z, Nat.log2_zero]; decide
    · exact (Nat.log2_lt (by omega)).mpr hl
  · rw [e]
    exact ⟨V.int _, H, Inv.tok I (s.toks + 1), ⟨s.toks, rfl⟩, q⟩
end LM
-- QF
/-! fractions in lowest terms, Euclid's turns -/
namespace QF
/-- the greatest common divisor, as a whole number; with the sign of the lower part; the fraction -/
def gc (n d : Int) : Int := ((Nat.gcd n.natAbs d.natAbs : Nat) : Int)
def sg (n d : Int) : Int := if d < 0 then -gc n d else gc n d
def low (n d : Int) : Int × Int := (n.fdiv (sg n d), d.fdiv (sg n d))
theorem gc_pos {n d : Int} (h : d ≠ 0) : 0 < gc n d := by
  have : 0 < Nat.gcd n.natAbs d.natAbs := Nat.gcd_pos_of_pos_right _ (by omega)
  show (0 : Int) < ((Nat.gcd n.natAbs d.natAbs : Nat) : Int)
  omega
theorem gc_le {n d : Int} (h : d ≠ 0) : (gc n d).natAbs ≤ d.natAbs := by
  show (((Nat.gcd n.natAbs d.natAbs : Nat) : Int)).natAbs ≤ _
  rw [Int.natAbs_natCast]
  exact Nat.gcd_le_right _ (by omega)
theorem sg_ne {n d : Int} (h : d ≠ 0) : sg n d ≠ 0 := by
  have := gc_pos (n := n) h
  unfold sg
  split <;> omega
theorem sg_le {n d : Int} (h : d ≠ 0) : (sg n d).natAbs ≤ d.natAbs := by
  have := gc_le (n := n) h
  unfold sg
  split
  · rw [Int.natAbs_neg]; exact this
  · exact this
/-- what the fraction is: both parts times one number; the lower above 0; nothing in common -/
theorem low_is {n d : Int} (h : d ≠ 0) : ∃ g, g ≠ 0 ∧ n = g * (low n d).1 ∧ d = g * (low n d).2 ∧ 0 < (low n d).2 ∧ Nat.gcd (low n d).1.natAbs (low n d).2.natAbs = 1 := by
  have hs := sg_ne (n := n) h
  have hp := gc_pos (n := n) h
  obtain ⟨a, ha⟩ : ∃ k, n = gc n d * k := by
    obtain ⟨k, hk⟩ := Nat.gcd_dvd_left n.natAbs d.natAbs
    have : gc n d ∣ n := Int.ofNat_dvd_left.mpr ⟨k, hk⟩
    exact this
  obtain ⟨b, hb⟩ : ∃ k, d = gc n d * k := by
    obtain ⟨k, hk⟩ := Nat.gcd_dvd_right n.natAbs d.natAbs
    have : gc n d ∣ d := Int.ofNat_dvd_left.mpr ⟨k, hk⟩
    exact this
  have co : Nat.gcd a.natAbs b.natAbs = 1 := by
    have e1 : n.natAbs = (Nat.gcd n.natAbs d.natAbs) * a.natAbs := by
      have := congrArg Int.natAbs ha
      rw [Int.natAbs_mul] at this
      exact this
    have e2 : d.natAbs = (Nat.gcd n.natAbs d.natAbs) * b.natAbs := by
      have := congrArg Int.natAbs hb
      rw [Int.natAbs_mul] at this
      exact this
    have e3 : Nat.gcd n.natAbs d.natAbs = Nat.gcd n.natAbs d.natAbs * Nat.gcd a.natAbs b.natAbs := by
      rw [← Nat.gcd_mul_left, ← e1, ← e2]
    have p : 0 < Nat.gcd n.natAbs d.natAbs := Nat.gcd_pos_of_pos_right _ (by omega)
    have e4 : Nat.gcd n.natAbs d.natAbs * Nat.gcd a.natAbs b.natAbs = Nat.gcd n.natAbs d.natAbs * 1 := by omega
    exact Nat.eq_of_mul_eq_mul_left p e4
  have f : ∀ x k : Int, x = sg n d * k → x.fdiv (sg n d) = k := fun x k hk => by
    have := Int.mul_fdiv_cancel_left k hs
    rw [← hk] at this
    exact this
  by_cases hd : d < 0
  · have es : sg n d = -gc n d := if_pos hd
    have f1 : (low n d).1 = -a := f n (-a) (by rw [es, Int.neg_mul_neg]; exact ha)
    have f2 : (low n d).2 = -b := f d (-b) (by rw [es, Int.neg_mul_neg]; exact hb)
    refine ⟨sg n d, hs, ?_, ?_, ?_, ?_⟩
    · rw [f1, es, Int.neg_mul_neg]; exact ha
    · rw [f2, es, Int.neg_mul_neg]; exact hb
    · rw [f2]
      have : b < 0 := by
        rcases Int.lt_trichotomy b 0 with z | z | z
        · exact z
        · rw [z, Int.mul_zero] at hb; omega
        · have := Int.mul_pos hp z; omega
      omega
    · rw [f1, f2, Int.natAbs_neg, Int.natAbs_neg]; exact co
  · have es : sg n d = gc n d := if_neg hd
    have f1 : (low n d).1 = a := f n a (by rw [es]; exact ha)
    have f2 : (low n d).2 = b := f d b (by rw [es]; exact hb)
    refine ⟨sg n d, hs, ?_, ?_, ?_, ?_⟩
    · rw [f1, es]; exact ha
    · rw [f2, es]; exact hb
    · rw [f2]
      rcases Int.lt_trichotomy b 0 with z | z | z
      · have := Int.mul_neg_of_pos_of_neg hp z; omega
      · rw [z, Int.mul_zero] at hb; omega
      · exact z
    · rw [f1, f2]; exact co
theorem one_form {a b m e : Int} (hb : 0 < b) (he : 0 < e) (c1 : Nat.gcd a.natAbs b.natAbs = 1) (c2 : Nat.gcd m.natAbs e.natAbs = 1) (h : a * e = m * b) : a = m ∧ b = e := by
  have hn : a.natAbs * e.natAbs = m.natAbs * b.natAbs := by rw [← Int.natAbs_mul, ← Int.natAbs_mul, h]
  have d1 : b.natAbs ∣ e.natAbs := Nat.Coprime.dvd_of_dvd_mul_left (k := b.natAbs) (m := a.natAbs) (by rw [Nat.coprime_comm]; exact c1) ⟨m.natAbs, by rw [hn, Nat.mul_comm]⟩
  have d2 : e.natAbs ∣ b.natAbs := Nat.Coprime.dvd_of_dvd_mul_left (k := e.natAbs) (m := m.natAbs) (by rw [Nat.coprime_comm]; exact c2) ⟨a.natAbs, by rw [← hn, Nat.mul_comm]⟩
  have e1 := Nat.dvd_antisymm d1 d2
  have e2 : b = e := by omega
  subst e2
  exact ⟨Int.eq_of_mul_eq_mul_right (by omega) h, rfl⟩
/-- two pairs of the same fraction -/
theorem low_eq {n d m e : Int} (hd : d ≠ 0) (he : e ≠ 0) (h : n * e = m * d) : low n d = low m e := by
  obtain ⟨g, g0, a1, a2, a3, a4⟩ := low_is (n := n) hd
  obtain ⟨k, k0, b1, b2, b3, b4⟩ := low_is (n := m) he
  have := one_form a3 b3 a4 b4 (by
    generalize (low n d).1 = x1 at *
    generalize (low n d).2 = x2 at *
    generalize (low m e).1 = y1 at *
    generalize (low m e).2 = y2 at *
    subst a1 a2 b1 b2
    have h2 : (g * k) * (x1 * y2) = (g * k) * (y1 * x2) := by
      grind
    exact Int.eq_of_mul_eq_mul_left (Int.mul_ne_zero g0 k0) h2)
  exact Prod.ext this.1 this.2
theorem low_inv {n d m e : Int} (hd : d ≠ 0) (he : e ≠ 0) (h : low n d = low m e) : n * e = m * d := by
  obtain ⟨g, g0, a1, a2, a3, a4⟩ := low_is (n := n) hd
  obtain ⟨k, k0, b1, b2, b3, b4⟩ := low_is (n := m) he
  rw [h] at a1 a2
  generalize (low m e).1 = y1 at *
  generalize (low m e).2 = y2 at *
  subst a1 a2 b1 b2
  grind
theorem low_ne {n d : Int} (h : d ≠ 0) : (low n d).2 ≠ 0 := by
  obtain ⟨g, g0, a1, a2, a3, a4⟩ := low_is (n := n) h
  omega
theorem low_abs {n d : Int} (h : d ≠ 0) : (low n d).1.natAbs ≤ n.natAbs ∧ (low n d).2.natAbs ≤ d.natAbs := by
  obtain ⟨g, g0, a1, a2, a3, a4⟩ := low_is (n := n) h
  have e1 := congrArg Int.natAbs a1
  have e2 := congrArg Int.natAbs a2
  rw [Int.natAbs_mul] at e1 e2
  have p : 0 < g.natAbs := by omega
  exact ⟨by rw [e1]; exact Nat.le_mul_of_pos_left _ p, by rw [e2]; exact Nat.le_mul_of_pos_left _ p⟩
/-- a fraction in lowest terms is its own -/
theorem low_self {a b : Int} (hb : 0 < b) (c : Nat.gcd a.natAbs b.natAbs = 1) : low a b = (a, b) := by
  obtain ⟨g, g0, a1, a2, a3, a4⟩ := low_is (n := a) (show b ≠ 0 by omega)
  have := one_form hb a3 c a4 (by
    generalize (low a b).1 = x1 at *
    generalize (low a b).2 = x2 at *
    rw [a1, a2]
    grind)
  exact Prod.ext this.1.symm this.2.symm
theorem low_one (n : Int) : low n 1 = (n, 1) := low_self (by decide) (Nat.gcd_one_right _)
theorem low_low {n d : Int} (h : d ≠ 0) : low (low n d).1 (low n d).2 = low n d := by
  obtain ⟨g, g0, a1, a2, a3, a4⟩ := low_is (n := n) h
  exact low_self a3 a4
theorem low_add {a D b E : Int} (hD : D ≠ 0) (hE : E ≠ 0) : low ((low a D).1 * (low b E).2 + (low b E).1 * (low a D).2) ((low a D).2 * (low b E).2) = low (a * E + b * D) (D * E) := by
  obtain ⟨g, g0, a1, a2, a3, a4⟩ := low_is (n := a) hD
  obtain ⟨k, k0, b1, b2, b3, b4⟩ := low_is (n := b) hE
  refine low_eq (Int.mul_ne_zero (by omega) (by omega)) (Int.mul_ne_zero hD hE) ?_
  generalize (low a D).1 = x1 at *
  generalize (low a D).2 = x2 at *
  generalize (low b E).1 = y1 at *
  generalize (low b E).2 = y2 at *
  subst a1 a2 b1 b2
  grind
theorem low_mul {a D b E : Int} (hD : D ≠ 0) (hE : E ≠ 0) : low ((low a D).1 * (low b E).1) ((low a D).2 * (low b E).2) = low (a * b) (D * E) := by
  obtain ⟨g, g0, a1, a2, a3, a4⟩ := low_is (n := a) hD
  obtain ⟨k, k0, b1, b2, b3, b4⟩ := low_is (n := b) hE
  refine low_eq (Int.mul_ne_zero (by omega) (by omega)) (Int.mul_ne_zero hD hE) ?_
  generalize (low a D).1 = x1 at *
  generalize (low a D).2 = x2 at *
  generalize (low b E).1 = y1 at *
  generalize (low b E).2 = y2 at *
  subst a1 a2 b1 b2
  grind
/-- fractions with one lower part -/
theorem low_add1 {a b D : Int} (hD : D ≠ 0) : low ((low a D).1 * (low b D).2 + (low b D).1 * (low a D).2) ((low a D).2 * (low b D).2) = low (a + b) D := by
  rw [low_add hD hD]
  exact low_eq (Int.mul_ne_zero hD hD) hD (by grind)
/-- the turns of Euclid's rule: what stands behind i of them -/
def Euc (B i x y : Nat) : Prop := (i = 0 ∧ x * y ≤ B) ∨ (1 ≤ i ∧ y ≤ x ∧ x * y * 2 ^ (i - 1) ≤ B)
theorem euc_step {B i x y : Nat} (h : Euc B i x y) (hy : y ≠ 0) : Euc B (i + 1) y (x % y) := by
  have hm : x % y < y := Nat.mod_lt _ (by omega)
  rcases h with ⟨rfl, h⟩ | ⟨hi, hyx, h⟩
  · refine .inr ⟨by omega, by omega, ?_⟩
    show y * (x % y) * 2 ^ 0 ≤ B
    rw [Nat.pow_zero, Nat.mul_one]
    refine Nat.le_trans ?_ h
    rw [Nat.mul_comm x y]
    exact Nat.mul_le_mul_left _ (Nat.mod_le _ _)
  · refine .inr ⟨by omega, by omega, ?_⟩
    have e : i + 1 - 1 = (i - 1) + 1 := by omega
    rw [e, Nat.pow_succ]
    have two : 2 * (x % y) ≤ x := by
      have d1 := Nat.div_add_mod x y
      have q1 : 1 ≤ x / y := (Nat.one_le_div_iff (by omega)).mpr hyx
      have : y ≤ y * (x / y) := Nat.le_mul_of_pos_right _ q1
      omega
    refine Nat.le_trans ?_ h
    have : y * (x % y) * (2 ^ (i - 1) * 2) = (2 * (x % y)) * y * 2 ^ (i - 1) := by
      simp [Nat.mul_comm, Nat.mul_left_comm, Nat.mul_assoc]
    rw [this]
    exact Nat.mul_le_mul_right _ (Nat.mul_le_mul_right _ two)
theorem euc_end {B x y : Nat} {n : Nat} (h : Euc B n x y) (hn : 1 ≤ n) (hB : B < 2 ^ (n - 1)) : y = 0 := by
  rcases h with ⟨rfl, _⟩ | ⟨_, hyx, h⟩
  · omega
  · rcases Nat.eq_zero_or_pos y with z | z
    · exact z
    · have : 1 ≤ x * y := Nat.mul_pos (by omega) z
      have : 1 * 2 ^ (n - 1) ≤ x * y * 2 ^ (n - 1) := Nat.mul_le_mul_right _ this
      omega
theorem gcd_turn (x y : Nat) : Nat.gcd y (x % y) = Nat.gcd x y := by
  rw [Nat.gcd_comm y (x % y), ← Nat.gcd_rec, Nat.gcd_comm]
/-- a common multiple of the lower parts -/
def below (ds : List Int) : Int := ds.foldl (fun f d => ((Nat.lcm f.natAbs d.natAbs : Nat) : Int)) 1
theorem below_snoc (ds : List Int) (d : Int) : below (ds ++ [d]) = ((Nat.lcm (below ds).natAbs d.natAbs : Nat) : Int) := by
  unfold below
  rw [List.foldl_append]
  rfl
theorem below_take {ds : List Int} {i : Nat} {d : Int} (h : ds[i]? = some d) : below (ds.take (i + 1)) = ((Nat.lcm (below (ds.take i)).natAbs d.natAbs : Nat) : Int) := by
  rw [List.take_succ, h]
  exact below_snoc _ _
theorem lcm_le (a b : Nat) : Nat.lcm a b ≤ a * b := Nat.div_le_self _ _
theorem below_facts {B : Nat} : ∀ (n : Nat) (ds : List Int), ds.length = n → (∀ d ∈ ds, 0 < d ∧ d.natAbs ≤ B) → 0 < below ds ∧ (below ds).natAbs ≤ B ^ n ∧ ∀ d ∈ ds, ∃ k, below ds = k * d
  | 0, ds, e, _ => by
    rw [List.length_eq_zero_iff.mp e]
    exact ⟨by decide, Nat.le_of_eq (Nat.pow_zero B).symm, fun _ z => by cases z⟩
  | n + 1, ds, e, h => by
    obtain ⟨l, d, rfl⟩ : ∃ l d, ds = l ++ [d] := ⟨ds.dropLast, ds.getLast (fun z => by rw [z] at e; simp at e), (List.dropLast_concat_getLast _).symm⟩
    rw [List.length_append] at e
    obtain ⟨h1, h2, h3⟩ := below_facts n l (by simpa using e) fun x hx => h x (List.mem_append_left _ hx)
    obtain ⟨p, q⟩ := h d (List.mem_append_right _ (List.mem_singleton.mpr rfl))
    rw [below_snoc]
    refine ⟨?_, ?_, fun x hx => ?_⟩
    · have : 0 < Nat.lcm (below l).natAbs d.natAbs := Nat.lcm_pos (by omega) (by omega)
      omega
    · rw [Int.natAbs_natCast, Nat.pow_succ]
      exact Nat.le_trans (lcm_le _ _) (Nat.mul_le_mul h2 q)
    · rcases List.mem_append.mp hx with hx | hx
      · obtain ⟨k, hk⟩ := h3 x hx
        obtain ⟨t, ht⟩ := Nat.dvd_lcm_left (below l).natAbs d.natAbs
        refine ⟨t * k, ?_⟩
        have e1 : ((Nat.lcm (below l).natAbs d.natAbs : Nat) : Int) = below l * t := by
          rw [ht, Int.natCast_mul]
          congr 1
          omega
        rw [e1, hk]
        grind
      · rw [List.mem_singleton.mp hx]
        obtain ⟨t, ht⟩ := Nat.dvd_lcm_right (below l).natAbs d.natAbs
        refine ⟨t, ?_⟩
        rw [ht, Int.natCast_mul, Int.mul_comm]
        congr 1
        omega
theorem gc_low {n d : Int} (h : d ≠ 0) : gc (low n d).1 (low n d).2 = 1 := by
  obtain ⟨g, g0, a1, a2, a3, a4⟩ := low_is (n := n) h
  show ((Nat.gcd _ _ : Nat) : Int) = 1
  rw [a4]; rfl
end QF
-- DT
/-! determinants: expansion along the last column -/
namespace DT
abbrev Rw := Nat → Int
def sg (k : Nat) : Int := if k % 2 = 0 then 1 else -1
theorem sg_succ (k : Nat) : sg (k + 1) = - sg k := by
  unfold sg
  rcases Nat.mod_two_eq_zero_or_one k with h | h
  · rw [if_neg (by omega), if_pos h]
  · rw [if_pos (by omega), if_neg (by omega)]; rfl
theorem sg_zero : sg 0 = 1 := rfl
theorem sg_sq (k : Nat) : sg k * sg k = 1 := by
  unfold sg; split <;> rfl
/-- the sum over the rows x of rest, each with its sign, f x, and D of the other rows -/
def ex (f : Rw → Int) (D : List Rw → Int) : List Rw → List Rw → Int
  | _, [] => 0
  | pre, x :: rest => sg rest.length * f x * D (pre ++ rest) + ex f D (pre ++ [x]) rest
/-- the determinant of the rows at the columns; the columns from the last one on -/
def dt : List Nat → List Rw → Int
  | [], _ => 1
  | j :: cs, rows => ex (fun x => x j) (dt cs) [] rows
theorem dt_cons (j : Nat) (cs : List Nat) (rows : List Rw) : dt (j :: cs) rows = ex (fun x => x j) (dt cs) [] rows := rfl
theorem ex_cons (f : Rw → Int) (D : List Rw → Int) (x : Rw) (pre rest : List Rw) : ex f D pre (x :: rest) = sg rest.length * f x * D (pre ++ rest) + ex f D (pre ++ [x]) rest := rfl
/-- the prefix may go into D -/
theorem ex_pre (f : Rw → Int) (D : List Rw → Int) (p : List Rw) : ∀ (rest pre : List Rw), ex f D (p ++ pre) rest = ex f (fun l => D (p ++ l)) pre rest
  | [], _ => rfl
  | x :: rest, pre => by
    rw [ex_cons, ex_cons, List.append_assoc, List.append_assoc, ex_pre f D p rest (pre ++ [x])]
theorem ex_congr (f : Rw → Int) {D D' : List Rw → Int} {m : Nat} (h : ∀ l : List Rw, l.length = m → D l = D' l) : ∀ (rest pre : List Rw), pre.length + rest.length = m + 1 → ex f D pre rest = ex f D' pre rest
  | [], _, _ => rfl
  | x :: rest, pre, e => by
    rw [List.length_cons] at e
    rw [ex_cons, ex_cons, h (pre ++ rest) (by rw [List.length_append]; omega), ex_congr f h rest (pre ++ [x]) (by rw [List.length_append]; show _ + 1 + _ = _; omega)]
theorem ex_smul (f : Rw → Int) (D : List Rw → Int) (c : Int) : ∀ (rest pre : List Rw), ex f (fun l => c * D l) pre rest = c * ex f D pre rest
  | [], _ => by show (0 : Int) = c * 0; rw [Int.mul_zero]
  | x :: rest, pre => by
    rw [ex_cons, ex_cons, ex_smul f D c rest (pre ++ [x])]
    grind
theorem ex_add (f : Rw → Int) (D D' : List Rw → Int) : ∀ (rest pre : List Rw), ex f (fun l => D l + D' l) pre rest = ex f D pre rest + ex f D' pre rest
  | [], _ => rfl
  | x :: rest, pre => by
    rw [ex_cons, ex_cons, ex_cons, ex_add f D D' rest (pre ++ [x])]
    grind
theorem ex_zero (f : Rw → Int) {D : List Rw → Int} {m : Nat} (h : ∀ l : List Rw, l.length = m → D l = 0) (rest pre : List Rw) (e : pre.length + rest.length = m + 1) : ex f D pre rest = 0 := by
  rw [ex_congr f (D' := fun _ => 0 * 0) (fun l hl => by rw [h l hl]; rfl) rest pre e, ex_smul f (fun _ => 0) 0, Int.zero_mul]
/-- f may be a sum -/
theorem ex_f (D : List Rw → Int) (f g : Rw → Int) (c : Int) : ∀ (rest pre : List Rw), ex (fun x => f x + c * g x) D pre rest = ex f D pre rest + c * ex g D pre rest
  | [], _ => by show (0 : Int) = 0 + c * 0; omega
  | x :: rest, pre => by
    rw [ex_cons, ex_cons, ex_cons, ex_f D f g c rest (pre ++ [x])]
    grind
/-! two columns -/
/-- expansion along two columns changes its sign when they are exchanged -/
theorem ex_two (f g : Rw → Int) : ∀ (l : List Rw) (D : List Rw → Int), ex f (fun l => ex g D [] l) [] l = - ex g (fun l => ex f D [] l) [] l
  | [], _ => rfl
  | x :: rest, D => by
    have h1 : ∀ a b : Rw → Int, ex a (fun l => ex b D [] l) [] (x :: rest) = sg rest.length * a x * ex b D [] rest - sg rest.length * b x * ex a D [] rest + ex a (fun l => ex b (fun l => D (x :: l)) [] l) [] rest := by
      intro a b
      rw [ex_cons, show ([] : List Rw) ++ [x] = [x] ++ [] from rfl, ex_pre a (fun l => ex b D [] l) [x] rest []]
      cases hr : rest.length with
      | zero =>
        have : rest = [] := List.length_eq_zero_iff.mp hr
        subst this
        show _ * _ * (0 : Int) + 0 = _ * _ * 0 - _ * _ * (0 : Int) + 0
        rw [Int.mul_zero, Int.mul_zero]; rfl
      | succ m =>
        have e : ex a (fun l => ex b D [] ([x] ++ l)) [] rest = ex a (fun l => (sg m * b x) * D l + ex b (fun l => D (x :: l)) [] l) [] rest := by
          refine ex_congr a (m := m) (fun l hl => ?_) rest [] (by show 0 + _ = _; omega)
          show ex b D [] (x :: l) = _
          rw [ex_cons, hl, show ([] : List Rw) ++ [x] = [x] ++ [] from rfl, ex_pre b D [x] l []]
          rfl
        rw [e, ex_add, ex_smul, sg_succ]
        show _ * _ * ex b D [] rest + _ = _
        grind
    rw [h1 f g, h1 g f, ex_two f g rest]
    grind
/-- a column that is there already -/
theorem ex_same : ∀ (cs : List Nat) (i : Nat) (rows : List Rw), i ∈ cs → ex (fun x => x i) (dt cs) [] rows = 0
  | [], _, _, h => by cases h
  | c :: cs, i, rows, h => by
    show ex (fun x => x i) (fun l => ex (fun x => x c) (dt cs) [] l) [] rows = 0
    by_cases e : i = c
    · subst e
      have := ex_two (fun x => x i) (fun x => x i) rows (dt cs)
      omega
    · rw [ex_two]
      have hi : i ∈ cs := (List.mem_cons.mp h).resolve_left e
      have : ∀ l : List Rw, ex (fun x => x i) (dt cs) [] l = 0 := fun l => ex_same cs i l hi
      cases rows with
      | nil => rfl
      | cons x r =>
        rw [ex_zero (m := r.length) _ (fun l _ => this l) (x :: r) [] (by show 0 + (_ + 1) = _; omega)]
        rfl
/-! rows -/
theorem ex_lin_tail (f : Rw → Int) {D : List Rw → Int} {m : Nat} {y z : Rw} {a b : Int} (h : ∀ p r : List Rw, p.length + r.length + 1 = m → D (p ++ (fun j => a * y j + b * z j) :: r) = a * D (p ++ y :: r) + b * D (p ++ z :: r)) :
    ∀ (rest p1 p2 : List Rw), p1.length + p2.length + 1 + rest.length = m + 1 → ex f D (p1 ++ (fun j => a * y j + b * z j) :: p2) rest = a * ex f D (p1 ++ y :: p2) rest + b * ex f D (p1 ++ z :: p2) rest
  | [], _, _, _ => by show (0 : Int) = a * 0 + b * 0; omega
  | x :: rest, p1, p2, e => by
    rw [List.length_cons] at e
    have s : ∀ v : Rw, p1 ++ v :: p2 ++ rest = p1 ++ v :: (p2 ++ rest) := fun v => by rw [List.append_assoc]; rfl
    have t : ∀ v : Rw, p1 ++ v :: p2 ++ [x] = p1 ++ v :: (p2 ++ [x]) := fun v => by rw [List.append_assoc]; rfl
    rw [ex_cons, ex_cons, ex_cons, s, s, s, t, t, t, h p1 (p2 ++ rest) (by rw [List.length_append]; omega), ex_lin_tail f h rest p1 (p2 ++ [x]) (by rw [List.length_append]; show _ + (_ + 1) + _ + _ = _; omega)]
    grind
theorem ex_lin (f : Rw → Int) {D : List Rw → Int} {m : Nat} {y z : Rw} {a b : Int} (hf : f (fun j => a * y j + b * z j) = a * f y + b * f z) (h : ∀ p r : List Rw, p.length + r.length + 1 = m → D (p ++ (fun j => a * y j + b * z j) :: r) = a * D (p ++ y :: r) + b * D (p ++ z :: r)) :
    ∀ (mid pre rest : List Rw), pre.length + mid.length + 1 + rest.length = m + 1 → ex f D pre (mid ++ (fun j => a * y j + b * z j) :: rest) = a * ex f D pre (mid ++ y :: rest) + b * ex f D pre (mid ++ z :: rest)
  | [], pre, rest, e => by
    show ex f D pre (_ :: rest) = a * ex f D pre (y :: rest) + b * ex f D pre (z :: rest)
    rw [ex_cons, ex_cons, ex_cons, hf, ex_lin_tail f h rest pre [] (by simpa using e)]
    grind
  | x :: mid, pre, rest, e => by
    rw [List.length_cons] at e
    have s : ∀ v : Rw, pre ++ (mid ++ v :: rest) = (pre ++ mid) ++ v :: rest := fun v => by rw [List.append_assoc]
    show ex f D pre (x :: (mid ++ _ :: rest)) = a * ex f D pre (x :: (mid ++ y :: rest)) + b * ex f D pre (x :: (mid ++ z :: rest))
    rw [ex_cons, ex_cons, ex_cons, s, s, s, h (pre ++ mid) rest (by rw [List.length_append]; omega), ex_lin f hf h mid (pre ++ [x]) rest (by rw [List.length_append]; show _ + 1 + _ + _ + _ = _; omega)]
    rw [List.length_append, List.length_append, List.length_append, List.length_cons, List.length_cons, List.length_cons]
    grind
theorem dt_lin : ∀ (cs : List Nat) (y z : Rw) (a b : Int) (p r : List Rw), p.length + r.length + 1 = cs.length → dt cs (p ++ (fun j => a * y j + b * z j) :: r) = a * dt cs (p ++ y :: r) + b * dt cs (p ++ z :: r)
  | [], _, _, _, _, _, _, e => by rw [List.length_nil] at e; omega
  | c :: cs, y, z, a, b, p, r, e => ex_lin (fun x => x c) rfl (dt_lin cs y z a b) p [] r (by rw [List.length_cons] at e; show 0 + _ + 1 + _ = _; omega)
theorem ex_alt_tail (f : Rw → Int) {D : List Rw → Int} {m : Nat} {y : Rw} (h : ∀ p r : List Rw, p.length + r.length + 2 = m → D (p ++ y :: y :: r) = 0) :
    ∀ (rest p1 p2 : List Rw), p1.length + p2.length + 2 + rest.length = m + 1 → ex f D (p1 ++ y :: y :: p2) rest = 0
  | [], _, _, _ => rfl
  | x :: rest, p1, p2, e => by
    rw [List.length_cons] at e
    rw [ex_cons, show p1 ++ y :: y :: p2 ++ rest = p1 ++ y :: y :: (p2 ++ rest) by rw [List.append_assoc]; rfl, show p1 ++ y :: y :: p2 ++ [x] = p1 ++ y :: y :: (p2 ++ [x]) by rw [List.append_assoc]; rfl, h p1 (p2 ++ rest) (by rw [List.length_append]; omega), ex_alt_tail f h rest p1 (p2 ++ [x]) (by rw [List.length_append]; show _ + (_ + 1) + _ + _ = _; omega), Int.mul_zero]
    rfl
theorem ex_alt (f : Rw → Int) {D : List Rw → Int} {m : Nat} {y : Rw} (h : ∀ p r : List Rw, p.length + r.length + 2 = m → D (p ++ y :: y :: r) = 0) :
    ∀ (mid pre rest : List Rw), pre.length + mid.length + 2 + rest.length = m + 1 → ex f D pre (mid ++ y :: y :: rest) = 0
  | [], pre, rest, e => by
    show ex f D pre (y :: y :: rest) = 0
    rw [ex_cons, ex_cons, show pre ++ [y] ++ [y] = pre ++ y :: y :: [] by rw [List.append_assoc]; rfl, ex_alt_tail f h rest pre [] (by simpa using e), show pre ++ [y] ++ rest = pre ++ y :: rest by rw [List.append_assoc]; rfl, List.length_cons, sg_succ]
    grind
  | x :: mid, pre, rest, e => by
    rw [List.length_cons] at e
    show ex f D pre (x :: (mid ++ y :: y :: rest)) = 0
    rw [ex_cons, show pre ++ (mid ++ y :: y :: rest) = (pre ++ mid) ++ y :: y :: rest by rw [List.append_assoc], h (pre ++ mid) rest (by rw [List.length_append]; omega), ex_alt f h mid (pre ++ [x]) rest (by rw [List.length_append]; show _ + 1 + _ + _ + _ = _; omega), Int.mul_zero]
    rfl
theorem dt_alt : ∀ (cs : List Nat) (y : Rw) (p r : List Rw), p.length + r.length + 2 = cs.length → dt cs (p ++ y :: y :: r) = 0
  | [], _, _, _, e => by rw [List.length_nil] at e; omega
  | c :: cs, y, p, r, e => ex_alt (fun x => x c) (dt_alt cs y) p [] r (by rw [List.length_cons] at e; show 0 + _ + 2 + _ = _; omega)
/-- neighbours exchanged -/
theorem dt_swap {cs : List Nat} {y z : Rw} {p r : List Rw} (e : p.length + r.length + 2 = cs.length) : dt cs (p ++ y :: z :: r) = - dt cs (p ++ z :: y :: r) := by
  have h := dt_alt cs (fun j => 1 * y j + 1 * z j) p r e
  have a (v : Rw) : p ++ v :: (fun j => 1 * y j + 1 * z j) :: r = (p ++ [v]) ++ (fun j => 1 * y j + 1 * z j) :: r := by rw [List.append_assoc]; rfl
  have b (v u : Rw) : (p ++ [v]) ++ u :: r = p ++ v :: u :: r := by rw [List.append_assoc]; rfl
  have l (v : Rw) : (p ++ [v]).length + r.length + 1 = cs.length := by rw [List.length_append]; show _ + 1 + _ + 1 = _; omega
  rw [dt_lin cs y z 1 1 p _ (by show _ + (_ + 1) + 1 = _; omega), a, a, dt_lin cs y z 1 1 _ r (l y), dt_lin cs y z 1 1 _ r (l z), b, b, b, b, dt_alt cs y p r e, dt_alt cs z p r e] at h
  grind
/-- a row moved over others -/
theorem dt_move {cs : List Nat} {y : Rw} : ∀ {mid p r : List Rw}, p.length + mid.length + r.length + 1 = cs.length → dt cs (p ++ (mid ++ y :: r)) = sg mid.length * dt cs (p ++ y :: (mid ++ r))
  | [], p, r, e => by show _ = 1 * _; rw [Int.one_mul]; rfl
  | x :: mid, p, r, e => by
    rw [List.length_cons] at e
    have s := dt_move (cs := cs) (y := y) (mid := mid) (p := p ++ [x]) (r := r) (by rw [List.length_append]; show _ + 1 + _ + _ + 1 = _; omega)
    rw [List.append_assoc] at s
    have t : p ++ [x] ++ y :: (mid ++ r) = p ++ x :: y :: (mid ++ r) := by rw [List.append_assoc]; rfl
    rw [t, dt_swap (by rw [List.length_append]; omega)] at s
    rw [List.length_cons, sg_succ]
    show dt cs (p ++ ([x] ++ (mid ++ y :: r))) = _ * dt cs (p ++ y :: x :: (mid ++ r))
    rw [s]
    grind
/-- two equal rows -/
theorem dt_eq {cs : List Nat} {y : Rw} {p mid r : List Rw} (e : p.length + mid.length + r.length + 2 = cs.length) : dt cs (p ++ y :: (mid ++ y :: r)) = 0 := by
  have s := dt_move (cs := cs) (y := y) (mid := mid) (p := p ++ [y]) (r := r) (by rw [List.length_append]; show _ + 1 + _ + _ + 1 = _; omega)
  have t (q : List Rw) : p ++ [y] ++ q = p ++ y :: q := by rw [List.append_assoc]; rfl
  rw [t, t, dt_alt cs y p (mid ++ r) (by rw [List.length_append]; omega), Int.mul_zero] at s
  exact s
/-! rows of zeros, combinations -/
theorem ex_zrow (f : Rw → Int) {D : List Rw → Int} {m : Nat} {X : Rw} (h : ∀ p r : List Rw, p.length + r.length + 1 = m → D (p ++ X :: r) = 0) :
    ∀ (rest p1 p2 : List Rw), p1.length + p2.length + 1 + rest.length = m + 1 → ex f D (p1 ++ X :: p2) rest = 0
  | [], _, _, _ => rfl
  | x :: rest, p1, p2, e => by
    rw [List.length_cons] at e
    rw [ex_cons, show p1 ++ X :: p2 ++ rest = p1 ++ X :: (p2 ++ rest) by rw [List.append_assoc]; rfl, show p1 ++ X :: p2 ++ [x] = p1 ++ X :: (p2 ++ [x]) by rw [List.append_assoc]; rfl, h p1 (p2 ++ rest) (by rw [List.length_append]; omega), ex_zrow f h rest p1 (p2 ++ [x]) (by rw [List.length_append]; show _ + (_ + 1) + _ + _ = _; omega), Int.mul_zero]
    rfl
/-- only the row X may count -/
theorem ex_only (f : Rw → Int) {D : List Rw → Int} {m : Nat} {X : Rw} (h : ∀ p r : List Rw, p.length + r.length + 1 = m → D (p ++ X :: r) = 0) :
    ∀ (mid pre rest : List Rw), pre.length + mid.length + 1 + rest.length = m + 1 → ex f D pre (mid ++ X :: rest) = sg rest.length * f X * D (pre ++ (mid ++ rest))
  | [], pre, rest, e => by
    show ex f D pre (X :: rest) = _
    rw [ex_cons, ex_zrow f h rest pre [] (by simpa using e), Int.add_zero]
    rfl
  | x :: mid, pre, rest, e => by
    rw [List.length_cons] at e
    show ex f D pre (x :: (mid ++ X :: rest)) = _
    rw [ex_cons, show pre ++ (mid ++ X :: rest) = (pre ++ mid) ++ X :: rest by rw [List.append_assoc], h (pre ++ mid) rest (by rw [List.length_append]; omega), ex_only f h mid (pre ++ [x]) rest (by rw [List.length_append]; show _ + 1 + _ + _ + _ = _; omega), Int.mul_zero, Int.zero_add, List.append_assoc]
    rfl
theorem dt_zrow : ∀ (cs : List Nat) (X : Rw) (p r : List Rw), (∀ j ∈ cs, X j = 0) → p.length + r.length + 1 = cs.length → dt cs (p ++ X :: r) = 0
  | [], _, _, _, _, e => by rw [List.length_nil] at e; omega
  | c :: cs, X, p, r, hz, e => by
    rw [List.length_cons] at e
    rw [dt_cons, ex_only (m := cs.length) (fun x => x c) (fun p r => dt_zrow cs X p r fun j hj => hz j (List.mem_cons_of_mem _ hj)) p [] r (by show 0 + _ + 1 + _ = _; omega), hz c List.mem_cons_self, Int.mul_zero, Int.zero_mul]
/-- combinations of rows -/
def lc : List Int → List Rw → Rw
  | c :: cs, r :: rs => fun j => c * r j + 1 * lc cs rs j
  | _, _ => fun j => 0
theorem dt_lc {cs : List Nat} {p r : List Rw} (e : p.length + r.length + 1 = cs.length) : ∀ (ms : List Int) (R : List Rw), (∀ y ∈ R, dt cs (p ++ y :: r) = 0) → dt cs (p ++ lc ms R :: r) = 0
  | [], [], _ => dt_zrow cs _ p r (fun _ _ => rfl) e
  | [], _ :: _, _ => dt_zrow cs _ p r (fun _ _ => rfl) e
  | _ :: _, [], _ => dt_zrow cs _ p r (fun _ _ => rfl) e
  | m :: ms, y :: R, h => by
    show dt cs (p ++ (fun j => m * y j + 1 * lc ms R j) :: r) = 0
    rw [dt_lin cs y (lc ms R) m 1 p r e, h y List.mem_cons_self, dt_lc e ms R fun z hz => h z (List.mem_cons_of_mem _ hz), Int.mul_zero, Int.mul_zero]
    rfl
/-- the bordered minors are a combination of the row and of R -/
theorem ex_ms (D : List Rw → Int) (x : Rw) : ∀ (R pre : List Rw), ∃ ms : List Int, ms.length = R.length ∧ ∀ j, ex (fun x => x j) D pre (R ++ [x]) = D (pre ++ R) * x j + lc ms R j
  | [], pre => ⟨[], rfl, fun j => by
    show ex (fun x => x j) D pre [x] = _
    rw [ex_cons]
    show 1 * x j * D (pre ++ []) + 0 = D (pre ++ []) * x j + 0
    grind⟩
  | y :: R, pre => by
    obtain ⟨ms, hl, h⟩ := ex_ms D x R (pre ++ [y])
    refine ⟨(sg (R ++ [x]).length * D (pre ++ (R ++ [x]))) :: ms, by rw [List.length_cons, List.length_cons, hl], fun j => ?_⟩
    show ex (fun x => x j) D pre (y :: (R ++ [x])) = _
    rw [ex_cons, h j, List.append_assoc]
    show _ = D (pre ++ y :: R) * x j + (_ * y j + 1 * lc ms R j)
    show _ * y j * _ + (D (pre ++ y :: R) * x j + _) = _
    grind
/-- the bordered minors -/
def bd (cs : List Nat) (R : List Rw) (x : Rw) : Rw := fun j => dt (j :: cs) (R ++ [x])
theorem bd_ms (cs : List Nat) (R : List Rw) (x : Rw) : ∃ ms : List Int, ms.length = R.length ∧ bd cs R x = fun j => dt cs R * x j + 1 * lc ms R j := by
  obtain ⟨ms, hl, h⟩ := ex_ms (dt cs) x R []
  refine ⟨ms, hl, funext fun j => ?_⟩
  rw [Int.one_mul]
  exact h j
theorem bd_col {cs : List Nat} {R : List Rw} {x : Rw} {j : Nat} (h : j ∈ cs) : bd cs R x j = 0 := ex_same cs j _ h
theorem bd_in {cs : List Nat} {R : List Rw} {x : Rw} {j : Nat} (e : R.length = cs.length) (h : x ∈ R) : bd cs R x j = 0 := by
  obtain ⟨a, b, rfl⟩ := List.append_of_mem h
  show dt (j :: cs) ((a ++ x :: b) ++ [x]) = 0
  rw [show (a ++ x :: b) ++ [x] = a ++ x :: (b ++ x :: []) by rw [List.append_assoc]; rfl]
  refine dt_eq ?_
  rw [List.length_append, List.length_cons] at e
  rw [List.length_cons]
  show _ + _ + 0 + 2 = _
  omega
/-- a row of bordered minors in the place of the row -/
theorem dt_bd {cs ks : List Nat} {R p r : List Rw} {x : Rw} (hp : ∀ y ∈ R, y ∈ p) (e : p.length + r.length + 1 = ks.length) : dt ks (p ++ bd cs R x :: r) = dt cs R * dt ks (p ++ x :: r) := by
  obtain ⟨ms, _, h⟩ := bd_ms cs R x
  rw [h, dt_lin ks x (lc ms R) (dt cs R) 1 p r e, dt_lc e ms R (fun y hy => ?_), Int.mul_zero, Int.add_zero]
  obtain ⟨a, b, rfl⟩ := List.append_of_mem (hp y hy)
  rw [show (a ++ y :: b) ++ y :: r = a ++ y :: (b ++ y :: r) by rw [List.append_assoc]; rfl]
  rw [List.length_append, List.length_cons] at e
  exact dt_eq (by omega)
/-- the step of Bareiss -/
theorem dt_step {cs : List Nat} {R : List Rw} {x y : Rw} {c j : Nat} (e : R.length = cs.length) (d : dt cs R ≠ 0) : dt cs R * dt (j :: c :: cs) (R ++ [y] ++ [x]) = bd cs R y c * bd cs R x j - bd cs R x c * bd cs R y j := by
  have h1 : dt (j :: c :: cs) (R ++ bd cs R y :: [bd cs R x]) = dt cs R * (dt cs R * dt (j :: c :: cs) (R ++ [y] ++ [x])) := by
    rw [dt_bd (fun z hz => hz) (by show _ + 1 + 1 = _ + 1 + 1; rw [e]), show R ++ y :: [bd cs R x] = (R ++ [y]) ++ bd cs R x :: [] by rw [List.append_assoc]; rfl, dt_bd (fun z hz => List.mem_append_left _ hz) (by rw [List.length_append]; show _ + 1 + 0 + 1 = _ + 1 + 1; rw [e])]
  have z (w : Rw) : ∀ p r : List Rw, p.length + r.length + 1 = cs.length → dt cs (p ++ bd cs R w :: r) = 0 := fun p r el => dt_zrow cs _ p r (fun j hj => bd_col hj) el
  have o (w : Rw) (p r : List Rw) (el : p.length + r.length = cs.length) : dt (c :: cs) (p ++ bd cs R w :: r) = sg r.length * bd cs R w c * dt cs (p ++ r) := by
    rw [dt_cons, ex_only (m := cs.length) (fun x => x c) (z w) p [] r (by show 0 + _ + 1 + _ = _; omega)]
    rfl
  have two : ∀ (rest pre : List Rw), pre.length + rest.length = cs.length → ex (fun x => x j) (dt (c :: cs)) pre (rest ++ bd cs R y :: [bd cs R x]) = - bd cs R y j * (bd cs R x c * dt cs (pre ++ rest)) + bd cs R x j * (bd cs R y c * dt cs (pre ++ rest)) := by
    intro rest
    induction rest with
    | nil =>
      intro pre el
      have el : pre.length = cs.length := el
      show ex _ _ pre (bd cs R y :: [bd cs R x]) = _
      rw [ex_cons, ex_cons, o x pre [] (by show _ + 0 = _; omega), show pre ++ [bd cs R y] ++ [] = pre ++ bd cs R y :: [] by rw [List.append_nil], o y pre [] (by show _ + 0 = _; omega)]
      show (-1) * bd cs R y j * (1 * bd cs R x c * dt cs (pre ++ [])) + (1 * bd cs R x j * (1 * bd cs R y c * dt cs (pre ++ [])) + 0) = _
      grind
    | cons w rest ih =>
      intro pre el
      rw [List.length_cons] at el
      show ex _ _ pre (w :: (rest ++ bd cs R y :: [bd cs R x])) = _
      rw [ex_cons, ih (pre ++ [w]) (by rw [List.length_append]; show _ + 1 + _ = _; omega), show pre ++ (rest ++ bd cs R y :: [bd cs R x]) = (pre ++ rest) ++ bd cs R y :: [bd cs R x] by rw [List.append_assoc], o y (pre ++ rest) [bd cs R x] (by rw [List.length_append]; show _ + _ + 1 = _; omega), z x (pre ++ rest) [] (by rw [List.length_append]; show _ + _ + 0 + 1 = _; omega), List.append_assoc]
      show _ * (_ * 0) + _ = _
      grind
  have h2 := two R [] (by show 0 + _ = _; omega)
  have h3 : dt (j :: c :: cs) (R ++ bd cs R y :: [bd cs R x]) = ex (fun x => x j) (dt (c :: cs)) [] (R ++ bd cs R y :: [bd cs R x]) := rfl
  rw [h3, h2] at h1
  have h4 : dt cs R * (dt cs R * dt (j :: c :: cs) (R ++ [y] ++ [x])) = dt cs R * (bd cs R y c * bd cs R x j - bd cs R x c * bd cs R y j) := by
    rw [← h1]
    show - _ * (_ * dt cs R) + _ * (_ * dt cs R) = _
    grind
  exact Int.eq_of_mul_eq_mul_left d h4
/-! ranks -/
theorem le_of_sub {α : Type} : ∀ (R p : List α), p.Nodup → (∀ x ∈ p, x ∈ R) → p.length ≤ R.length
  | [], p, _, h => by
    cases p with
    | nil => exact Nat.le_refl _
    | cons x p => exact absurd (h x List.mem_cons_self) (by simp)
  | r :: R, p, nd, h => by
    by_cases hr : r ∈ p
    · obtain ⟨a, b, rfl⟩ := List.append_of_mem hr
      have nd2 : (r :: (a ++ b)).Nodup := (List.perm_middle (a := r) (l₁ := a) (l₂ := b)).nodup_iff.mp nd
      rw [List.nodup_cons] at nd2
      have := le_of_sub R (a ++ b) nd2.2 (fun x hx => ?_)
      · rw [List.length_append] at this
        rw [List.length_append, List.length_cons, List.length_cons]
        omega
      · have hx' : x ∈ a ++ r :: b := by
          rcases List.mem_append.mp hx with z | z
          · exact List.mem_append_left _ z
          · exact List.mem_append_right _ (List.mem_cons_of_mem _ z)
        exact (List.mem_cons.mp (h x hx')).resolve_left fun z => nd2.1 (z ▸ hx)
    · have := le_of_sub R p nd (fun x hx => (List.mem_cons.mp (h x hx)).resolve_left fun z => hr (z ▸ hx))
      rw [List.length_cons]
      omega
theorem twice_of {α : Type} : ∀ (p : List α), ¬ p.Nodup → ∃ (y : α) (a m b : List α), p = a ++ y :: (m ++ y :: b)
  | [], h => absurd .nil h
  | x :: p, h => by
    by_cases hx : x ∈ p
    · obtain ⟨m, b, rfl⟩ := List.append_of_mem hx
      exact ⟨x, [], m, b, rfl⟩
    · obtain ⟨y, a, m, b, e⟩ := twice_of p fun z => h (List.nodup_cons.mpr ⟨hx, z⟩)
      exact ⟨y, x :: a, m, b, by rw [e]; rfl⟩
/-- more rows than what they are combined of -/
theorem dt_many {cs : List Nat} {R : List Rw} (hR : R.length < cs.length) : ∀ (ys p : List Rw), (∀ y ∈ p, y ∈ R) → (∀ y ∈ ys, ∃ ms, y = lc ms R) → p.length + ys.length = cs.length → dt cs (p ++ ys) = 0
  | [], p, hp, _, e => by
    have nd : ¬ p.Nodup := fun nd => by
      have := le_of_sub R p nd hp
      rw [List.length_nil] at e
      omega
    obtain ⟨y, a, m, b, rfl⟩ := twice_of p nd
    rw [List.append_nil]
    refine dt_eq ?_
    rw [List.length_append, List.length_cons, List.length_append, List.length_cons, List.length_nil] at e
    omega
  | y :: ys, p, hp, hy, e => by
    obtain ⟨ms, rfl⟩ := hy y List.mem_cons_self
    rw [List.length_cons] at e
    refine dt_lc (by omega) ms R fun z hz => ?_
    have := dt_many hR ys (p ++ [z]) (fun w hw => (List.mem_append.mp hw).elim (hp w) fun h => by rw [List.mem_singleton.mp h]; exact hz) (fun w hw => hy w (List.mem_cons_of_mem _ hw)) (by rw [List.length_append]; show _ + 1 + _ = _; omega)
    rw [List.append_assoc] at this
    exact this
end DT
-- DS
/-! more on determinants: orders of rows, columns, the sum over all orders -/
namespace DT
/-! ### rows in another order -/
theorem dt_perm {cs : List Nat} {l l' : List Rw} (h : l.Perm l') : ∀ p : List Rw, p.length + l.length = cs.length → dt cs (p ++ l) = dt cs (p ++ l') ∨ dt cs (p ++ l) = - dt cs (p ++ l') := by
  induction h with
  | nil => intro p _; exact .inl rfl
  | cons x h ih =>
    intro p e
    have := ih (p ++ [x]) (by rw [List.length_append]; rw [List.length_cons] at e; show _ + 1 + _ = _; omega)
    rw [List.append_assoc, List.append_assoc] at this
    exact this
  | swap x y l => intro p e; exact .inr (dt_swap (by rw [List.length_cons, List.length_cons] at e; omega))
  | trans h1 h2 a b =>
    intro p e
    have e2 := h1.length_eq
    rcases a p e with a | a <;> rcases b p (by omega) with b | b <;> rw [a, b]
    · exact .inl rfl
    · exact .inr rfl
    · exact .inr rfl
    · exact .inl (by omega)
theorem dt_perm0 {cs : List Nat} {l l' : List Rw} (h : l.Perm l') (e : l.length = cs.length) (n : dt cs l ≠ 0) : dt cs l' ≠ 0 := fun z => by
  rcases dt_perm (cs := cs) h [] (by rw [List.length_nil]; omega) with a | a
  · exact n (a.trans z)
  · exact n (a.trans (by show - dt cs l' = 0; rw [z]; rfl))
/-! ### columns -/
theorem ex_zero' (f : Rw → Int) {D : List Rw → Int} (h : ∀ l : List Rw, D l = 0) : ∀ (rest pre : List Rw), ex f D pre rest = 0
  | [], _ => rfl
  | x :: rest, pre => by rw [ex_cons, h, ex_zero' f h rest, Int.mul_zero]; rfl
theorem dt_pre0 {cs : List Nat} (h : ∀ l, dt cs l = 0) : ∀ (pre : List Nat) (l : List Rw), dt (pre ++ cs) l = 0
  | [], l => h l
  | c :: pre, l => by
    show ex _ (dt (pre ++ cs)) [] l = 0
    exact ex_zero' _ (dt_pre0 h pre) l []
theorem dt_dup (pre mid r : List Nat) (k : Nat) (l : List Rw) : dt (pre ++ k :: (mid ++ k :: r)) l = 0 :=
  dt_pre0 (cs := k :: (mid ++ k :: r)) (fun l => ex_same (mid ++ k :: r) k l (List.mem_append_right _ List.mem_cons_self)) pre l
/-- the same with any numbers of the rows in the place of the columns -/
def df : List (Rw → Int) → List Rw → Int
  | [], _ => 1
  | f :: fs, rows => ex f (df fs) [] rows
theorem df_dt : ∀ (cs : List Nat) (l : List Rw), df (cs.map fun j x => x j) l = dt cs l
  | [], _ => rfl
  | c :: cs, l => by
    show ex _ (df (cs.map fun j x => x j)) [] l = ex _ (dt cs) [] l
    rw [funext (df_dt cs)]
theorem ex_map (f : Rw → Int) (D : List Rw → Int) (g : Rw → Rw) : ∀ (rest pre : List Rw), ex f D (pre.map g) (rest.map g) = ex (fun x => f (g x)) (fun l => D (l.map g)) pre rest
  | [], _ => rfl
  | x :: rest, pre => by
    rw [List.map_cons, ex_cons, ex_cons, List.length_map, ← ex_map f D g rest (pre ++ [x]), List.map_append, List.map_append]
    rfl
theorem df_map (g : Rw → Rw) : ∀ (fs : List (Rw → Int)) (l : List Rw), df fs (l.map g) = df (fs.map fun f x => f (g x)) l
  | [], _ => rfl
  | f :: fs, l => by
    show ex f (df fs) ([].map g) (l.map g) = ex (fun x => f (g x)) (df (fs.map fun f x => f (g x))) [] l
    rw [ex_map, funext fun l => df_map g fs l]
theorem df_lin (f g : Rw → Int) (c : Int) (r : List (Rw → Int)) : ∀ (pre : List (Rw → Int)) (l : List Rw), df (pre ++ (fun x => f x + c * g x) :: r) l = df (pre ++ f :: r) l + c * df (pre ++ g :: r) l
  | [], l => ex_f (df r) f g c l []
  | p :: pre, l => by
    show ex p (df (pre ++ _ :: r)) [] l = ex p (df (pre ++ f :: r)) [] l + c * ex p (df (pre ++ g :: r)) [] l
    rw [← ex_smul, ← ex_add, funext fun l => df_lin f g c r pre l]
/-- c times column k added to column j -/
def colOp (j k : Nat) (c : Int) (x : Rw) : Rw := fun i => if i = j then x j + c * x k else x i
theorem df_colOp {j k : Nat} {c : Int} (i : Nat) : (fun x : Rw => colOp j k c x i) = if i = j then (fun x : Rw => x j + c * x k) else fun x : Rw => x i := by
  funext x
  unfold colOp
  split <;> rfl
/-- zero for all columns of the old rows, so for the new ones -/
theorem dt_colOp0 {j k : Nat} {c : Int} {l : List Rw} {s : Nat} (h : ∀ cs : List Nat, cs.length = s → dt cs l = 0) : ∀ (cs pre : List Nat), pre.length + cs.length = s → df (pre.map (fun j (x : Rw) => x j) ++ cs.map fun i (x : Rw) => colOp j k c x i) l = 0
  | [], pre, e => by
    rw [List.map_nil, List.append_nil, df_dt]
    exact h pre e
  | i :: cs, pre, e => by
    rw [List.length_cons] at e
    have step : ∀ i : Nat, df (pre.map (fun j (x : Rw) => x j) ++ (fun x => x i) :: cs.map fun i (x : Rw) => colOp j k c x i) l = 0 := fun i => by
      have := dt_colOp0 (j := j) (k := k) (c := c) h cs (pre ++ [i]) (by rw [List.length_append]; show _ + 1 + _ = _; omega)
      rw [List.map_append, List.append_assoc] at this
      exact this
    rw [List.map_cons, df_colOp]
    split
    · rw [df_lin (fun x => x j) (fun x => x k) c, step j, step k, Int.mul_zero]; rfl
    · exact step i
theorem dt_col0 {j k : Nat} {c : Int} {l : List Rw} {s : Nat} (h : ∀ cs : List Nat, cs.length = s → dt cs l = 0) (cs : List Nat) (e : cs.length = s) : dt cs (l.map (colOp j k c)) = 0 := by
  rw [← df_dt, df_map, List.map_map]
  exact dt_colOp0 h cs [] (by show 0 + _ = _; omega)
/-- the determinant at all columns stays -/
theorem dt_col {j k : Nat} {c : Int} {l : List Rw} {a b : List Nat} (hk : k ∈ a ++ b) (hj : j ∉ a ++ b) : dt (a ++ j :: b) (l.map (colOp j k c)) = dt (a ++ j :: b) l := by
  have same : ∀ t : List Nat, j ∉ t → t.map (fun i (x : Rw) => colOp j k c x i) = t.map fun i (x : Rw) => x i := fun t ht => by
    refine List.map_congr_left fun i hi => ?_
    rw [df_colOp]
    exact if_neg (fun z : i = j => ht (z ▸ hi))
  rw [← df_dt, df_map, List.map_map]
  show df ((a ++ j :: b).map (fun i (x : Rw) => colOp j k c x i)) l = _
  rw [List.map_append, List.map_cons, same a (fun z => hj (List.mem_append_left _ z)), same b (fun z => hj (List.mem_append_right _ z)), df_colOp, if_pos rfl, df_lin (fun x => x j) (fun x => x k) c]
  have e1 : a.map (fun i (x : Rw) => x i) ++ (fun x => x j) :: b.map (fun i (x : Rw) => x i) = (a ++ j :: b).map fun i (x : Rw) => x i := by rw [List.map_append]; rfl
  have e2 : a.map (fun i (x : Rw) => x i) ++ (fun x => x k) :: b.map (fun i (x : Rw) => x i) = (a ++ k :: b).map fun i (x : Rw) => x i := by rw [List.map_append]; rfl
  rw [e1, e2, df_dt, df_dt]
  have z : dt (a ++ k :: b) l = 0 := by
    rcases List.mem_append.mp hk with h | h
    · obtain ⟨p, q, rfl⟩ := List.append_of_mem h
      rw [List.append_assoc]
      exact dt_dup p q b k l
    · obtain ⟨p, q, rfl⟩ := List.append_of_mem h
      exact dt_dup a p q k l
  rw [z, Int.mul_zero, Int.add_zero]
/-! ### the sum over all orders -/
def inv : List Nat → Nat
  | [] => 0
  | a :: l => (l.filter fun b => decide (b < a)).length + inv l
/-- the orders of n columns: n put at each place of the orders before -/
def orders : Nat → List (List Nat)
  | 0 => [[]]
  | n + 1 => ((orders n).map fun o => (List.range (n + 1)).map fun i => o.take i ++ n :: o.drop i).flatten
def prd (cs : List Nat) : List Rw → List Nat → Int
  | x :: l, o :: r => x (cs.getD o 0) * prd cs l r
  | _, _ => 1
def isum (l : List Int) : Int := l.foldr (· + ·) 0
theorem isum_cons (a : Int) (l : List Int) : isum (a :: l) = a + isum l := rfl
theorem isum_app : ∀ (a b : List Int), isum (a ++ b) = isum a + isum b
  | [], b => by show isum b = 0 + isum b; omega
  | x :: a, b => by show x + isum (a ++ b) = x + isum a + isum b; rw [isum_app a b]; omega
theorem isum_flat {α β : Type} (f : β → Int) (g : α → List β) : ∀ l : List α, isum (((l.map g).flatten).map f) = isum (l.map fun a => isum ((g a).map f))
  | [] => rfl
  | a :: l => by
    rw [List.map_cons, List.flatten_cons, List.map_append, isum_app, isum_flat f g l]; rfl
theorem isum_mul {α : Type} (c : Int) (f : α → Int) : ∀ l : List α, isum (l.map fun a => c * f a) = c * isum (l.map f)
  | [] => by show (0 : Int) = c * 0; omega
  | a :: l => by
    rw [List.map_cons, List.map_cons, isum_cons, isum_cons, isum_mul c f l, Int.mul_add]
theorem isum_add {α : Type} (f g : α → Int) : ∀ l : List α, isum (l.map fun a => f a + g a) = isum (l.map f) + isum (l.map g)
  | [] => rfl
  | a :: l => by
    rw [List.map_cons, List.map_cons, List.map_cons, isum_cons, isum_cons, isum_cons, isum_add f g l]; omega
theorem isum_zero {α : Type} : ∀ l : List α, isum (l.map fun _ => (0 : Int)) = 0
  | [] => rfl
  | a :: l => by rw [List.map_cons, isum_cons, isum_zero l]; rfl
theorem isum_swap {α β : Type} (f : α → β → Int) (m : List β) : ∀ l : List α, isum (l.map fun a => isum (m.map fun b => f a b)) = isum (m.map fun b => isum (l.map fun a => f a b))
  | [] => by show (0 : Int) = _; exact (isum_zero m).symm
  | a :: l => by
    rw [List.map_cons, isum_cons, isum_swap f m l, ← isum_add]; rfl
theorem inv_app : ∀ (a b : List Nat) (n : Nat), (∀ x ∈ a, x < n) → (∀ x ∈ b, x < n) → inv (a ++ n :: b) = inv (a ++ b) + b.length
  | [], b, n, _, hb => by
    show (b.filter fun x => decide (x < n)).length + inv b = inv b + b.length
    rw [List.filter_eq_self.mpr fun x hx => decide_eq_true (hb x hx)]
    omega
  | x :: a, b, n, ha, hb => by
    show ((a ++ n :: b).filter fun y => decide (y < x)).length + inv (a ++ n :: b) = ((a ++ b).filter fun y => decide (y < x)).length + inv (a ++ b) + b.length
    have hx := ha x List.mem_cons_self
    rw [inv_app a b n (fun y hy => ha y (List.mem_cons_of_mem _ hy)) hb, List.filter_append, List.filter_append, List.filter_cons, decide_eq_false (by omega : ¬ n < x)]
    show (_ ++ List.filter _ b).length + _ = _
    omega
theorem orders_lt : ∀ (n : Nat) (o : List Nat), o ∈ orders n → o.length = n ∧ ∀ x ∈ o, x < n
  | 0, o, h => by
    rw [List.mem_singleton.mp h]
    exact ⟨rfl, fun x hx => by cases hx⟩
  | n + 1, o, h => by
    obtain ⟨l, hl, ho⟩ := List.mem_flatten.mp h
    obtain ⟨q, hq, rfl⟩ := List.mem_map.mp hl
    obtain ⟨i, hi, rfl⟩ := List.mem_map.mp ho
    obtain ⟨e, f⟩ := orders_lt n q hq
    have hi' := List.mem_range.mp hi
    refine ⟨?_, fun x hx => ?_⟩
    · rw [List.length_append, List.length_cons, List.length_take, List.length_drop]; omega
    · rcases List.mem_append.mp hx with hx | hx
      · have := f x (List.mem_of_mem_take hx); omega
      · rcases List.mem_cons.mp hx with rfl | hx
        · omega
        · have := f x (List.mem_of_mem_drop hx); omega
theorem prd_ins (cs : List Nat) (n : Nat) : ∀ (i : Nat) (rows : List Rw) (o : List Nat), rows.length = o.length + 1 → i ≤ o.length → prd cs rows (o.take i ++ n :: o.drop i) = (rows.getD i fun _ => 0) (cs.getD n 0) * prd cs (rows.eraseIdx i) o
  | 0, x :: rows, o, e, _ => rfl
  | 0, [], o, e, _ => by simp at e
  | i + 1, [], o, e, _ => by simp at e
  | i + 1, x :: rows, [], e, h => by simp at h
  | i + 1, x :: rows, a :: o, e, h => by
    show x (cs.getD a 0) * prd cs rows (o.take i ++ n :: o.drop i) = (rows.getD i fun _ => 0) (cs.getD n 0) * (x (cs.getD a 0) * prd cs (rows.eraseIdx i) o)
    rw [prd_ins cs n i rows o (by simpa using e) (by simpa using h)]
    grind
theorem ex_sum (f : Rw → Int) (D : List Rw → Int) : ∀ (rest pre : List Rw), ex f D pre rest = isum ((List.range rest.length).map fun i => sg (rest.length - 1 - i) * f (rest.getD i fun _ => 0) * D (pre ++ rest.eraseIdx i))
  | [], _ => rfl
  | x :: rest, pre => by
    rw [ex_cons, ex_sum f D rest (pre ++ [x]), List.length_cons, List.range_succ_eq_map, List.map_cons, isum_cons, List.map_map]
    congr 1
    congr 1
    refine List.map_congr_left fun i hi => ?_
    have := List.mem_range.mp hi
    show sg (rest.length - 1 - i) * _ * D (pre ++ [x] ++ rest.eraseIdx i) = sg (rest.length + 1 - 1 - (i + 1)) * _ * D (pre ++ x :: rest.eraseIdx i)
    rw [show rest.length + 1 - 1 - (i + 1) = rest.length - 1 - i by omega, List.append_assoc]
    rfl
theorem sg_add (a b : Nat) : sg (a + b) = sg a * sg b := by
  induction b with
  | zero => show sg a = sg a * 1; omega
  | succ b ih => rw [← Nat.add_assoc, sg_succ, ih, sg_succ]; grind
/-- the determinant as the sum over all orders -/
theorem dt_orders : ∀ (n : Nat) (cs : List Nat) (rows : List Rw), cs.length = n → rows.length = n → isum ((orders n).map fun o => sg (inv o) * prd cs rows o) = dt cs.reverse rows := by
  intro n
  induction n with
  | zero =>
    intro cs rows hc hr
    have := List.length_eq_zero_iff.mp hc
    have := List.length_eq_zero_iff.mp hr
    subst_vars
    rfl
  | succ n ih =>
    intro cs rows hc hr
    obtain ⟨ks, c, rfl⟩ : ∃ ks c, cs = ks ++ [c] := ⟨cs.dropLast, cs.getLast (by intro z; rw [z] at hc; simp at hc), (List.dropLast_concat_getLast _).symm⟩
    have hk : ks.length = n := by rw [List.length_append] at hc; simpa using hc
    rw [List.reverse_append]
    show isum ((((orders n).map fun o => (List.range (n + 1)).map fun i => o.take i ++ n :: o.drop i).flatten).map _) = dt (c :: ks.reverse) rows
    rw [isum_flat, dt_cons, ex_sum, hr]
    have h1 : (orders n).map (fun a => isum (((List.range (n + 1)).map fun i => a.take i ++ n :: a.drop i).map fun o => sg (inv o) * prd (ks ++ [c]) rows o)) = (orders n).map (fun a => isum ((List.range (n + 1)).map fun i => (sg (n - i) * (rows.getD i fun _ => 0) c) * (sg (inv a) * prd ks (rows.eraseIdx i) a))) := by
      refine List.map_congr_left fun a ha => ?_
      obtain ⟨la, lt⟩ := orders_lt n a ha
      rw [List.map_map]
      congr 1
      refine List.map_congr_left fun i hi => ?_
      have hi' := List.mem_range.mp hi
      show sg (inv (a.take i ++ n :: a.drop i)) * prd (ks ++ [c]) rows (a.take i ++ n :: a.drop i) = _
      rw [inv_app (a.take i) (a.drop i) n (fun x hx => lt x (List.mem_of_mem_take hx)) (fun x hx => lt x (List.mem_of_mem_drop hx)), List.take_append_drop, List.length_drop, la, prd_ins _ n i rows a (by omega) (by omega), sg_add]
      have gc : (ks ++ [c]).getD n 0 = c := by
        rw [List.getD_eq_getElem?_getD, List.getElem?_append_right (by omega), hk, Nat.sub_self]; rfl
      have pk : ∀ (r : List Rw) (o : List Nat), (∀ x ∈ o, x < n) → prd (ks ++ [c]) r o = prd ks r o := by
        intro r
        induction r with
        | nil => intro o _; rfl
        | cons x r ihr =>
          intro o ho
          cases o with
          | nil => rfl
          | cons y o =>
            show x ((ks ++ [c]).getD y 0) * _ = x (ks.getD y 0) * _
            have hy := ho y List.mem_cons_self
            rw [ihr o fun z hz => ho z (List.mem_cons_of_mem _ hz), List.getD_eq_getElem?_getD, List.getD_eq_getElem?_getD, List.getElem?_append_left (by omega)]
      rw [gc, pk _ _ lt]
      grind
    rw [h1, isum_swap]
    congr 1
    refine List.map_congr_left fun i hi => ?_
    have hi' := List.mem_range.mp hi
    rw [isum_mul, ih ks (rows.eraseIdx i) hk (by rw [List.length_eraseIdx]; split <;> omega)]
    rfl
end DT
-- DB
/-! the elimination without fractions -/
namespace DT
/-- a row of a table as a row of numbers -/
def fn (x : List Int) : Rw := fun j => x.getD j 0
/-! ### how great determinants become -/
theorem natAbs_sg (k : Nat) : (sg k).natAbs = 1 := by unfold sg; split <;> rfl
theorem ex_bound {f : Rw → Int} {D : List Rw → Int} {F B m : Nat} {S : Rw → Prop} (hf : ∀ x, S x → (f x).natAbs ≤ F) (hD : ∀ l : List Rw, (∀ x ∈ l, S x) → l.length = m → (D l).natAbs ≤ B) : ∀ (rest pre : List Rw), (∀ x ∈ pre, S x) → (∀ x ∈ rest, S x) → pre.length + rest.length = m + 1 → (ex f D pre rest).natAbs ≤ rest.length * (F * B)
  | [], _, _, _, _ => Nat.zero_le _
  | x :: rest, pre, hp, hr, e => by
    rw [List.length_cons] at e
    have h1 := ex_bound hf hD rest (pre ++ [x]) (fun y hy => (List.mem_append.mp hy).elim (hp y) fun z => by rw [List.mem_singleton.mp z]; exact hr x List.mem_cons_self) (fun y hy => hr y (List.mem_cons_of_mem _ hy)) (by rw [List.length_append]; show _ + 1 + _ = _; omega)
    have h2 := hD (pre ++ rest) (fun y hy => (List.mem_append.mp hy).elim (hp y) fun z => hr y (List.mem_cons_of_mem _ z)) (by rw [List.length_append]; omega)
    have h3 := hf x (hr x List.mem_cons_self)
    rw [ex_cons, List.length_cons, Nat.add_mul, Nat.one_mul]
    refine Nat.le_trans (Int.natAbs_add_le _ _) ?_
    rw [Int.natAbs_mul, Int.natAbs_mul, natAbs_sg, Nat.one_mul]
    have := Nat.mul_le_mul h3 h2
    omega
/-- numbers up to M -/
def Lim (M : Nat) (x : Rw) : Prop := ∀ j, (x j).natAbs ≤ M
theorem dt_bound {M N : Nat} : ∀ (cs : List Nat) (l : List Rw), (∀ x ∈ l, Lim M x) → l.length = cs.length → cs.length ≤ N → (dt cs l).natAbs ≤ (N * M) ^ cs.length
  | [], l, _, _, _ => Nat.le_refl _
  | c :: cs, l, h, e, hn => by
    rw [List.length_cons] at e hn
    have := ex_bound (f := fun x => x c) (D := dt cs) (m := cs.length) (S := Lim M) (F := M) (B := (N * M) ^ cs.length) (fun x hx => hx c) (fun l hl el => dt_bound cs l hl el (by omega)) l [] (fun _ z => by cases z) h (by show 0 + _ = _; omega)
    rw [dt_cons, List.length_cons, Nat.pow_succ, Nat.mul_comm]
    refine Nat.le_trans this ?_
    rw [← Nat.mul_assoc]
    exact Nat.mul_le_mul_right _ (Nat.mul_le_mul_right _ (by omega))
/-! ### the state -/
/-- rows where a column stands at j -/
def rowOf (L : Nat) (f : Rw) : List Int := (List.range L).map f
theorem rowOf_len (L : Nat) (f : Rw) : (rowOf L f).length = L := by unfold rowOf; rw [List.length_map, List.length_range]
theorem rowOf_get {L j : Nat} (f : Rw) (h : j < L) : (rowOf L f)[j]? = some (f j) := by
  unfold rowOf
  rw [List.getElem?_map, List.getElem?_range h]
  rfl
theorem fn_rowOf {L j : Nat} (f : Rw) (h : j < L) : fn (rowOf L f) j = f j := by
  unfold fn
  rw [List.getD_eq_getElem?_getD, rowOf_get f h]
  rfl
theorem rowOf_fn {L : Nat} {x : List Int} (h : x.length = L) : rowOf L (fn x) = x := by
  apply List.ext_getElem?
  intro j
  by_cases hj : j < L
  · rw [rowOf_get _ hj]
    unfold fn
    rw [List.getD_eq_getElem?_getD, List.getElem?_eq_getElem (by omega)]
    rfl
  · rw [List.getElem?_eq_none (by rw [rowOf_len]; omega), List.getElem?_eq_none (by omega)]
def low (L : Nat) (up down last : Int) (x p : List Int) : List Int := rowOf L fun j => (up * fn x j - down * fn p j).fdiv last
structure St (T : List (List Int)) (L c r : Nat) (rows : List (List Int)) (sign last : Int) (cs : List Nat) (P : List (List Int)) : Prop where
  perm : P.Perm T
  wid : ∀ x ∈ T, x.length = L
  si : sign = 1 ∨ sign = -1
  det : ∀ ks : List Nat, ks.length = T.length → dt ks (T.map fn) = sign * dt ks (P.map fn)
  len : rows.length = P.length
  csl : cs.length = r
  rn : r ≤ P.length
  cl : c ≤ L
  lt : ∀ j ∈ cs, j < c
  srt : cs.Pairwise (· > ·)
  la : last = dt cs ((P.take r).map fn)
  ne : last ≠ 0
  lo : ∀ (k : Nat) (x y : List Int), r ≤ k → rows[k]? = some x → P[k]? = some y → x = rowOf L (bd cs ((P.take r).map fn) (fn y))
  tp : ∀ (k : Nat) (x y : List Int), k < r → rows[k]? = some x → P[k]? = some y → x = rowOf L (bd (cs.drop (r - k)) ((P.take k).map fn) (fn y))
  ze : ∀ (k : Nat) (x : List Int), r ≤ k → rows[k]? = some x → ∀ j, j < c → fn x j = 0
theorem St.init {T : List (List Int)} {L : Nat} (h : ∀ x ∈ T, x.length = L) : St T L 0 0 T 1 1 [] T where
  perm := .refl _
  wid := h
  si := .inl rfl
  det := fun ks _ => (Int.one_mul _).symm
  len := rfl
  csl := rfl
  rn := Nat.zero_le _
  cl := Nat.zero_le _
  lt := fun _ z => by cases z
  srt := .nil
  la := rfl
  ne := by decide
  lo := fun k x y _ hx hy => by
    rw [hx] at hy
    cases hy
    have e : bd [] ((T.take 0).map fn) (fn x) = fn x := by
      funext j
      show (1 : Int) * fn x j * 1 + 0 = fn x j
      omega
    rw [e, rowOf_fn (h x (List.mem_of_getElem? hx))]
  tp := fun k _ _ hk => absurd hk (Nat.not_lt_zero _)
  ze := fun _ _ _ _ j hj => absurd hj (Nat.not_lt_zero _)
/-- no pivot in the column -/
theorem St.skip {T : List (List Int)} {L c r : Nat} {rows : List (List Int)} {sign last : Int} {cs : List Nat} {P : List (List Int)} (s : St T L c r rows sign last cs P) (hc : c < L) (h : ∀ (k : Nat) (x : List Int), r ≤ k → rows[k]? = some x → fn x c = 0) : St T L (c + 1) r rows sign last cs P :=
  { s with
    cl := hc
    lt := fun j hj => Nat.lt_succ_of_lt (s.lt j hj)
    ze := fun k x hk hx j hj => by
      rcases Nat.lt_succ_iff_lt_or_eq.mp hj with z | rfl
      · exact s.ze k x hk hx j z
      · exact h k x hk hx }
/-- two places exchanged -/
def swp {α : Type} (l : List α) (i j : Nat) : List α := match l[i]?, l[j]? with
  | some a, some b => (l.set i b).set j a
  | _, _ => l
theorem swp_some {α : Type} {l : List α} {i j : Nat} {a b : α} (ha : l[i]? = some a) (hb : l[j]? = some b) : swp l i j = (l.set i b).set j a := by
  unfold swp
  rw [ha, hb]
theorem swp_len {α : Type} (l : List α) (i j : Nat) : (swp l i j).length = l.length := by
  unfold swp
  split
  · rw [List.length_set, List.length_set]
  · rfl
theorem swp_get {α : Type} {l : List α} {i j : Nat} (hi : i < l.length) (hj : j < l.length) (k : Nat) : (swp l i j)[k]? = if k = j then l[i]? else if k = i then l[j]? else l[k]? := by
  have ei := List.getElem?_eq_getElem hi
  have ej := List.getElem?_eq_getElem hj
  rw [swp_some ei ej]
  by_cases e1 : k = j
  · subst e1
    rw [if_pos rfl, List.getElem?_set_self (by rw [List.length_set]; omega), ei]
  · rw [if_neg e1, List.getElem?_set_ne (fun z => e1 z.symm)]
    by_cases e2 : k = i
    · subst e2
      rw [if_pos rfl, List.getElem?_set_self (by omega), ej]
    · rw [if_neg e2, List.getElem?_set_ne (fun z => e2 z.symm)]
theorem two_split {α : Type} {l : List α} {i j : Nat} (h : i < j) (hj : j < l.length) : ∃ (a m b : List α) (x y : α), l = a ++ x :: (m ++ y :: b) ∧ a.length = i ∧ m.length = j - i - 1 ∧ l[i]? = some x ∧ l[j]? = some y := by
  have e1 : l.drop i = l[i] :: l.drop (i + 1) := List.drop_eq_getElem_cons (by omega)
  have e2 : l.drop j = l[j] :: l.drop (j + 1) := List.drop_eq_getElem_cons hj
  have e3 : l.drop (i + 1) = (l.drop (i + 1)).take (j - i - 1) ++ l.drop j := by
    have := (List.take_append_drop (j - i - 1) (l.drop (i + 1))).symm
    rw [List.drop_drop] at this
    rw [show i + 1 + (j - i - 1) = j by omega] at this
    exact this
  refine ⟨l.take i, (l.drop (i + 1)).take (j - i - 1), l.drop (j + 1), l[i], l[j], ?_, by rw [List.length_take]; omega, by rw [List.length_take, List.length_drop]; omega, List.getElem?_eq_getElem _, List.getElem?_eq_getElem _⟩
  rw [← e2, ← e3, ← e1, List.take_append_drop]
theorem swp_split {α : Type} (a m b : List α) (x y : α) : swp (a ++ x :: (m ++ y :: b)) a.length (a.length + 1 + m.length) = a ++ y :: (m ++ x :: b) := by
  have h1 : (a ++ x :: (m ++ y :: b))[a.length]? = some x := by rw [List.getElem?_append_right (Nat.le_refl _), Nat.sub_self]; rfl
  have h2 : (a ++ x :: (m ++ y :: b))[a.length + 1 + m.length]? = some y := by
    rw [List.getElem?_append_right (by omega), show a.length + 1 + m.length - a.length = m.length + 1 by omega, List.getElem?_cons_succ, List.getElem?_append_right (Nat.le_refl _), Nat.sub_self]; rfl
  rw [swp_some h1 h2, List.set_append_right _ _ (Nat.le_refl _), Nat.sub_self, List.set_cons_zero, List.set_append_right _ _ (by omega), show a.length + 1 + m.length - a.length = m.length + 1 by omega, List.set_cons_succ, List.set_append_right _ _ (Nat.le_refl _), Nat.sub_self, List.set_cons_zero]
theorem dt_exch {cs : List Nat} {a m b : List Rw} {x y : Rw} (e : a.length + m.length + b.length + 2 = cs.length) : dt cs (a ++ x :: (m ++ y :: b)) = - dt cs (a ++ y :: (m ++ x :: b)) := by
  have h := dt_eq (cs := cs) (y := fun j => 1 * x j + 1 * y j) (p := a) (mid := m) (r := b) e
  have s (u v : Rw) : a ++ u :: (m ++ v :: b) = (a ++ u :: m) ++ v :: b := by rw [List.append_assoc]; rfl
  have l (u : Rw) : (a ++ u :: m).length + b.length + 1 = cs.length := by rw [List.length_append, List.length_cons]; omega
  rw [dt_lin cs x y 1 1 a _ (by rw [List.length_append, List.length_cons]; omega), s, s, dt_lin cs x y 1 1 _ b (l x), dt_lin cs x y 1 1 _ b (l y), ← s, ← s, ← s, ← s, dt_eq e, dt_eq e] at h
  grind
theorem perm_exch {α : Type} (a m b : List α) (x y : α) : (a ++ y :: (m ++ x :: b)).Perm (a ++ x :: (m ++ y :: b)) := by
  refine List.Perm.append_left a ?_
  exact ((List.perm_middle (a := x) (l₁ := y :: m) (l₂ := b))).trans (List.Perm.cons x (List.perm_middle (a := y) (l₁ := m) (l₂ := b)).symm)
theorem take_swp {α : Type} {l : List α} {r i k : Nat} (hk : k ≤ r) (h : r < i) (hi : i < l.length) : (swp l r i).take k = l.take k := by
  apply List.ext_getElem?
  intro j
  rw [List.getElem?_take, List.getElem?_take]
  split
  · rw [swp_get (by omega) hi, if_neg (by omega), if_neg (by omega)]
  · rfl
/-- rows exchanged -/
theorem St.swap {T : List (List Int)} {L c r i : Nat} {rows : List (List Int)} {sign last : Int} {cs : List Nat} {P : List (List Int)} (s : St T L c r rows sign last cs P) (h : r < i) (hi : i < rows.length) : St T L c r (swp rows r i) (-sign) last cs (swp P r i) := by
  have hP : i < P.length := s.len ▸ hi
  have hT := s.perm.length_eq
  obtain ⟨a, m, b, x, y, e, ea, em, _, _⟩ := two_split h hP
  have es : swp P r i = a ++ y :: (m ++ x :: b) := by
    rw [e, ← ea, show i = a.length + 1 + m.length by omega]
    exact swp_split a m b x y
  have key : ∀ (k : Nat) (u v : List Int), r ≤ k → (swp rows r i)[k]? = some u → (swp P r i)[k]? = some v → ∃ k', r ≤ k' ∧ rows[k']? = some u ∧ P[k']? = some v := by
    intro k u v hk hu hv
    rw [swp_get (by omega) hi] at hu
    rw [swp_get (by omega) hP] at hv
    by_cases e1 : k = i
    · rw [if_pos e1] at hu hv; exact ⟨r, Nat.le_refl _, hu, hv⟩
    · rw [if_neg e1] at hu hv
      by_cases e2 : k = r
      · rw [if_pos e2] at hu hv; exact ⟨i, Nat.le_of_lt h, hu, hv⟩
      · rw [if_neg e2] at hu hv; exact ⟨k, hk, hu, hv⟩
  refine { perm := ?_, wid := s.wid, si := ?_, det := fun ks hk => ?_, len := by rw [swp_len, swp_len, s.len], csl := s.csl, rn := by rw [swp_len]; exact s.rn, cl := s.cl, lt := s.lt, srt := s.srt, la := ?_, ne := s.ne, lo := fun k u v hk hu hv => ?_, tp := fun k u v hk hu hv => ?_, ze := fun k u hk hu j hj => ?_ }
  · rw [es]
    exact (perm_exch a m b x y).trans (e ▸ s.perm)
  · rcases s.si with z | z <;> rw [z]
    · exact .inr rfl
    · exact .inl rfl
  · rw [s.det ks hk, es, e]
    simp only [List.map_append, List.map_cons]
    rw [dt_exch (cs := ks) (a := a.map fn) (m := m.map fn) (b := b.map fn) (x := fn x) (y := fn y) ?_]
    · grind
    · rw [List.length_map, List.length_map, List.length_map]
      rw [e, List.length_append, List.length_cons, List.length_append, List.length_cons] at hT
      omega
  · rw [take_swp (Nat.le_refl _) h hP]; exact s.la
  · rw [take_swp (Nat.le_refl _) h hP]
    obtain ⟨k', hk', hu', hv'⟩ := key k u v hk hu hv
    exact s.lo k' u v hk' hu' hv'
  · rw [take_swp (by omega) h hP]
    rw [swp_get (by omega) hi, if_neg (by omega), if_neg (by omega)] at hu
    rw [swp_get (by omega) hP, if_neg (by omega), if_neg (by omega)] at hv
    exact s.tp k u v hk hu hv
  · have hkl : k < P.length := by
      have := (List.getElem?_eq_some_iff.mp hu).1
      rw [swp_len] at this
      have e2 := s.len
      omega
    obtain ⟨k', hk', hu', _⟩ := key k u ((swp P r i)[k]'(by rw [swp_len]; exact hkl)) hk hu (List.getElem?_eq_getElem _)
    exact s.ze k' u hk' hu' j hj
theorem take_snoc' {α : Type} {l : List α} {r : Nat} {y : α} (h : l[r]? = some y) : l.take (r + 1) = l.take r ++ [y] := by
  rw [List.take_succ, h]; rfl
/-- a pivot -/
theorem St.step {T : List (List Int)} {L c r : Nat} {rows rows2 : List (List Int)} {sign last : Int} {cs : List Nat} {P : List (List Int)} {p : List Int} (s : St T L c r rows sign last cs P) (hc : c < L) (hp : rows[r]? = some p) (np : fn p c ≠ 0)
    (h2 : rows2.length = rows.length) (h : ∀ k, rows2[k]? = if k ≤ r then rows[k]? else rows[k]?.map fun x => low L (fn p c) (fn x c) last x p) : St T L (c + 1) (r + 1) rows2 sign (fn p c) (c :: cs) P := by
  have hr : r < P.length := by rw [← s.len]; exact (List.getElem?_eq_some_iff.mp hp).1
  have hy : P[r]? = some P[r] := List.getElem?_eq_getElem hr
  have ep := s.lo r p _ (Nat.le_refl _) hp hy
  have et : (P.take (r + 1)).map fn = (P.take r).map fn ++ [fn P[r]] := by rw [take_snoc' hy, List.map_append]; rfl
  have el : ((P.take r).map fn).length = cs.length := by rw [List.length_map, List.length_take, s.csl]; omega
  have ec : fn p c = bd cs ((P.take r).map fn) (fn P[r]) c := by rw [ep]; exact fn_rowOf _ hc
  have lower : ∀ k, r < k → ∀ x, rows2[k]? = some x → ∃ x0, rows[k]? = some x0 ∧ x = low L (fn p c) (fn x0 c) last x0 p := by
    intro k hk x hx
    rw [h k, if_neg (by omega)] at hx
    cases e : rows[k]? with
    | none => rw [e] at hx; cases hx
    | some x0 => rw [e] at hx; exact ⟨x0, rfl, (Option.some.inj hx).symm⟩
  refine { perm := s.perm, wid := s.wid, si := s.si, det := s.det, len := by rw [h2, s.len], csl := by rw [List.length_cons, s.csl], rn := hr, cl := hc, lt := fun j hj => ?_, srt := .cons (fun j hj => s.lt j hj) s.srt, la := ?_, ne := np, lo := fun k u v hk hu hv => ?_, tp := fun k u v hk hu hv => ?_, ze := fun k u hk hu j hj => ?_ }
  · rcases List.mem_cons.mp hj with rfl | hj
    · exact Nat.lt_succ_self _
    · exact Nat.lt_succ_of_lt (s.lt j hj)
  · rw [et]; exact ec
  · obtain ⟨x0, hx0, rfl⟩ := lower k hk u hu
    have ex0 := s.lo k x0 v (by omega) hx0 hv
    unfold low rowOf
    refine List.map_congr_left fun j hj => ?_
    have hj' := List.mem_range.mp hj
    have e1 : fn x0 j = bd cs ((P.take r).map fn) (fn v) j := by rw [ex0]; exact fn_rowOf _ hj'
    have e2 : fn x0 c = bd cs ((P.take r).map fn) (fn v) c := by rw [ex0]; exact fn_rowOf _ hc
    have e3 : fn p j = bd cs ((P.take r).map fn) (fn P[r]) j := by rw [ep]; exact fn_rowOf _ hj'
    rw [e1, e2, e3, ec, ← dt_step (cs := cs) (R := (P.take r).map fn) (y := fn P[r]) (x := fn v) (c := c) (j := j) el (s.la ▸ s.ne), s.la, Int.mul_fdiv_cancel_left _ (s.la ▸ s.ne), et]
    rfl
  · by_cases e : k = r
    · subst e
      rw [h k, if_pos (Nat.le_refl _)] at hu
      rw [show k + 1 - k = 1 by omega]
      exact s.lo k u v (Nat.le_refl _) hu hv
    · rw [h k, if_pos (by omega)] at hu
      rw [show r + 1 - k = (r - k) + 1 by omega, List.drop_succ_cons]
      exact s.tp k u v (by omega) hu hv
  · obtain ⟨x0, hx0, rfl⟩ := lower k hk u hu
    have hjL : j < L := by omega
    unfold low
    rw [fn_rowOf _ hjL]
    rcases Nat.lt_succ_iff_lt_or_eq.mp hj with z | rfl
    · rw [s.ze k x0 (by omega) hx0 j z, s.ze r p (Nat.le_refl _) hp j z, Int.mul_zero, Int.mul_zero, Int.sub_zero, Int.zero_fdiv]
    · rw [show fn p j * fn x0 j - fn x0 j * fn p j = 0 by rw [Int.mul_comm]; omega, Int.zero_fdiv]
end DT
-- DR
/-! what the elimination tells: bounds, the determinant, the rank -/
namespace DT
variable {T : List (List Int)} {L c r : Nat} {rows : List (List Int)} {sign last : Int} {cs : List Nat} {P : List (List Int)}
theorem lim_mem (s : St T L c r rows sign last cs P) {M : Nat} (h : ∀ x ∈ T, Lim M (fn x)) : ∀ x ∈ P.map fn, Lim M x := fun x hx => by
  obtain ⟨y, hy, rfl⟩ := List.mem_map.mp hx
  exact h y (s.perm.mem_iff.mp hy)
theorem pow_le' {a k n : Nat} (ha : 0 < a) (h : k ≤ n) : a ^ k ≤ a ^ n := Nat.pow_le_pow_right ha h
theorem bd_bound {M N : Nat} {ks : List Nat} {R : List Rw} {y : Rw} (hM : 0 < N * M) (hR : ∀ x ∈ R, Lim M x) (hy : Lim M y) (e : R.length = ks.length) (hn : ks.length + 1 ≤ N) (j : Nat) : (bd ks R y j).natAbs ≤ (N * M) ^ N := by
  refine Nat.le_trans (dt_bound (M := M) (N := N) (j :: ks) (R ++ [y]) (fun x hx => (List.mem_append.mp hx).elim (hR x) fun z => by rw [List.mem_singleton.mp z]; exact hy) (by rw [List.length_append, List.length_cons, e]; rfl) (by rw [List.length_cons]; exact hn)) ?_
  exact pow_le' hM hn
theorem St.bound (s : St T L c r rows sign last cs P) {M N : Nat} (hM : 0 < N * M) (h : ∀ x ∈ T, Lim M (fn x)) (hn : T.length ≤ N) : (∀ x ∈ rows, ∀ j, (fn x j).natAbs ≤ (N * M) ^ N) ∧ last.natAbs ≤ (N * M) ^ N := by
  have hT := s.perm.length_eq
  have hl := lim_mem s h
  have hs := s.csl
  have hr := s.rn
  refine ⟨fun x hx j => ?_, ?_⟩
  · obtain ⟨k, hk⟩ := List.mem_iff_getElem?.mp hx
    have kl : k < rows.length := (List.getElem?_eq_some_iff.mp hk).1
    have kP : k < P.length := s.len ▸ kl
    have hy : P[k]? = some P[k] := List.getElem?_eq_getElem kP
    have hyl : Lim M (fn P[k]) := hl _ (List.mem_map_of_mem (List.getElem_mem kP))
    have rl : ∀ m, ∀ x ∈ (P.take m).map fn, Lim M x := fun m x hx => by
      obtain ⟨y, hy, rfl⟩ := List.mem_map.mp hx
      exact hl _ (List.mem_map_of_mem (List.mem_of_mem_take hy))
    have out : ∀ (f : Rw), (∀ j, (f j).natAbs ≤ (N * M) ^ N) → (fn (rowOf L f) j).natAbs ≤ (N * M) ^ N := fun f hf => by
      by_cases hj : j < L
      · rw [fn_rowOf f hj]; exact hf j
      · unfold fn
        rw [List.getD_eq_getElem?_getD, List.getElem?_eq_none (by rw [rowOf_len]; omega)]
        exact Nat.zero_le _
    by_cases hkr : k < r
    · rw [s.tp k x _ hkr hk hy]
      refine out _ fun j => bd_bound hM (rl k) hyl ?_ ?_ j
      · rw [List.length_map, List.length_take, List.length_drop]; omega
      · rw [List.length_drop]; omega
    · rw [s.lo k x _ (by omega) hk hy]
      refine out _ fun j => bd_bound hM (rl r) hyl ?_ ?_ j
      · rw [List.length_map, List.length_take]; omega
      · omega
  · rw [s.la]
    refine Nat.le_trans (dt_bound (M := M) (N := N) cs _ (fun x hx => ?_) (by rw [List.length_map, List.length_take]; omega) (by omega)) (pow_le' hM (by omega))
    obtain ⟨y, hy, rfl⟩ := List.mem_map.mp hx
    exact hl _ (List.mem_map_of_mem (List.mem_of_mem_take hy))
/-- the rows below are combinations of those above, times the last pivot -/
theorem St.below (s : St T L L r rows sign last cs P) {k : Nat} {y : List Int} (hk : r ≤ k) (hy : P[k]? = some y) : ∃ ms, (fun j => last * fn y j) = lc ms ((P.take r).map fn) := by
  have kP : k < P.length := (List.getElem?_eq_some_iff.mp hy).1
  have hx : rows[k]? = some (rows[k]'(s.len ▸ kP)) := List.getElem?_eq_getElem _
  have ex0 := s.lo k _ y hk hx hy
  obtain ⟨ms, hl, h⟩ := bd_ms cs ((P.take r).map fn) (fn y)
  have z : ∀ j, bd cs ((P.take r).map fn) (fn y) j = 0 := fun j => by
    by_cases hj : j < L
    · rw [← fn_rowOf (L := L) (bd cs ((P.take r).map fn) (fn y)) hj, ← ex0]
      exact s.ze k _ hk hx j hj
    · have out : ∀ x ∈ P, fn x j = 0 := fun x hx => by
        have := s.wid x (s.perm.mem_iff.mp hx)
        unfold fn
        rw [List.getD_eq_getElem?_getD, List.getElem?_eq_none (by omega)]
        rfl
      have : ∀ (rest pre : List Rw), (∀ x ∈ rest, x j = 0) → ex (fun x => x j) (dt cs) pre rest = 0 := by
        intro rest
        induction rest with
        | nil => intro _ _; rfl
        | cons w rest ih =>
          intro pre hw
          rw [ex_cons, hw w List.mem_cons_self, ih _ fun x hx => hw x (List.mem_cons_of_mem _ hx), Int.mul_zero, Int.zero_mul]
          rfl
      refine this _ [] fun x hx => ?_
      rcases List.mem_append.mp hx with hx | hx
      · obtain ⟨w, hw, rfl⟩ := List.mem_map.mp hx
        exact out w (List.mem_of_mem_take hw)
      · rw [List.mem_singleton.mp hx]
        exact out y (List.mem_of_getElem? hy)
  have neg : ∀ (ms : List Int) (R : List Rw) (j : Nat), lc (ms.map fun m => -m) R j = - lc ms R j := by
    intro ms
    induction ms with
    | nil => intro R j; cases R <;> rfl
    | cons m ms ih =>
      intro R j
      cases R with
      | nil => rfl
      | cons x R =>
        show -m * x j + 1 * lc (ms.map fun m => -m) R j = -(m * x j + 1 * lc ms R j)
        rw [ih]
        grind
  refine ⟨ms.map fun m => -m, funext fun j => ?_⟩
  have := congrFun h j
  rw [z j, ← s.la] at this
  rw [neg]
  omega
/-- rows times d -/
theorem dt_scale {ks : List Nat} (d : Int) : ∀ (ys p : List Rw), p.length + ys.length = ks.length → dt ks (p ++ ys.map fun y j => d * y j) = d ^ ys.length * dt ks (p ++ ys)
  | [], p, _ => by rw [List.map_nil, List.length_nil, Int.pow_zero, Int.one_mul]
  | y :: ys, p, e => by
    rw [List.length_cons] at e
    have e1 : (fun j => d * y j) = fun j => d * y j + 0 * y j := funext fun j => by rw [Int.zero_mul, Int.add_zero]
    have h := dt_scale (ks := ks) d ys (p ++ [y]) (by rw [List.length_append]; show _ + 1 + _ = _; omega)
    rw [List.append_assoc, List.append_assoc] at h
    rw [List.map_cons, e1, dt_lin ks y y d 0 p _ (by rw [List.length_map]; omega), Int.zero_mul, Int.add_zero, List.length_cons, Int.pow_succ]
    show d * dt ks (p ++ ([y] ++ ys.map fun y j => d * y j)) = _
    rw [h]
    show d * (_ * dt ks (p ++ y :: ys)) = _
    grind
/-- with fewer pivots than columns asked for -/
theorem St.many (s : St T L L r rows sign last cs P) {ks : List Nat} {l : List Rw} (hk : r < ks.length) (hl : l.length = ks.length) (hm : ∀ x ∈ l, x ∈ T.map fn) : dt ks l = 0 := by
  have h1 := dt_scale (ks := ks) last l [] (by rw [List.length_nil]; omega)
  have h2 : dt ks ([] ++ l.map fun y j => last * y j) = 0 := by
    refine dt_many (R := (P.take r).map fn) (by rw [List.length_map, List.length_take]; omega) _ [] (fun _ z => by cases z) (fun y hy => ?_) (by rw [List.length_map]; show 0 + _ = _; omega)
    obtain ⟨x, hx, rfl⟩ := List.mem_map.mp hy
    obtain ⟨w, hw, rfl⟩ := List.mem_map.mp (hm x hx)
    obtain ⟨k, hkw⟩ := List.mem_iff_getElem?.mp (s.perm.mem_iff.mpr hw)
    by_cases hr : r ≤ k
    · exact s.below hr hkw
    · have hi : fn w ∈ (P.take r).map fn := List.mem_map_of_mem (by
        refine List.mem_iff_getElem?.mpr ⟨k, ?_⟩
        rw [List.getElem?_take, if_pos (by omega)]
        exact hkw)
      have one : ∀ (R : List Rw) (x : Rw), x ∈ R → ∃ ms, (fun j => last * x j) = lc ms R := by
        intro R
        induction R with
        | nil => intro x hx; cases hx
        | cons a R ih =>
          intro x hx
          rcases List.mem_cons.mp hx with rfl | hx
          · have zero : ∀ (R : List Rw), lc [] R = fun _ => 0 := fun R => by cases R <;> rfl
            refine ⟨[last], funext fun j => ?_⟩
            show last * x j = last * x j + 1 * lc [] R j
            rw [zero]
            show last * x j = last * x j + 1 * 0
            omega
          · obtain ⟨ms, h⟩ := ih x hx
            refine ⟨0 :: ms, funext fun j => ?_⟩
            show last * x j = 0 * a j + 1 * lc ms R j
            rw [← h]
            show last * x j = 0 * a j + 1 * (last * x j)
            omega
      exact one _ _ hi
  rw [h2] at h1
  have : dt ks l = 0 := by
    rcases Int.mul_eq_zero.mp h1.symm with z | z
    · exact absurd z (Int.pow_ne_zero s.ne)
    · exact z
  exact this
theorem desc_all : ∀ (n : Nat) (cs : List Nat), cs.length = n → cs.Pairwise (· > ·) → (∀ j ∈ cs, j < n) → cs = (List.range n).reverse
  | 0, cs, e, _, _ => by rw [List.length_eq_zero_iff.mp e]; rfl
  | n + 1, [], e, _, _ => by simp at e
  | n + 1, j :: cs, e, s, h => by
    obtain ⟨s1, s2⟩ := List.pairwise_cons.mp s
    have hj := h j List.mem_cons_self
    have low : ∀ (m : Nat) (l : List Nat), l.Pairwise (· > ·) → (∀ x ∈ l, x < m) → l.length ≤ m := by
      intro m l
      induction l generalizing m with
      | nil => intro _ _; exact Nat.zero_le _
      | cons a l ih =>
        intro p q
        obtain ⟨p1, p2⟩ := List.pairwise_cons.mp p
        have := ih a p2 p1
        have := q a List.mem_cons_self
        rw [List.length_cons]
        omega
    have l1 := low j cs s2 s1
    rw [List.length_cons] at e
    have ej : j = n := by omega
    subst ej
    rw [List.range_succ, List.reverse_append]
    show j :: cs = j :: (List.range j).reverse
    rw [desc_all j cs (by omega) s2 s1]
/-- the determinant -/
theorem St.square (s : St T L L r rows sign last cs P) (h : T.length = L) : dt (List.range L).reverse (T.map fn) = if r < L then 0 else sign * last := by
  have hT := s.perm.length_eq
  split
  · exact s.many (by rw [List.length_reverse, List.length_range]; assumption) (by rw [List.length_map, List.length_reverse, List.length_range, h]) (fun x hx => hx)
  · have hr : r = L := by have := s.rn; omega
    subst hr
    rw [s.det _ (by rw [List.length_reverse, List.length_range, h]), s.la, desc_all r cs s.csl s.srt s.lt, List.take_of_length_le (by omega)]
end DT
-- DQ
/-! the rank by minors -/
namespace DT
theorem sub_perm {α : Type} : ∀ (T R S : List α), (R ++ S).Perm T → ∃ l : List α, l.Sublist T ∧ l.Perm R
  | [], R, S, h => by
    have := h.length_eq
    rw [List.length_append, List.length_nil] at this
    have e : R = [] := List.length_eq_zero_iff.mp (by omega)
    subst e
    exact ⟨[], .slnil, .nil⟩
  | x :: T, R, S, h => by
    have hx : x ∈ R ++ S := h.mem_iff.mpr List.mem_cons_self
    rcases List.mem_append.mp hx with hx | hx
    · obtain ⟨a, b, rfl⟩ := List.append_of_mem hx
      have h2 : ((a ++ b) ++ S).Perm T := by
        have : (x :: ((a ++ b) ++ S)).Perm (x :: T) := by
          refine List.Perm.trans ?_ h
          rw [List.append_assoc, List.append_assoc]
          exact (List.perm_middle (a := x) (l₁ := a) (l₂ := b ++ S)).symm
        exact (List.perm_cons x).mp this
      obtain ⟨l, sl, pl⟩ := sub_perm T (a ++ b) S h2
      exact ⟨x :: l, sl.cons_cons x, (pl.cons x).trans (List.perm_middle (a := x) (l₁ := a) (l₂ := b)).symm⟩
    · obtain ⟨a, b, rfl⟩ := List.append_of_mem hx
      have h2 : (R ++ (a ++ b)).Perm T := by
        have : (x :: (R ++ (a ++ b))).Perm (x :: T) := by
          refine List.Perm.trans ?_ h
          have := (List.perm_middle (a := x) (l₁ := R ++ a) (l₂ := b)).symm
          rw [List.append_assoc, List.append_assoc] at this
          exact this
        exact (List.perm_cons x).mp this
      obtain ⟨l, sl, pl⟩ := sub_perm T R (a ++ b) h2
      exact ⟨l, sl.cons x, pl⟩
theorem map_getD {α : Type} (T : List α) (d : α) : (List.range T.length).map (fun i => T.getD i d) = T := by
  apply List.ext_getElem?
  intro i
  by_cases h : i < T.length
  · rw [List.getElem?_map, List.getElem?_range h, List.getElem?_eq_getElem h]
    show some (T.getD i d) = _
    rw [List.getD_eq_getElem?_getD, List.getElem?_eq_getElem h]
    rfl
  · rw [List.getElem?_eq_none (by rw [List.length_map, List.length_range]; omega), List.getElem?_eq_none (by omega)]
theorem asc_sub : ∀ (n : Nat) (l : List Nat), l.Pairwise (· > ·) → (∀ j ∈ l, j < n) → l.reverse.Sublist (List.range n)
  | 0, l, _, h => by
    cases l with
    | nil => exact .slnil
    | cons j l => exact absurd (h j List.mem_cons_self) (Nat.not_lt_zero _)
  | n + 1, [], _, _ => List.nil_sublist _
  | n + 1, j :: l, s, h => by
    obtain ⟨s1, s2⟩ := List.pairwise_cons.mp s
    have hj := h j List.mem_cons_self
    rw [List.range_succ]
    by_cases e : j = n
    · subst e
      rw [List.reverse_cons]
      exact (asc_sub j l s2 fun x hx => s1 x hx).append (List.Sublist.refl _)
    · exact (asc_sub n (j :: l) s fun x hx => by
        rcases List.mem_cons.mp hx with rfl | hx
        · omega
        · have := s1 x hx; omega).trans (List.sublist_append_left _ _)
variable {T : List (List Int)} {L r : Nat} {rows : List (List Int)} {sign last : Int} {cs : List Nat} {P : List (List Int)}
/-- a minor of the rank's size that is not 0 -/
theorem St.minor (s : St T L L r rows sign last cs P) : ∃ rs ks : List Nat, rs.Sublist (List.range T.length) ∧ ks.Sublist (List.range L) ∧ rs.length = r ∧ ks.length = r ∧ dt ks.reverse (rs.map fun i => fn (T.getD i [])) ≠ 0 := by
  have h : (P.take r ++ P.drop r).Perm T := by rw [List.take_append_drop]; exact s.perm
  obtain ⟨l, sl, pl⟩ := sub_perm T (P.take r) (P.drop r) h
  rw [← map_getD T []] at sl
  obtain ⟨rs, sr, rfl⟩ := List.sublist_map_iff.mp sl
  have e := pl.length_eq
  have hr := s.rn
  rw [List.length_map, List.length_take] at e
  refine ⟨rs, cs.reverse, sr, asc_sub L cs s.srt s.lt, by omega, by rw [List.length_reverse, s.csl], ?_⟩
  rw [List.reverse_reverse]
  have ne : dt cs ((P.take r).map fn) ≠ 0 := s.la ▸ s.ne
  have p2 : ((P.take r).map fn).Perm (rs.map fun i => fn (T.getD i [])) := by
    have := (pl.map fn).symm
    rw [List.map_map] at this
    exact this
  exact dt_perm0 p2 (by rw [List.length_map, List.length_take, s.csl]; omega) ne
/-- greater minors are 0 -/
theorem St.minors0 (s : St T L L r rows sign last cs P) {rs ks : List Nat} (h1 : rs.Sublist (List.range T.length)) (h2 : rs.length = ks.length) (h3 : r < ks.length) : dt ks.reverse (rs.map fun i => fn (T.getD i [])) = 0 := by
  refine s.many (by rw [List.length_reverse]; exact h3) (by rw [List.length_map, List.length_reverse, h2]) fun x hx => ?_
  obtain ⟨i, hi, rfl⟩ := List.mem_map.mp hx
  have hi' := List.mem_range.mp (h1.subset hi)
  refine List.mem_map_of_mem ?_
  rw [List.getD_eq_getElem?_getD, List.getElem?_eq_getElem hi']
  exact List.getElem_mem hi'
/-! the rank as a property of the rows: the greatest size of a minor that is not 0 -/
def Zr (l : List Rw) (s : Nat) : Prop := ∀ (ks : List Nat) (x : List Rw), ks.length = s → x.length = s → (∀ y ∈ x, y ∈ l) → dt ks x = 0
def Rk (l : List Rw) (r : Nat) : Prop := ¬ Zr l r ∧ ∀ s, r < s → Zr l s
theorem Rk.one {l : List Rw} {r s : Nat} (a : Rk l r) (b : Rk l s) : r = s := by
  rcases Nat.lt_trichotomy r s with h | h | h
  · exact absurd (a.2 s h) b.1
  · exact h
  · exact absurd (b.2 r h) a.1
theorem St.rk (s : St T L L r rows sign last cs P) : Rk (T.map fn) r := by
  refine ⟨fun z => ?_, fun t ht ks x hk hx hm => s.many (by omega) (by omega) hm⟩
  refine absurd (z cs ((P.take r).map fn) s.csl (by have := s.rn; rw [List.length_map, List.length_take]; omega) fun y hy => ?_) (s.la ▸ s.ne)
  obtain ⟨w, hw, rfl⟩ := List.mem_map.mp hy
  exact List.mem_map_of_mem (s.perm.mem_iff.mp (List.mem_of_mem_take hw))
/-- rows that are combinations of others have no more minors -/
theorem Zr.span {l l' : List Rw} {s : Nat} (h : Zr l s) (sp : ∀ y ∈ l', ∃ ms, ∃ R : List Rw, (∀ z ∈ R, z ∈ l) ∧ y = lc ms R) : Zr l' s := by
  have key : ∀ (ks : List Nat), ks.length = s → ∀ (x p : List Rw), (∀ y ∈ p, y ∈ l) → (∀ y ∈ x, y ∈ l') → p.length + x.length = s → dt ks (p ++ x) = 0 := by
    intro ks hk x
    induction x with
    | nil =>
      intro p hp _ e
      rw [List.append_nil]
      exact h ks p hk e hp
    | cons y x ih =>
      intro p hp hx e
      obtain ⟨ms, R, hR, rfl⟩ := sp y (hx _ List.mem_cons_self)
      rw [List.length_cons] at e
      refine dt_lc (by omega) ms R fun z hz => ?_
      have := ih (p ++ [z]) (fun w hw => (List.mem_append.mp hw).elim (hp w) fun q => by rw [List.mem_singleton.mp q]; exact hR z hz) (fun w hw => hx w (List.mem_cons_of_mem _ hw)) (by rw [List.length_append]; show _ + 1 + _ = _; omega)
      rw [List.append_assoc] at this
      exact this
  exact fun ks x hk hx hm => key ks hk x [] (fun _ z => by cases z) hm (by show 0 + _ = _; omega)
theorem Rk.span {l l' : List Rw} {r : Nat} (h : Rk l r) (a : ∀ y ∈ l', ∃ ms, ∃ R : List Rw, (∀ z ∈ R, z ∈ l) ∧ y = lc ms R) (b : ∀ y ∈ l, ∃ ms, ∃ R : List Rw, (∀ z ∈ R, z ∈ l') ∧ y = lc ms R) : Rk l' r :=
  ⟨fun z => h.1 (z.span b), fun s hs => (h.2 s hs).span a⟩
theorem Zr.col {l : List Rw} {s : Nat} {j k : Nat} {c : Int} (h : Zr l s) : Zr (l.map (colOp j k c)) s := fun ks x hk hx hm => by
  obtain ⟨w, hw, rfl⟩ : ∃ w : List Rw, (∀ y ∈ w, y ∈ l) ∧ x = w.map (colOp j k c) := by
    clear hx
    induction x with
    | nil => exact ⟨[], (fun _ z => by cases z), rfl⟩
    | cons y x ih =>
      obtain ⟨w, hw, e⟩ := ih fun z hz => hm z (List.mem_cons_of_mem _ hz)
      obtain ⟨u, hu, rfl⟩ := List.mem_map.mp (hm y List.mem_cons_self)
      exact ⟨u :: w, fun z hz => (List.mem_cons.mp hz).elim (fun e => e ▸ hu) (hw z), by rw [e]; rfl⟩
  rw [List.length_map] at hx
  exact dt_col0 (s := s) (fun cs hc => h cs w hc hx hw) ks hk
theorem colOp_back {j k : Nat} {c : Int} (h : j ≠ k) (x : Rw) : colOp j k (-c) (colOp j k c x) = x := by
  funext i
  unfold colOp
  by_cases e : i = j
  · subst e
    rw [if_pos rfl, if_pos rfl, if_neg (fun z => h z.symm)]
    grind
  · rw [if_neg e, if_neg e]
theorem Rk.col {l : List Rw} {r j k : Nat} {c : Int} (n : j ≠ k) (h : Rk l r) : Rk (l.map (colOp j k c)) r := by
  refine ⟨fun z => h.1 ?_, fun s hs => (h.2 s hs).col⟩
  have := z.col (j := j) (k := k) (c := -c)
  rw [List.map_map, show (colOp j k (-c) ∘ colOp j k c) = id from funext (colOp_back n), List.map_id] at this
  exact this
end DT
-- DG
/-! tables with numbers on the diagonal; rows exchanged, rows and columns added -/
namespace DT
theorem ex_last (f : Rw → Int) (D : List Rw → Int) (y : Rw) : ∀ (l pre : List Rw), (∀ x ∈ l, f x = 0) → ex f D pre (l ++ [y]) = f y * D (pre ++ l)
  | [], pre, _ => by
    show sg 0 * f y * D (pre ++ []) + 0 = _
    rw [sg_zero, Int.one_mul, Int.add_zero]
  | x :: l, pre, h => by
    show ex f D pre (x :: (l ++ [y])) = _
    rw [ex_cons, h x List.mem_cons_self, Int.mul_zero, Int.zero_mul, Int.zero_add, ex_last f D y l (pre ++ [x]) fun z hz => h z (List.mem_cons_of_mem _ hz), List.append_assoc]
    rfl
/-- d at the place i -/
def E (d : Nat → Int) (i : Nat) : Rw := fun j => if i = j then d i else 0
def prodI (l : List Int) : Int := l.foldr (· * ·) 1
theorem prodI_snoc (x : Int) : ∀ l : List Int, prodI (l ++ [x]) = prodI l * x
  | [] => by show x * 1 = 1 * x; omega
  | a :: l => by
    show a * prodI (l ++ [x]) = a * prodI l * x
    rw [prodI_snoc x l, Int.mul_assoc]
theorem dt_diag (d : Nat → Int) : ∀ (n : Nat) (ks : List Nat), ks.length = n → ks.Nodup → dt ks.reverse (ks.map (E d)) = prodI (ks.map d) := by
  intro n
  induction n with
  | zero => intro ks h _; rw [List.length_eq_zero_iff.mp h]; rfl
  | succ n ih =>
    intro ks h nd
    obtain ⟨l, k, rfl⟩ : ∃ l k, ks = l ++ [k] := ⟨ks.dropLast, ks.getLast (by intro z; rw [z] at h; simp at h), (List.dropLast_concat_getLast _).symm⟩
    have hl : l.length = n := by rw [List.length_append] at h; simpa using h
    have hk : k ∉ l := fun z => by
      rw [List.nodup_append] at nd
      exact nd.2.2 k z k (by simp) rfl
    have nl : l.Nodup := (List.nodup_append.mp nd).1
    rw [List.reverse_append, List.map_append, List.map_append]
    show dt (k :: l.reverse) (l.map (E d) ++ [E d k]) = prodI (l.map d ++ [d k])
    rw [dt_cons, ex_last _ _ _ _ _ (fun x hx => ?_), prodI_snoc]
    · show (if k = k then d k else 0) * dt l.reverse (l.map (E d)) = _
      rw [if_pos rfl, ih l hl nl, Int.mul_comm]
    · obtain ⟨i, hi, rfl⟩ := List.mem_map.mp hx
      show (if i = k then d i else 0) = 0
      exact if_neg (fun z : i = k => hk (z ▸ hi))
theorem prodI_ne : ∀ l : List Int, (∀ x ∈ l, x ≠ 0) → prodI l ≠ 0
  | [], _ => by decide
  | a :: l, h => fun z => by
    rcases Int.mul_eq_zero.mp z with z | z
    · exact h a List.mem_cons_self z
    · exact prodI_ne l (fun x hx => h x (List.mem_cons_of_mem _ hx)) z
theorem lc_nil (R : List Rw) : lc [] R = fun _ => 0 := by cases R <;> rfl
theorem mem_lc : ∀ {R : List Rw} {x : Rw}, x ∈ R → ∃ ms, x = lc ms R
  | [], x, h => by cases h
  | a :: R, x, h => by
    rcases List.mem_cons.mp h with rfl | h
    · refine ⟨[1], funext fun j => ?_⟩
      show x j = 1 * x j + 1 * lc [] R j
      rw [lc_nil]
      show x j = 1 * x j + 1 * 0
      omega
    · obtain ⟨ms, e⟩ := mem_lc h
      refine ⟨0 :: ms, funext fun j => ?_⟩
      show x j = 0 * a j + 1 * lc ms R j
      rw [← e]
      omega
/-- the rank of a table whose rows are those of a diagonal, or 0 -/
theorem rk_diag (d : Nat → Int) (l : List Rw) (ks : List Nat) (nd : ks.Nodup) (h1 : ∀ i ∈ ks, d i ≠ 0 ∧ E d i ∈ l) (h2 : ∀ x ∈ l, (∃ i ∈ ks, x = E d i) ∨ x = fun _ => 0) : Rk l ks.length := by
  refine ⟨fun z => ?_, fun s hs cs x hc hx hm => ?_⟩
  · have := z ks.reverse (ks.map (E d)) (by rw [List.length_reverse]) (by rw [List.length_map]) fun y hy => by
      obtain ⟨i, hi, rfl⟩ := List.mem_map.mp hy
      exact (h1 i hi).2
    rw [dt_diag d _ ks rfl nd] at this
    refine prodI_ne _ (fun y hy => ?_) this
    obtain ⟨i, hi, rfl⟩ := List.mem_map.mp hy
    exact (h1 i hi).1
  · refine dt_many (R := ks.map (E d)) (by rw [List.length_map]; omega) x [] (fun _ z => by cases z) (fun y hy => ?_) (by show 0 + _ = _; omega)
    rcases h2 y (hm y hy) with ⟨i, hi, rfl⟩ | rfl
    · exact mem_lc (List.mem_map_of_mem hi)
    · exact ⟨[], (lc_nil _).symm⟩
/-- a row added to another one -/
def addR (f : Int) (x y : Rw) : Rw := fun j => x j + f * y j
theorem Rk.sub {l l' : List Rw} {r : Nat} (h : Rk l r) (e : ∀ x, x ∈ l' ↔ x ∈ l) : Rk l' r :=
  h.span (fun y hy => by obtain ⟨ms, z⟩ := mem_lc (R := [y]) (x := y) List.mem_cons_self; exact ⟨ms, [y], fun w hw => by rw [List.mem_singleton.mp hw]; exact (e y).mp hy, z⟩)
    (fun y hy => by obtain ⟨ms, z⟩ := mem_lc (R := [y]) (x := y) List.mem_cons_self; exact ⟨ms, [y], fun w hw => by rw [List.mem_singleton.mp hw]; exact (e y).mpr hy, z⟩)
theorem addR_lc (f : Int) (x y : Rw) : addR f x y = lc [1, f] [x, y] := funext fun j => by
  show x j + f * y j = 1 * x j + 1 * (f * y j + 1 * 0)
  omega
theorem addR_back (f : Int) (x y : Rw) : addR (-f) (addR f x y) y = x := funext fun j => by
  show x j + f * y j + -f * y j = x j
  grind
theorem Rk.add {l : List Rw} {r i o : Nat} {x y : Rw} {f : Int} (h : Rk l r) (n : i ≠ o) (hx : l[i]? = some x) (hy : l[o]? = some y) : Rk (l.set i (addR f x y)) r := by
  have il : i < l.length := (List.getElem?_eq_some_iff.mp hx).1
  have hy2 : (l.set i (addR f x y))[o]? = some y := by rw [List.getElem?_set_ne n]; exact hy
  have hn : (l.set i (addR f x y))[i]? = some (addR f x y) := List.getElem?_set_self il
  have one : ∀ (l : List Rw) (z : Rw), z ∈ l → ∃ ms, ∃ R : List Rw, (∀ w ∈ R, w ∈ l) ∧ z = lc ms R := fun l z hz => by
    obtain ⟨ms, e⟩ := mem_lc (R := [z]) (x := z) List.mem_cons_self
    exact ⟨ms, [z], fun w hw => by rw [List.mem_singleton.mp hw]; exact hz, e⟩
  refine h.span (fun z hz => ?_) (fun z hz => ?_)
  · rcases List.mem_or_eq_of_mem_set hz with hz | rfl
    · exact one l z hz
    · refine ⟨[1, f], [x, y], fun w hw => ?_, addR_lc f x y⟩
      rcases List.mem_cons.mp hw with rfl | hw
      · exact List.mem_of_getElem? hx
      · rw [List.mem_singleton.mp hw]; exact List.mem_of_getElem? hy
  · obtain ⟨k, hk⟩ := List.mem_iff_getElem?.mp hz
    by_cases e : k = i
    · subst e
      rw [hx] at hk
      cases hk
      refine ⟨[1, -f], [addR f x y, y], fun w hw => ?_, (addR_back f x y).symm.trans (addR_lc _ _ _)⟩
      rcases List.mem_cons.mp hw with rfl | hw
      · exact List.mem_of_getElem? hn
      · rw [List.mem_singleton.mp hw]; exact List.mem_of_getElem? hy2
    · exact one _ z (List.mem_of_getElem? (i := k) (by rw [List.getElem?_set_ne (fun z => e z.symm)]; exact hk))
theorem set_split {α : Type} {l : List α} {i : Nat} {x z : α} (h : l[i]? = some x) : ∃ a b, l = a ++ x :: b ∧ a.length = i ∧ l.set i z = a ++ z :: b := by
  have il : i < l.length := (List.getElem?_eq_some_iff.mp h).1
  have e : l.drop i = x :: l.drop (i + 1) := by
    rw [List.drop_eq_getElem_cons il]
    rw [List.getElem?_eq_getElem il] at h
    cases h
    rfl
  refine ⟨l.take i, l.drop (i + 1), ?_, by rw [List.length_take]; omega, ?_⟩
  · rw [← e, List.take_append_drop]
  · rw [List.set_eq_take_append_cons_drop, if_pos il]
theorem dt_add {cs : List Nat} {l : List Rw} {i o : Nat} {x y : Rw} {f : Int} (n : i ≠ o) (hx : l[i]? = some x) (hy : l[o]? = some y) (e : l.length = cs.length) : dt cs (l.set i (addR f x y)) = dt cs l := by
  obtain ⟨a, b, el, ea, es⟩ := set_split (z := addR f x y) hx
  have ll : a.length + b.length + 1 = cs.length := by rw [← e, el, List.length_append, List.length_cons]; omega
  have e1 : addR f x y = fun j => 1 * x j + f * y j := funext fun j => by show _ = 1 * x j + f * y j; rw [Int.one_mul]; rfl
  rw [es, e1, dt_lin cs x y 1 f a b ll, ← el, Int.one_mul]
  have z : dt cs (a ++ y :: b) = 0 := by
    rw [el] at hy
    by_cases lt : o < i
    · rw [List.getElem?_append_left (by omega)] at hy
      obtain ⟨p, q, rfl⟩ := List.append_of_mem (List.mem_of_getElem? hy)
      rw [show (p ++ y :: q) ++ y :: b = p ++ y :: (q ++ y :: b) by rw [List.append_assoc]; rfl]
      rw [List.length_append, List.length_cons] at ll
      exact dt_eq (by omega)
    · rw [List.getElem?_append_right (by omega), show o - a.length = (o - a.length - 1) + 1 by omega, List.getElem?_cons_succ] at hy
      obtain ⟨p, q, rfl⟩ := List.append_of_mem (List.mem_of_getElem? hy)
      rw [List.length_append, List.length_cons] at ll
      exact dt_eq (by omega)
  rw [z, Int.mul_zero, Int.add_zero]
theorem mem_swp {α : Type} {l : List α} {i j : Nat} (hi : i < l.length) (hj : j < l.length) (x : α) : x ∈ swp l i j ↔ x ∈ l := by
  constructor
  · intro h
    obtain ⟨k, hk⟩ := List.mem_iff_getElem?.mp h
    rw [swp_get hi hj] at hk
    split at hk
    · exact List.mem_of_getElem? hk
    · split at hk
      · exact List.mem_of_getElem? hk
      · exact List.mem_of_getElem? hk
  · intro h
    obtain ⟨k, hk⟩ := List.mem_iff_getElem?.mp h
    by_cases e1 : k = i
    · refine List.mem_of_getElem? (i := j) ?_
      rw [swp_get hi hj, if_pos rfl, ← e1]; exact hk
    · by_cases e2 : k = j
      · refine List.mem_of_getElem? (i := i) ?_
        rw [swp_get hi hj]
        by_cases e3 : i = j
        · exact absurd (e2.trans e3.symm) e1
        · rw [if_neg e3, if_pos rfl, ← e2]; exact hk
      · refine List.mem_of_getElem? (i := k) ?_
        rw [swp_get hi hj, if_neg e2, if_neg e1]; exact hk
theorem dt_swp {cs : List Nat} {l : List Rw} {i j : Nat} (n : i ≠ j) (hi : i < l.length) (hj : j < l.length) (e : l.length = cs.length) : dt cs (swp l i j) = - dt cs l := by
  have key : ∀ {i j : Nat}, i < j → j < l.length → dt cs (swp l i j) = - dt cs l := by
    intro i j h hj
    obtain ⟨a, m, b, x, y, el, ea, em, _, _⟩ := two_split h hj
    have es : swp l i j = a ++ y :: (m ++ x :: b) := by
      rw [el, ← ea, show j = a.length + 1 + m.length by omega]
      exact swp_split a m b x y
    rw [es, el, dt_exch (x := x) (y := y) ?_]
    · grind
    · rw [← e, el, List.length_append, List.length_cons, List.length_append, List.length_cons]; omega
  rcases Nat.lt_or_gt_of_ne n with h | h
  · exact key h hj
  · have : swp l i j = swp l j i := by
      apply List.ext_getElem?
      intro k
      rw [swp_get hi hj, swp_get hj hi]
      by_cases e1 : k = j
      · rw [if_pos e1]
        by_cases e2 : k = i
        · exact absurd (e2.symm.trans e1) n
        · rw [if_neg e2, if_pos e1]
      · rw [if_neg e1]
        by_cases e2 : k = i
        · rw [if_pos e2, if_pos e2]
        · rw [if_neg e2, if_neg e2, if_neg e1]
    rw [this]
    exact key h hi
end DT
-- DC
/-! whole solutions of a square system, times its determinant -/
namespace DT
def wsum : List Int → List Int → Int
  | m :: ms, x :: xs => m * x + wsum ms xs
  | _, _ => 0
theorem dt_lc_sum {cs : List Nat} {p r : List Rw} (e : p.length + r.length + 1 = cs.length) : ∀ (ms : List Int) (R : List Rw), dt cs (p ++ lc ms R :: r) = wsum ms (R.map fun y => dt cs (p ++ y :: r))
  | [], [] => dt_zrow cs _ p r (fun _ _ => rfl) e
  | [], _ :: _ => dt_zrow cs _ p r (fun _ _ => rfl) e
  | _ :: _, [] => dt_zrow cs _ p r (fun _ _ => rfl) e
  | m :: ms, y :: R => by
    show dt cs (p ++ (fun j => m * y j + 1 * lc ms R j) :: r) = m * dt cs (p ++ y :: r) + wsum ms (R.map fun y => dt cs (p ++ y :: r))
    rw [dt_lin cs y (lc ms R) m 1 p r e, dt_lc_sum e ms R, Int.one_mul]
/-- 1 at the place i -/
def unit (i : Nat) : Rw := fun j => if i = j then 1 else 0
theorem lc_unit (x : Rw) (j : Nat) : ∀ ks : List Nat, ks.Nodup → lc (ks.map x) (ks.map unit) j = if j ∈ ks then x j else 0
  | [], _ => rfl
  | k :: ks, nd => by
    obtain ⟨n1, n2⟩ := List.nodup_cons.mp nd
    show x k * (if k = j then 1 else 0) + 1 * lc (ks.map x) (ks.map unit) j = _
    rw [lc_unit x j ks n2]
    by_cases e : k = j
    · subst e
      rw [if_pos rfl, if_neg n1, if_pos List.mem_cons_self]
      omega
    · rw [if_neg e]
      by_cases h : j ∈ ks
      · rw [if_pos h, if_pos (List.mem_cons_of_mem _ h)]; omega
      · rw [if_neg h, if_neg (fun z => (List.mem_cons.mp z).elim (fun z => e z.symm) h)]; omega
theorem bd_unit_sum {cs : List Nat} {R : List Rw} {x : Rw} {j : Nat} (e : R.length = cs.length) (nd : (j :: cs).Nodup) : bd cs R x j = wsum ((j :: cs).map x) ((j :: cs).map fun k => bd cs R (unit k) j) := by
  have h1 := dt_lc_sum (cs := j :: cs) (p := R) (r := []) (by rw [e]; rfl) ((j :: cs).map x) ((j :: cs).map unit)
  rw [List.map_map] at h1
  have h2 : dt (j :: cs) (R ++ x :: []) = dt (j :: cs) (R ++ lc ((j :: cs).map x) ((j :: cs).map unit) :: []) := by
    have hz := dt_zrow (j :: cs) (fun i => 1 * x i + -1 * lc ((j :: cs).map x) ((j :: cs).map unit) i) R [] (fun i hi => by
      show 1 * x i + -1 * lc ((j :: cs).map x) ((j :: cs).map unit) i = 0
      rw [lc_unit x i (j :: cs) nd, if_pos hi]
      omega) (by rw [e]; rfl)
    rw [dt_lin (j :: cs) x (lc ((j :: cs).map x) ((j :: cs).map unit)) 1 (-1) R [] (by rw [e]; rfl)] at hz
    omega
  exact h2.trans h1
theorem bd_unit_self {cs : List Nat} {R : List Rw} {j : Nat} (e : R.length = cs.length) (hj : j ∉ cs) : bd cs R (unit j) j = dt cs R := by
  show ex (fun x => x j) (dt cs) [] (R ++ unit j :: []) = dt cs R
  rw [ex_only (m := cs.length) (fun x => x j) (fun p r el => dt_zrow cs (unit j) p r (fun i hi => if_neg (fun z : j = i => hj (z ▸ hi))) el) R [] [] (by show 0 + _ + 1 + 0 = _; omega)]
  show 1 * (if j = j then 1 else 0) * dt cs ([] ++ (R ++ [])) = _
  rw [if_pos rfl, List.append_nil, Int.one_mul, Int.one_mul]
  rfl
/-- the number in column k of the solution for the side j, times the determinant -/
def sol (cs : List Nat) (R : List Rw) (j k : Nat) : Int := - bd cs R (unit k) j
theorem wsum_neg : ∀ (ms xs : List Int), wsum ms (xs.map fun x => -x) = - wsum ms xs
  | [], [] => rfl
  | [], _ :: _ => rfl
  | _ :: _, [] => rfl
  | m :: ms, x :: xs => by
    show m * -x + wsum ms (xs.map fun x => -x) = -(m * x + wsum ms xs)
    rw [wsum_neg ms xs]
    grind
/-- each row: the sum of its numbers times the solution is the determinant times its side -/
theorem cramer {cs : List Nat} {R : List Rw} {x : Rw} {j : Nat} (e : R.length = cs.length) (nd : cs.Nodup) (hj : j ∉ cs) (hx : x ∈ R) : wsum (cs.map x) (cs.map (sol cs R j)) = dt cs R * x j := by
  have h1 := bd_unit_sum (x := x) (j := j) e (List.nodup_cons.mpr ⟨hj, nd⟩)
  rw [bd_in e hx, List.map_cons, List.map_cons] at h1
  have h2 : (0 : Int) = x j * bd cs R (unit j) j + wsum (cs.map x) (cs.map fun k => bd cs R (unit k) j) := h1
  rw [bd_unit_self e hj] at h2
  have h3 := wsum_neg (cs.map x) (cs.map fun k => bd cs R (unit k) j)
  rw [List.map_map] at h3
  have h4 : wsum (cs.map x) (cs.map (sol cs R j)) = - wsum (cs.map x) (cs.map fun k => bd cs R (unit k) j) := h3
  rw [h4]
  grind
/-- the relation of a row to numbers S at the columns -/
def Rel (cs : List Nat) (S : List Int) (d : Int) (j : Nat) (x : Rw) : Prop := wsum (cs.map x) S = d * x j
theorem wsum_lin (a b : Int) (x y : Rw) : ∀ (cs : List Nat) (S : List Int), wsum (cs.map fun i => a * x i + b * y i) S = a * wsum (cs.map x) S + b * wsum (cs.map y) S
  | [], [] => by show (0 : Int) = a * 0 + b * 0; omega
  | [], _ :: _ => by show (0 : Int) = a * 0 + b * 0; omega
  | _ :: _, [] => by show (0 : Int) = a * 0 + b * 0; omega
  | c :: cs, s :: S => by
    show (a * x c + b * y c) * s + wsum (cs.map fun i => a * x i + b * y i) S = a * (x c * s + wsum (cs.map x) S) + b * (y c * s + wsum (cs.map y) S)
    rw [wsum_lin a b x y cs S]
    grind
theorem wsum_zero : ∀ (cs : List Nat) (S : List Int), wsum (cs.map fun _ => (0 : Int)) S = 0
  | [], [] => rfl
  | [], _ :: _ => rfl
  | _ :: _, [] => rfl
  | c :: cs, s :: S => by
    show 0 * s + wsum (cs.map fun _ => (0 : Int)) S = 0
    rw [wsum_zero cs S]
    omega
theorem Rel.lin {cs : List Nat} {S : List Int} {d : Int} {j : Nat} {x y : Rw} (a b : Int) (hx : Rel cs S d j x) (hy : Rel cs S d j y) : Rel cs S d j (fun i => a * x i + b * y i) := by
  show wsum (cs.map fun i => a * x i + b * y i) S = d * (a * x j + b * y j)
  rw [wsum_lin, hx, hy]
  grind
theorem Rel.lc {cs : List Nat} {S : List Int} {d : Int} {j : Nat} : ∀ {ms : List Int} {R : List Rw}, (∀ x ∈ R, Rel cs S d j x) → Rel cs S d j (lc ms R)
  | [], [], _ => by show wsum (cs.map fun _ => (0 : Int)) S = d * 0; rw [wsum_zero, Int.mul_zero]
  | [], _ :: _, _ => by show wsum (cs.map fun _ => (0 : Int)) S = d * 0; rw [wsum_zero, Int.mul_zero]
  | _ :: _, [], _ => by show wsum (cs.map fun _ => (0 : Int)) S = d * 0; rw [wsum_zero, Int.mul_zero]
  | m :: ms, x :: R, h => Rel.lin m 1 (h x List.mem_cons_self) (Rel.lc fun y hy => h y (List.mem_cons_of_mem _ hy))
/-- a row of bordered minors keeps the relation -/
theorem Rel.bd {cs ks : List Nat} {S : List Int} {d : Int} {j : Nat} {R : List Rw} {x : Rw} (hR : ∀ y ∈ R, Rel cs S d j y) (hx : Rel cs S d j x) : Rel cs S d j (bd ks R x) := by
  obtain ⟨ms, _, h⟩ := bd_ms ks R x
  rw [h]
  exact Rel.lin (dt ks R) 1 hx (Rel.lc hR)
end DT
-- DE
/-! what an elimination leaves: its pivots are not 0; the numbers found from the last row up -/
namespace DT
def Pv (r : Nat) (rows : List (List Int)) (cs : List Nat) : Prop := ∀ (k : Nat) (x : List Int), k < r → rows[k]? = some x → fn x (cs.getD (r - 1 - k) 0) ≠ 0
theorem Pv.init (rows : List (List Int)) : Pv 0 rows [] := fun k _ h => absurd h (Nat.not_lt_zero _)
theorem Pv.swap {r i : Nat} {rows : List (List Int)} {cs : List Nat} (h : Pv r rows cs) (hr : r < i) (hi : i < rows.length) : Pv r (swp rows r i) cs := fun k x hk hx => h k x hk (by
  rw [swp_get (by omega) hi, if_neg (by omega), if_neg (by omega)] at hx
  exact hx)
theorem Pv.step {r c : Nat} {rows rows2 : List (List Int)} {cs : List Nat} {p : List Int} (h : Pv r rows cs) (hp : rows[r]? = some p) (np : fn p c ≠ 0) (h2 : ∀ k, k ≤ r → rows2[k]? = rows[k]?) : Pv (r + 1) rows2 (c :: cs) := fun k x hk hx => by
  rw [h2 k (by omega)] at hx
  by_cases e : k = r
  · subst e
    rw [hp] at hx
    cases hx
    rw [show k + 1 - 1 - k = 0 by omega]
    exact np
  · rw [show r + 1 - 1 - k = (r - 1 - k) + 1 by omega]
    exact h k x (by omega) hx
/-! columns -/
theorem dt_trunc (cs : List Nat) (l : List Rw) : dt cs (l.map fun x j => if j ∈ cs then x j else 0) = dt cs l := by
  rw [← df_dt, df_map, List.map_map, ← df_dt]
  congr 1
  refine List.map_congr_left fun j hj => ?_
  funext x
  show (if j ∈ cs then x j else 0) = x j
  rw [if_pos hj]
theorem dt_agree {α : Type} {cs : List Nat} {X : List α} {g g' : α → Rw} (h : ∀ x ∈ X, ∀ j ∈ cs, g x j = g' x j) : dt cs (X.map g) = dt cs (X.map g') := by
  rw [← dt_trunc cs (X.map g), ← dt_trunc cs (X.map g'), List.map_map, List.map_map]
  congr 1
  refine List.map_congr_left fun x hx => ?_
  funext j
  show (if j ∈ cs then g x j else 0) = if j ∈ cs then g' x j else 0
  split
  · rename_i hj; exact h x hx j hj
  · rfl
theorem isum_rev {α : Type} (f : α → Int) : ∀ l : List α, isum (l.reverse.map f) = isum (l.map f)
  | [] => rfl
  | a :: l => by
    rw [List.reverse_cons, List.map_append, isum_app, isum_rev f l, List.map_cons, isum_cons]
    show isum (l.map f) + (f a + 0) = f a + isum (l.map f)
    omega
theorem wsum_isum (f g : Nat → Int) : ∀ l : List Nat, wsum (l.map f) (l.map g) = isum (l.map fun k => f k * g k)
  | [] => rfl
  | a :: l => by
    show f a * g a + wsum (l.map f) (l.map g) = isum (_ :: _)
    rw [wsum_isum f g l, isum_cons]
/-- the sum of the products -/
def dot (n : Nat) (x S : Nat → Int) : Int := isum ((List.range n).map fun j => x j * S j)
theorem dot_wsum (n : Nat) (x S : Nat → Int) : wsum ((List.range n).reverse.map x) ((List.range n).reverse.map S) = dot n x S := by
  rw [wsum_isum, isum_rev]; rfl
theorem dot_succ (n : Nat) (x S : Nat → Int) : dot (n + 1) x S = dot n x S + x n * S n := by
  unfold dot
  rw [List.range_succ, List.map_append, isum_app]
  show _ + (x n * S n + 0) = _
  omega
theorem isum_nil {α : Type} {f : α → Int} : ∀ {l : List α}, (∀ a ∈ l, f a = 0) → isum (l.map f) = 0
  | [], _ => rfl
  | a :: l, h => by
    rw [List.map_cons, isum_cons, h a List.mem_cons_self, isum_nil fun b hb => h b (List.mem_cons_of_mem _ hb)]
    rfl
/-- the sum from behind k on -/
def tl (x S : Nat → Int) (k m : Nat) : Int := isum ((List.range m).map fun i => x (k + 1 + i) * S (k + 1 + i))
theorem tl_zero (x S : Nat → Int) (k : Nat) : tl x S k 0 = 0 := rfl
theorem tl_succ (x S : Nat → Int) (k m : Nat) : tl x S k (m + 1) = tl x S k m + x (k + 1 + m) * S (k + 1 + m) := by
  unfold tl
  rw [List.range_succ, List.map_append, isum_app]
  show _ + (x (k + 1 + m) * S (k + 1 + m) + 0) = _
  omega
theorem dot_from {n k : Nat} {x S : Nat → Int} (hk : k < n) (h : ∀ j, j < k → x j = 0) : dot n x S = x k * S k + tl x S k (n - (k + 1)) := by
  unfold dot tl
  obtain ⟨m, rfl⟩ : ∃ m, n = k + (1 + m) := ⟨n - k - 1, by omega⟩
  rw [List.range_add, List.map_append, isum_app, isum_nil fun a ha => by rw [h a (List.mem_range.mp ha), Int.zero_mul], List.map_map, List.range_add, List.map_append, isum_app, List.map_map, show k + (1 + m) - (k + 1) = m by omega]
  have e : (List.range 1).map ((fun j => x j * S j) ∘ fun i => k + i) = [x k * S k] := rfl
  rw [e, show isum [x k * S k] = x k * S k by show _ + 0 = _; omega, Int.zero_add]
  congr 2
  refine List.map_congr_left fun i _ => ?_
  show x (k + (1 + i)) * S (k + (1 + i)) = _
  rw [← Nat.add_assoc]
section
variable {T : List (List Int)} {L n r : Nat} {rows : List (List Int)} {sign last : Int} {cs : List Nat} {P : List (List Int)}
/-- a square beside which further columns stand: fewer pivots than rows, the determinant is 0 -/
theorem St.side0 (s : St T L n r rows sign last cs P) (h : T.length = n) (hr : r < n) : dt (List.range n).reverse (T.map fn) = 0 := by
  have hT := s.perm.length_eq
  have hP : r < P.length := by omega
  have hR : r < rows.length := by rw [s.len]; exact hP
  have hy : P[r]? = some P[r] := List.getElem?_eq_getElem hP
  have hx : rows[r]? = some rows[r] := List.getElem?_eq_getElem hR
  have ex := s.lo r _ _ (Nat.le_refl _) hx hy
  have z : ∀ j ∈ (List.range n).reverse, bd cs ((P.take r).map fn) (fn P[r]) j = 0 := fun j hj => by
    have hj : j < n := by rw [List.mem_reverse] at hj; exact List.mem_range.mp hj
    have := s.ze r _ (Nat.le_refl _) hx j hj
    rw [ex, fn_rowOf _ (by have := s.cl; omega)] at this
    exact this
  have el : ((P.take r).map fn).length + ((P.drop (r + 1)).map fn).length + 1 = ((List.range n).reverse).length := by
    rw [List.length_map, List.length_map, List.length_take, List.length_drop, List.length_reverse, List.length_range]; omega
  have h1 := dt_zrow (List.range n).reverse _ ((P.take r).map fn) ((P.drop (r + 1)).map fn) z el
  rw [dt_bd (fun y hy => hy) el] at h1
  have eP : P.map fn = (P.take r).map fn ++ fn P[r] :: (P.drop (r + 1)).map fn := by
    have : P = P.take r ++ P[r] :: P.drop (r + 1) := by rw [List.getElem_cons_drop, List.take_append_drop]
    have e2 := congrArg (List.map fn) this
    rw [List.map_append, List.map_cons] at e2
    exact e2
  rw [← eP] at h1
  rw [s.det _ (by rw [List.length_reverse, List.length_range, h])]
  rcases Int.mul_eq_zero.mp h1 with z | z
  · exact absurd (s.la.trans z) s.ne
  · rw [z, Int.mul_zero]
theorem St.full (s : St T L n n rows sign last cs P) (h : T.length = n) : cs = (List.range n).reverse ∧ last = dt (List.range n).reverse (P.map fn) ∧ dt (List.range n).reverse (T.map fn) = sign * last := by
  have hT := s.perm.length_eq
  have e := desc_all n cs s.csl s.srt s.lt
  have e2 : last = dt (List.range n).reverse (P.map fn) := by
    have := s.la
    rw [e, List.take_of_length_le (by omega)] at this
    exact this
  refine ⟨e, e2, ?_⟩
  rw [s.det _ (by rw [List.length_reverse, List.length_range, h]), e2]
theorem nodup_range (n : Nat) : (List.range n).reverse.Nodup := by
  exact List.nodup_iff_pairwise_ne.mpr (List.pairwise_reverse.mpr ((List.nodup_iff_pairwise_ne.mp List.nodup_range).imp fun h => h.symm))
theorem unit_lim {M : Nat} (h : 1 ≤ M) (k : Nat) : Lim M (unit k) := fun j => by
  unfold unit
  split
  · exact h
  · exact Nat.zero_le _
/-- from the last row up -/
theorem St.back (s : St T (n + 1) n n rows sign last cs P) (h : T.length = n) (pv : Pv n rows cs) {M N : Nat} (hM : 1 ≤ M) (hN : n + 1 ≤ N) (lim : ∀ x ∈ T, Lim M (fn x)) :
    ∃ S : Nat → Int, (∀ (k : Nat) (x : List Int), k < n → rows[k]? = some x → x.length = n + 1 ∧ fn x k ≠ 0 ∧ fn x k * S k = last * fn x n - tl (fn x) S k (n - (k + 1))) ∧
      (∀ x ∈ T, dot n (fn x) S = last * fn x n) ∧ ∀ k, (S k).natAbs ≤ (N * M) ^ N := by
  have hT := s.perm.length_eq
  obtain ⟨ec, el, _⟩ := s.full h
  have lenP : (P.map fn).length = ((List.range n).reverse).length := by rw [List.length_map, List.length_reverse, List.length_range]; omega
  have nj : n ∉ (List.range n).reverse := fun z => by
    have := List.mem_range.mp (List.mem_reverse.mp z)
    omega
  have rel : ∀ x ∈ P.map fn, Rel (List.range n).reverse ((List.range n).reverse.map (sol (List.range n).reverse (P.map fn) n)) last n x := fun x hx => by
    unfold Rel
    rw [cramer lenP (nodup_range n) nj hx, ← el]
  refine ⟨sol (List.range n).reverse (P.map fn) n, fun k x hk hx => ?_, fun x hx => ?_, fun k => ?_⟩
  · have hP : k < P.length := by omega
    have hy : P[k]? = some P[k] := List.getElem?_eq_getElem hP
    have ex := s.tp k x _ hk hx hy
    have ed : cs.drop (n - k) = (List.range k).reverse := by
      rw [ec]
      obtain ⟨m, rfl⟩ : ∃ m, n = k + m := ⟨n - k, by omega⟩
      rw [List.range_add, List.reverse_append, List.drop_append, List.drop_eq_nil_of_le (by rw [List.length_reverse, List.length_map, List.length_range]; omega), List.length_reverse, List.length_map, List.length_range, show k + m - k - m = 0 by omega]
      rfl
    rw [ed] at ex
    have fx : ∀ j, j < n + 1 → fn x j = bd (List.range k).reverse ((P.take k).map fn) (fn P[k]) j := fun j hj => by rw [ex]; exact fn_rowOf _ hj
    have r1 := Rel.bd (ks := (List.range k).reverse) (R := (P.take k).map fn) (x := fn P[k]) (fun y hy => rel y (by
      obtain ⟨z, hz, rfl⟩ := List.mem_map.mp hy
      exact List.mem_map.mpr ⟨z, List.mem_of_mem_take hz, rfl⟩)) (rel _ (List.mem_map.mpr ⟨_, List.getElem_mem hP, rfl⟩))
    unfold Rel at r1
    rw [dot_wsum] at r1
    have r2 : dot n (fn x) (sol (List.range n).reverse (P.map fn) n) = last * fn x n := by
      rw [fx n (by omega), ← r1]
      unfold dot
      congr 1
      refine List.map_congr_left fun j hj => ?_
      rw [fx j (by have := List.mem_range.mp hj; omega)]
    rw [dot_from hk (fun j hj => by rw [fx j (by omega)]; exact bd_col (List.mem_reverse.mpr (List.mem_range.mpr hj)))] at r2
    have p1 := pv k x hk hx
    have ek : cs.getD (n - 1 - k) 0 = k := by
      rw [ec, List.getD_eq_getElem?_getD, List.getElem?_eq_getElem (by rw [List.length_reverse, List.length_range]; omega), List.getElem_reverse, List.getElem_range]
      show (List.range n).length - 1 - (n - 1 - k) = k
      rw [List.length_range]
      omega
    rw [ek] at p1
    refine ⟨by rw [ex, rowOf_len], p1, ?_⟩
    omega
  · have hx' : fn x ∈ P.map fn := List.mem_map.mpr ⟨x, s.perm.mem_iff.mpr hx, rfl⟩
    have := rel _ hx'
    unfold Rel at this
    rw [dot_wsum] at this
    exact this
  · unfold sol
    rw [Int.natAbs_neg]
    refine bd_bound (Nat.mul_pos (by omega) hM) (fun x hx => ?_) (unit_lim hM k) lenP (by rw [List.length_reverse, List.length_range]; exact hN) n
    obtain ⟨y, hy, rfl⟩ := List.mem_map.mp hx
    exact lim y (s.perm.mem_iff.mp hy)
end
end DT
-- DF
/-! an elimination can be carried to its end -/
namespace DT
theorem St.fin {T : List (List Int)} {L : Nat} : ∀ (m : Nat) {c r : Nat} {rows : List (List Int)} {sign last : Int} {cs : List Nat} {P : List (List Int)}, St T L c r rows sign last cs P → c + m = L →
    ∃ r' rows' sign' last' cs' P', St T L L r' rows' sign' last' cs' P' ∧ r' ≤ r + m
  | 0, c, r, rows, sign, last, cs, P, s, e => by
    obtain rfl : c = L := by omega
    exact ⟨r, rows, sign, last, cs, P, s, by omega⟩
  | m + 1, c, r, rows, sign, last, cs, P, s, e => by
    by_cases h : ∃ (k : Nat) (x : List Int), r ≤ k ∧ rows[k]? = some x ∧ fn x c ≠ 0
    · obtain ⟨k, x, hk, hx, nx⟩ := h
      have hkl : k < rows.length := (List.getElem?_eq_some_iff.mp hx).1
      have step : ∀ {rows1 : List (List Int)} {sign1 : Int} {P1 : List (List Int)}, St T L c r rows1 sign1 last cs P1 → rows1[r]? = some x → ∃ r' rows' sign' last' cs' P', St T L L r' rows' sign' last' cs' P' ∧ r' ≤ r + (m + 1) := by
        intro rows1 sign1 P1 s1 h1
        obtain ⟨a, b, z, d, f, g, i, j⟩ := St.fin m (s1.step (rows2 := rows1.take (r + 1) ++ (rows1.drop (r + 1)).map fun y => low L (fn x c) (fn y c) last y x) (by omega) h1 nx (by
          rw [List.length_append, List.length_map, List.length_take, List.length_drop]; omega) (fun k => by
          have hr : r < rows1.length := (List.getElem?_eq_some_iff.mp h1).1
          by_cases z : k ≤ r
          · rw [if_pos z, List.getElem?_append_left (by rw [List.length_take]; omega), List.getElem?_take, if_pos (by omega)]
          · rw [if_neg z, List.getElem?_append_right (by rw [List.length_take]; omega), List.getElem?_map, List.getElem?_drop, List.length_take]
            congr 2
            omega)) (by omega)
        exact ⟨a, b, z, d, f, g, i, by omega⟩
      rcases Nat.lt_or_ge r k with z | z
      · exact step (s.swap z hkl) (by rw [swp_get (by omega) hkl, if_neg (by omega), if_pos rfl, hx])
      · obtain rfl : r = k := by omega
        exact step s hx
    · obtain ⟨a, b, z, d, f, g, i, j⟩ := St.fin m (s.skip (by omega) fun k x hk hx => by
        by_cases z : fn x c = 0
        · exact z
        · exact absurd ⟨k, x, hk, hx, z⟩ h) (by omega)
      exact ⟨a, b, z, d, f, g, i, by omega⟩
/-- no pivot in a column of a square: its determinant is 0 -/
theorem St.dead {T : List (List Int)} {L c r : Nat} {rows : List (List Int)} {sign last : Int} {cs : List Nat} {P : List (List Int)} (s : St T L c r rows sign last cs P) (h : T.length = L) (hc : r < c) : dt (List.range L).reverse (T.map fn) = 0 := by
  have := s.cl
  obtain ⟨r', rows', sign', last', cs', P', s', hr⟩ := s.fin (L - c) (by omega)
  have := s'.square h
  rw [if_pos (by omega)] at this
  exact this
end DT
-- DK
/-! only nought is nought at all rows of a regular table -/
namespace DT
theorem dot_lin (a b : Int) (x y S : Nat → Int) : ∀ n : Nat, dot n (fun j => a * x j + b * y j) S = a * dot n x S + b * dot n y S
  | 0 => by show (0 : Int) = a * 0 + b * 0; omega
  | n + 1 => by
    rw [dot_succ, dot_succ, dot_succ, dot_lin a b x y S n]
    grind
theorem dot_sub (c d : Int) (x S R : Nat → Int) : ∀ n : Nat, dot n x (fun j => S j * c - R j * d) = dot n x S * c - dot n x R * d
  | 0 => by show (0 : Int) = 0 * c - 0 * d; omega
  | n + 1 => by
    rw [dot_succ, dot_succ, dot_succ, dot_sub c d x S R n]
    grind
theorem dot_zero {n : Nat} {x S : Nat → Int} (h : ∀ j, j < n → x j = 0) : dot n x S = 0 := by
  unfold dot
  exact isum_nil fun j hj => by rw [h j (List.mem_range.mp hj), Int.zero_mul]
theorem dot_lc {n : Nat} {S : Nat → Int} : ∀ {ms : List Int} {R : List Rw}, (∀ x ∈ R, dot n x S = 0) → dot n (lc ms R) S = 0
  | [], R, _ => by rw [lc_nil]; exact dot_zero fun _ _ => rfl
  | m :: ms, [], _ => dot_zero fun _ _ => rfl
  | m :: ms, x :: R, h => by
    show dot n (fun j => m * x j + 1 * lc ms R j) S = 0
    rw [dot_lin, h x List.mem_cons_self, dot_lc fun y hy => h y (List.mem_cons_of_mem _ hy), Int.mul_zero, Int.mul_zero]
    rfl
theorem dot_unit {n k : Nat} (hk : k < n) (S : Nat → Int) : dot n (unit k) S = S k := by
  rw [dot_from hk (fun j hj => show unit k j = 0 from if_neg (by omega))]
  have : tl (unit k) S k (n - (k + 1)) = 0 := by
    unfold tl
    refine isum_nil fun i _ => ?_
    rw [show unit k (k + 1 + i) = 0 from if_neg (by omega), Int.zero_mul]
  rw [this, show unit k k = 1 from if_pos rfl]
  omega
theorem kernel {n : Nat} {R : List Rw} {S : Nat → Int} (e : R.length = n) (d : dt (List.range n).reverse R ≠ 0) (h : ∀ x ∈ R, dot n x S = 0) {k : Nat} (hk : k < n) : S k = 0 := by
  obtain ⟨ms, _, hm⟩ := bd_ms (List.range n).reverse R (unit k)
  have h1 : dot n (bd (List.range n).reverse R (unit k)) S = 0 := dot_zero fun j hj => bd_col (List.mem_reverse.mpr (List.mem_range.mpr hj))
  rw [hm, dot_lin, dot_lc h, dot_unit hk] at h1
  rcases Int.mul_eq_zero.mp (show dt (List.range n).reverse R * S k = 0 by omega) with z | z
  · exact absurd z d
  · exact z
end DT
-- B7
namespace K67
open PySem PySem.Spec PyProof.Rows L2
def topS (i : Nat) : Stmt := PySem.Challenge.pw_unsaidsizes_k67_equations_solved.main.body.getD i (.Pass ⟨0, 0, 0, 0⟩)
abbrev s_first_row : Stmt := topS 2
theorem sc_first_row : FnScope ["rows", "start", "column", "k"] ["rows", "start", "column"] (defScope s_first_row) := ⟨rfl, rfl, rfl, by decide +kernel, rfl, by decide +kernel, by decide +kernel⟩
abbrev s_lowered : Stmt := topS 3
theorem sc_lowered : FnScope ["row", "pivot", "column", "last", "up", "down", "own", "other"] ["row", "pivot", "column", "last"] (defScope s_lowered) := ⟨rfl, rfl, rfl, by decide +kernel, rfl, by decide +kernel, by decide +kernel⟩
abbrev s_triangle : Stmt := topS 4
theorem sc_triangle : FnScope ["numbers", "width", "rows", "found", "sign", "last", "column", "at", "k", "row"] ["numbers", "width"] (defScope s_triangle) := ⟨rfl, rfl, rfl, by decide +kernel, rfl, by decide +kernel, by decide +kernel⟩
abbrev s_solved_sides : Stmt := topS 5
theorem sc_solved_sides : FnScope ["numbers", "sides", "many", "rows", "regular", "_", "last", "found", "k", "row", "rest", "j", "own", "side", "other"] ["numbers", "sides"] (defScope s_solved_sides) := ⟨rfl, rfl, rfl, by decide +kernel, rfl, by decide +kernel, by decide +kernel⟩
abbrev s_solved_whole : Stmt := topS 6
theorem sc_solved_whole : FnScope ["numbers", "right", "factor", "found", "number", "row"] ["numbers", "right"] (defScope s_solved_whole) := ⟨rfl, rfl, rfl, by decide +kernel, rfl, by decide +kernel, by decide +kernel⟩
abbrev s_wording : Stmt := topS 8
theorem sc_wording : FnScope ["name", "at"] ["name", "at"] (defScope s_wording) := ⟨rfl, rfl, rfl, by decide +kernel, rfl, by decide +kernel, by decide +kernel⟩
abbrev s_is_square : Stmt := topS 12
theorem sc_is_square : FnScope ["table", "row"] ["table"] (defScope s_is_square) := ⟨rfl, rfl, rfl, by decide +kernel, rfl, by decide +kernel, by decide +kernel⟩
abbrev s_determinant : Stmt := topS 13
theorem sc_determinant : FnScope ["numbers", "many", "_", "found", "sign", "last"] ["numbers"] (defScope s_determinant) := ⟨rfl, rfl, rfl, by decide +kernel, rfl, by decide +kernel, by decide +kernel⟩
abbrev s_lowest : Stmt := topS 15
theorem sc_lowest : FnScope ["n", "d", "shared"] ["n", "d"] (defScope s_lowest) := ⟨rfl, rfl, rfl, by decide +kernel, rfl, by decide +kernel, by decide +kernel⟩
abbrev s_common_below : Stmt := topS 16
theorem sc_common_below : FnScope ["many", "found", "_", "d"] ["many"] (defScope s_common_below) := ⟨rfl, rfl, rfl, by decide +kernel, rfl, by decide +kernel, by decide +kernel⟩
abbrev s_whole : Stmt := topS 17
theorem sc_whole : FnScope ["many", "below", "n", "d"] ["many", "below"] (defScope s_whole) := ⟨rfl, rfl, rfl, by decide +kernel, rfl, by decide +kernel, by decide +kernel⟩
abbrev s_solved : Stmt := topS 18
theorem sc_solved : FnScope ["rows", "right", "below", "factor", "found", "number", "row"] ["rows", "right"] (defScope s_solved) := ⟨rfl, rfl, rfl, by decide +kernel, rfl, by decide +kernel, by decide +kernel⟩
abbrev s_law_draws : Stmt := topS 20
theorem sc_law_draws : FnScope ["script", "draws", "k", "rest", "turn", "mixed"] ["script"] (defScope s_law_draws) := ⟨rfl, rfl, rfl, by decide +kernel, rfl, by decide +kernel, by decide +kernel⟩
abbrev s_law_mix : Stmt := topS 21
theorem sc_law_mix : FnScope ["draws", "k", "many", "value"] ["draws", "k", "many"] (defScope s_law_mix) := ⟨rfl, rfl, rfl, by decide +kernel, rfl, by decide +kernel, by decide +kernel⟩
abbrev s_law_determinant : Stmt := topS 22
theorem sc_law_determinant : FnScope ["numbers", "rows", "last", "sign", "at", "k", "heads", "kept", "row", "j"] ["numbers"] (defScope s_law_determinant) := ⟨rfl, rfl, rfl, by decide +kernel, rfl, by decide +kernel, by decide +kernel⟩
abbrev s_law_common : Stmt := topS 23
theorem sc_law_common : FnScope ["one", "two", "turn", "rest"] ["one", "two"] (defScope s_law_common) := ⟨rfl, rfl, rfl, by decide +kernel, rfl, by decide +kernel, by decide +kernel⟩
abbrev s_law_ratio : Stmt := topS 24
theorem sc_law_ratio : FnScope ["n", "d", "common"] ["n", "d"] (defScope s_law_ratio) := ⟨rfl, rfl, rfl, by decide +kernel, rfl, by decide +kernel, by decide +kernel⟩
abbrev s_law_add : Stmt := topS 25
theorem sc_law_add : FnScope ["one", "two"] ["one", "two"] (defScope s_law_add) := ⟨rfl, rfl, rfl, by decide +kernel, rfl, by decide +kernel, by decide +kernel⟩
abbrev s_law_multiply : Stmt := topS 26
theorem sc_law_multiply : FnScope ["one", "two"] ["one", "two"] (defScope s_law_multiply) := ⟨rfl, rfl, rfl, by decide +kernel, rfl, by decide +kernel, by decide +kernel⟩
abbrev s_law_drawn_ratio : Stmt := topS 27
theorem sc_law_drawn_ratio : FnScope ["draws", "k", "top", "n"] ["draws", "k"] (defScope s_law_drawn_ratio) := ⟨rfl, rfl, rfl, by decide +kernel, rfl, by decide +kernel, by decide +kernel⟩
abbrev s_law_is_integer : Stmt := topS 28
theorem sc_law_is_integer : FnScope ["actual"] ["actual"] (defScope s_law_is_integer) := ⟨rfl, rfl, rfl, by decide +kernel, rfl, by decide +kernel, by decide +kernel⟩
abbrev s_law_refused : Stmt := topS 29
theorem sc_law_refused : FnScope ["rows", "right", "e"] ["rows", "right"] (defScope s_law_refused) := ⟨rfl, rfl, rfl, by decide +kernel, rfl, by decide +kernel, by decide +kernel⟩
abbrev s_law_keeps : Stmt := topS 30
theorem sc_law_keeps : FnScope ["rows", "right", "values", "i", "total", "j"] ["rows", "right", "values"] (defScope s_law_keeps) := ⟨rfl, rfl, rfl, by decide +kernel, rfl, by decide +kernel, by decide +kernel⟩
abbrev s_law_are_ratios : Stmt := topS 31
theorem sc_law_are_ratios : FnScope ["values", "many", "one"] ["values", "many"] (defScope s_law_are_ratios) := ⟨rfl, rfl, rfl, by decide +kernel, rfl, by decide +kernel, by decide +kernel⟩
abbrev s_law : Stmt := topS 32
theorem sc_law : FnScope ["script", "draws", "many", "top", "rows", "at", "places", "right", "kept", "told", "copy", "row", "i", "j", "number"] ["script"] (defScope s_law) := ⟨rfl, rfl, rfl, by decide +kernel, rfl, by decide +kernel, by decide +kernel⟩
/-- a def as it stands behind the top -/
structure Def (K : PySem.W.Frag) (mg : Str → Option Value) (x : Str) (st : Stmt) (ps : List Str) where
  a : Addr
  fd : FuncData
  F : Fun K x x st a fd
  b : Binds K fd ps []
  g : mg x = some (.ref a)
/-- a def that holds generator expressions: its code object is known -/
structure DefT (K : PySem.W.Frag) (mg : Str → Option Value) (x : Str) (st : Stmt) (ps : List Str) where
  a : Addr
  c : Addr
  fd : FuncData
  ex : ∃ (oc : Value) (od : Option Addr) (dV kV doc pm : Value) (an : Option Addr) (ct : Value) (osl : Array (Option Value)), fd = PySem.W.fnOf x x (defArgs st) (defBody st) (defScope st) dV kV doc pm an (.ref c) ct ∧ K.lookup a = some ⟨oc, od, .func fd, osl⟩ ∧ PySem.W.codeIn K (.ref c) x = true
  kp : PySem.W.keepIn K (.ref a) = true
  b : Binds K fd ps []
  g : mg x = some (.ref a)
theorem DefT.ok {P : Program} {w : World} {K : PySem.W.Frag} {mg : Str → Option Value} {base : Heap} {x : Str} {st : Stmt} {N ps : List Str} {k : Nat} {sp : Sp} (T : DefT K mg x st ps) (S : FnScope N ps (defScope st)) (len : ∀ vs H Q E, sp vs H Q E → vs.length = ps.length)
    (hbody : ∀ (A : Around) (outer : List Env) (s : Shared) (H : Hp) (vs : List V) (Q : VK) (E : XK), Room k (A.deeper (envOfC x (defScope st) s.heap.objs.size T.a (.ref T.c))) → sp vs H Q E →
      ∃ t, PSs (cxOf CX0 P w K mg base N x (defScope st) T.a (.ref T.c) A outer s H E).nox (defBody st) t ∧ t { nx := fun _ H' => Q .non H', rt := Q } (L2.start N vs) H) : FnOk P w K mg base CX0 (k + 1) T.a T.fd ps sp := by
  obtain ⟨a, c, fd, ⟨oc, od, dV, kV, doc, pm, an, ct, osl, rfl, lk, hcd⟩, kp, b, g⟩ := T
  refine fn_of lk hcd S len fun A outer s H vs Q E hr hsp => ?_
  obtain ⟨t, h, q⟩ := hbody A outer s H vs Q E hr hsp
  exact ⟨t, h.nox, q⟩
structure Txt (K : PySem.W.Frag) (mg : Str → Option Value) where
  first_row : Def K mg "_first_row" s_first_row ["rows", "start", "column"]
  lowered : Def K mg "_lowered" s_lowered ["row", "pivot", "column", "last"]
  triangle : Def K mg "triangle" s_triangle ["numbers", "width"]
  solved_sides : Def K mg "solved_sides" s_solved_sides ["numbers", "sides"]
  solved_whole : Def K mg "solved_whole" s_solved_whole ["numbers", "right"]
  wording : Def K mg "_wording" s_wording ["name", "at"]
  is_square : DefT K mg "_is_square" s_is_square ["table"]
  determinant : Def K mg "determinant" s_determinant ["numbers"]
  lowest : Def K mg "_lowest" s_lowest ["n", "d"]
  common_below : Def K mg "common_below" s_common_below ["many"]
  whole : Def K mg "whole" s_whole ["many", "below"]
  solved : DefT K mg "solved" s_solved ["rows", "right"]
  law_draws : Def K mg "_law_draws" s_law_draws ["script"]
  law_mix : Def K mg "_law_mix" s_law_mix ["draws", "k", "many"]
  law_determinant : Def K mg "_law_determinant" s_law_determinant ["numbers"]
  law_common : Def K mg "_law_common" s_law_common ["one", "two"]
  law_ratio : Def K mg "_law_ratio" s_law_ratio ["n", "d"]
  law_add : Def K mg "_law_add" s_law_add ["one", "two"]
  law_multiply : Def K mg "_law_multiply" s_law_multiply ["one", "two"]
  law_drawn_ratio : Def K mg "_law_drawn_ratio" s_law_drawn_ratio ["draws", "k"]
  law_is_integer : Def K mg "_law_is_integer" s_law_is_integer ["actual"]
  law_refused : Def K mg "_law_refused" s_law_refused ["rows", "right"]
  law_keeps : Def K mg "_law_keeps" s_law_keeps ["rows", "right", "values"]
  law_are_ratios : Def K mg "_law_are_ratios" s_law_are_ratios ["values", "many"]
  law : Def K mg "law" s_law ["script"]
  m_abs : mg "abs" = none
  m_all : mg "all" = none
  m_bool : mg "bool" = none
  m_int : mg "int" = none
  m_isinstance : mg "isinstance" = none
  m_len : mg "len" = none
  m_list : mg "list" = none
  m_max : mg "max" = none
  m_min : mg "min" = none
  m_range : mg "range" = none
  m_repr : mg "repr" = none
  m_reversed : mg "reversed" = none
  m_tuple : mg "tuple" = none
  m_zip : mg "zip" = none
  x_gcd : mg "gcd" = some (.builtin "math.gcd")
  x_lcm : mg "lcm" = some (.builtin "math.lcm")
/-! ### the errors of the text -/
abbrev s_init : Stmt := inClass (topS 9) 0
theorem sc_init : FnScope ["self", "at"] ["self", "at"] (defScope s_init) := ⟨rfl, rfl, rfl, by decide +kernel, rfl, by decide +kernel, by decide +kernel⟩
structure Errs (K : PySem.W.Frag) (mg : Str → Option Value) where
  e0 : LX.Err0 K mg s_init
  WrongSize : LX.ErrC K mg "WrongSize" e0.CM e0.f

/-! ### words -/
theorem same_upd {H : Hp} {p : Addr} {o : HO} (h : H p = none) : Same H (upd H p o) := fun b x e => by
  rw [upd_ne (ne_of_none e h)]
  exact e
theorem same_over {H H' : Hp} {p : Addr} {o : HO} (s : Same H H') (h : H p = none) : Same H (upd H' p o) := fun b x e => by
  rw [upd_ne (ne_of_none e h)]
  exact s _ _ e
theorem Same.seqT {K : PySem.W.Frag} {H H' : Hp} {a : Addr} {xs : List V} (e : Same H H') (h : SqT K H a xs) : SqT K H' a xs := by
  rcases h with (h | ⟨o, h⟩) | h
  · exact .inl (.inl (e _ _ h))
  · exact .inl (.inr ⟨o, e _ _ h⟩)
  · exact .inr h
/-- two lists in step -/
inductive A2 {α β : Type} (R : α → β → Prop) : List α → List β → Prop
  | nil : A2 R [] []
  | cons {a b as bs} : R a b → A2 R as bs → A2 R (a :: as) (b :: bs)
namespace A2
variable {α β γ : Type} {R S : α → β → Prop} {as : List α} {bs : List β}
theorem mono (f : ∀ a b, R a b → S a b) : ∀ {as : List α} {bs : List β}, A2 R as bs → A2 S as bs
  | _, _, .nil => .nil
  | _, _, .cons h t => .cons (f _ _ h) (mono f t)
theorem len : ∀ {as : List α} {bs : List β}, A2 R as bs → as.length = bs.length
  | _, _, .nil => rfl
  | _, _, .cons _ t => by rw [List.length_cons, List.length_cons, len t]
theorem get : ∀ {as : List α} {bs : List β}, A2 R as bs → ∀ {i : Nat} {a : α}, as[i]? = some a → ∃ b, bs[i]? = some b ∧ R a b
  | _, _, .nil, i, a, h => by simp at h
  | _, _, .cons h t, 0, a, e => by simp at e; subst e; exact ⟨_, rfl, h⟩
  | _, _, .cons h t, i + 1, a, e => get t (i := i) (by simpa using e)
theorem get' : ∀ {as : List α} {bs : List β}, A2 R as bs → ∀ {i : Nat} {b : β}, bs[i]? = some b → ∃ a, as[i]? = some a ∧ R a b
  | _, _, .nil, i, a, h => by simp at h
  | _, _, .cons h t, 0, a, e => by simp at e; subst e; exact ⟨_, rfl, h⟩
  | _, _, .cons h t, i + 1, a, e => get' t (i := i) (by simpa using e)
theorem snoc {a : α} {b : β} (h : R a b) : ∀ {as : List α} {bs : List β}, A2 R as bs → A2 R (as ++ [a]) (bs ++ [b])
  | _, _, .nil => .cons h .nil
  | _, _, .cons x t => .cons x (snoc h t)
theorem mem : ∀ {as : List α} {bs : List β}, A2 R as bs → ∀ a ∈ as, ∃ b ∈ bs, R a b
  | _, _, .cons h t, a, m => by
    rcases List.mem_cons.mp m with rfl | m
    · exact ⟨_, List.mem_cons_self, h⟩
    · obtain ⟨b, hb, r⟩ := mem t a m
      exact ⟨b, List.mem_cons_of_mem _ hb, r⟩
theorem of_map {f : β → α} (h : ∀ b, b ∈ bs → R (f b) b) : A2 R (bs.map f) bs := by
  induction bs with
  | nil => exact .nil
  | cons b r ih => exact .cons (h b List.mem_cons_self) (ih fun c hc => h c (List.mem_cons_of_mem _ hc))
end A2
theorem take_snoc {α : Type} {xs : List α} {i : Nat} {x : α} (h : xs[i]? = some x) : xs.take (i + 1) = xs.take i ++ [x] := by
  rw [List.take_add_one, h]; rfl
/-- a list of ints stands at a -/
def IL (H : Hp) (a : Addr) (ns : List Int) : Prop := H a = some (.lst (ns.map V.int))
theorem IL.sq {K : PySem.W.Frag} {H : Hp} {a : Addr} {ns : List Int} (h : IL H a ns) : SqL K H a (ns.map V.int) := SqL.of h
theorem IL.same {H H' : Hp} {a : Addr} {ns : List Int} (h : IL H a ns) (s : Same H H') : IL H' a ns := s _ _ h
theorem il_upd {H : Hp} {p : Addr} {ns : List Int} : IL (upd H p (.lst (ns.map V.int))) p ns := upd_same
theorem app_ints {ds : List Int} {x : Int} : ds.map V.int ++ [V.int x] = (ds ++ [x]).map V.int := by rw [List.map_append]; rfl
theorem small {n : Nat} (h : n ≤ 60000) : n ≤ sizeLine := Nat.le_trans h (by decide)
theorem small' {n : Nat} (h : n < 60000) : n < sizeLine := Nat.lt_of_lt_of_le h (by decide)

theorem mem_at {α : Type} {xs : List α} {i : Nat} {x : α} (h : xs[i]? = some x) : x ∈ xs := List.mem_of_getElem? h
theorem at_getD {α : Type} {xs : List α} {j : Nat} {d : α} (h : j < xs.length) : xs[j]? = some (xs.getD j d) := by
  rw [List.getD_eq_getElem?_getD, List.getElem?_eq_getElem h]; rfl
theorem ix_ok {n j : Nat} {i : Int} (e : i = (j : Int)) (h : j < n) : ixN n i = some j := by
  unfold ixN
  rw [if_pos (by omega), if_pos (by omega), e]; rfl
/-- all stands but the tables of code -/
def Lk (H H' : Hp) : Prop := ∀ b o, H b = some o → (∀ q, o ≠ .tbl q) → H' b = some o
def TGs (Ps : List Addr) (H : Hp) : Prop := ∀ P ∈ Ps, GxR.TabG H P
section
variable {K : PySem.W.Frag} {H H' H2 : Hp} {Ps : List Addr}
theorem lk_of (s : Same H H') : Lk H H' := fun b o e _ => s b o e
theorem Lk.refl : Lk H H := fun _ _ e _ => e
theorem Lk.trans (a : Lk H H') (b : Lk H' H2) : Lk H H2 := fun c o e n => b c o (a c o e n) n
theorem Lk.lst (s : Lk H H') {a : Addr} {xs : List V} (h : H a = some (.lst xs)) : H' a = some (.lst xs) := s _ _ h fun q z => nomatch z
theorem Lk.tup (s : Lk H H') {a : Addr} {xs : List V} (h : H a = some (.tup xs)) : H' a = some (.tup xs) := s _ _ h fun q z => nomatch z
theorem Lk.seqL (s : Lk H H') {a : Addr} {xs : List V} (h : SqL K H a xs) : SqL K H' a xs := by
  rcases h with (h | ⟨o, h⟩) | h
  · exact .inl (.inl (s _ _ h fun q z => nomatch z))
  · exact .inl (.inr ⟨o, s _ _ h fun q z => nomatch z⟩)
  · exact .inr h
theorem Lk.seqT (s : Lk H H') {a : Addr} {xs : List V} (h : SqT K H a xs) : SqT K H' a xs := by
  rcases h with (h | ⟨o, h⟩) | h
  · exact .inl (.inl (s _ _ h fun q z => nomatch z))
  · exact .inl (.inr ⟨o, s _ _ h fun q z => nomatch z⟩)
  · exact .inr h
theorem TGs.same (s : Same H H') (h : TGs Ps H) : TGs Ps H' := fun P hP => let ⟨ps, e, t⟩ := h P hP; ⟨ps, s _ _ e, t⟩
theorem lk_tab {P : Addr} (h : GxR.TabG H P) (t : GxR.Tabbed P H H') : Lk H H' := fun b o e n => by
  rw [t.2 b (fun z => by obtain ⟨ps, hp, _⟩ := h; rw [z, hp] at e; exact n ps (Option.some.inj e).symm)]
  exact e
theorem TGs.tab {P : Addr} (h : TGs Ps H) (t : GxR.Tabbed P H H') : TGs Ps H' := fun R hR => by
  by_cases e : R = P
  · rw [e]; exact t.1
  · obtain ⟨ps, hp, ht⟩ := h R hR
    exact ⟨ps, by rw [t.2 R e]; exact hp, ht⟩
end
/-! new lists -/
/-- lists of flat things, all new, in a new list -/
def Rows (H H' : Hp) (p : Addr) (rows : List (List V)) : Prop := ∃ rs : List Addr, H' p = some (.lst (rs.map V.ref)) ∧ A2 (fun r row => H' r = some (.lst row)) rs rows ∧ ∀ r ∈ rs, H r = none ∧ r ≠ p
/-- each of es once -/
def Inj (es : List Addr) : Prop := ∀ (i j : Nat) (e : Addr), es[i]? = some e → es[j]? = some e → i = j
/-- lists of such, all new -/
def Tabs (H H' : Hp) (p : Addr) (tab : List (List (List V))) : Prop := ∃ rs : List Addr, H' p = some (.lst (rs.map V.ref)) ∧ (∀ r ∈ rs, H r = none ∧ r ≠ p) ∧ Inj rs ∧
  A2 (fun r row => ∃ es : List Addr, H' r = some (.lst (es.map V.ref)) ∧ A2 (fun e x => H' e = some (.lst x)) es row ∧ ∀ e ∈ es, H e = none ∧ e ≠ p ∧ e ∉ rs) rs tab
/-- all but D stand as they stood -/
def SameX (D : Addr) (H H' : Hp) : Prop := ∀ c o, c ≠ D → H c = some o → H' c = some o
theorem sx {D : Addr} {H H' : Hp} (s : Same H H') : SameX D H H' := fun c o _ h => s c o h
theorem SameX.trans {D : Addr} {H H1 H2 : Hp} (a : SameX D H H1) (b : SameX D H1 H2) : SameX D H H2 := fun c o n h => b c o n (a c o n h)
theorem SameX.put {D : Addr} {H : Hp} {o : HO} : SameX D H (upd H D o) := fun c x n h => by
  rw [upd_ne n]; exact h
theorem SameX.seqT {K : PySem.W.Frag} {D : Addr} {H H' : Hp} {a : Addr} {xs : List V} (e : SameX D H H') (n : a ≠ D) (h : SqT K H a xs) : SqT K H' a xs := by
  rcases h with (h | ⟨o, h⟩) | h
  · exact .inl (.inl (e _ _ n h))
  · exact .inl (.inr ⟨o, e _ _ n h⟩)
  · exact .inr h
section
variable {J : It} {n : Nat} {G : Hp → Prop} {Y : Nat → Hp → V → Hp → Prop} {g : TG} {tt : TT} {te : TE} {vs : List Nat} {σ : L2.St} {H1 : Hp} {D : Addr} {Qd : Hp → Prop}
/-- what a comprehension wants of its turns -/
abbrev LcW (J : It) (g : TG) (tt : TT) (te : TE) (vs : List Nat) (σ : L2.St) (H1 : Hp) (D : Addr) (Qd : Hp → Prop) : Prop :=
  ∃ W : Nat → Nat → Hp → Prop, (∃ m, W 0 m (upd H1 D (.lst []))) ∧ ∀ i m H, W i m H →
      (J.stop i H ∧ Qd H) ∨ (J.go i H ∧ ∃ Nx : Hp → Prop, (∀ H', Nx H' → ∃ m', m' < m ∧ W (i + 1) m' H') ∧ ∀ x H', J.yld i H x H' → g x (wipe σ vs) H' fun σ2 H2 => wipe σ2 vs = wipe σ vs ∧ tt σ2 H2 fun b H3 =>
        if b = true then te σ2 H3 fun y H4 => ∃ acc, H4 D = some (.lst acc) ∧ acc.length < sizeLine ∧ Nx (upd H4 D (.lst (acc ++ [y]))) else Nx H3)
theorem lc_inv (w : Walk J n G Y) (R : Nat → Hp → List V → Prop) (nD : H1 D = none) (hG : ∀ H', Same H1 H' → G H') (hl : n < sizeLine) (h0 : R 0 (upd H1 D (.lst [])) [])
    (hs : ∀ i x H Hx ys, i < n → Same H1 H → H D = some (.lst ys) → R i H ys → Y i H x Hx → ∀ (Qt : VK) (Qf : Hp → Prop), (∀ y H4, Same H H4 → R (i + 1) (upd H4 D (.lst (ys ++ [y]))) (ys ++ [y]) → Qt y H4) →
      (∀ H3, Same H H3 → R (i + 1) H3 ys → Qf H3) → g x (wipe σ vs) Hx fun σ2 H2 => wipe σ2 vs = wipe σ vs ∧ tt σ2 H2 fun b H3 => if b = true then te σ2 H3 Qt else Qf H3)
    (hd : ∀ H ys, Same H1 H → H D = some (.lst ys) → R n H ys → Qd H) : LcW J g tt te vs σ H1 D Qd := by
  refine lc_it w (fun i H => Same H1 H ∧ ∃ ys, ys.length ≤ i ∧ H D = some (.lst ys) ∧ R i H ys) ⟨same_upd nD, [], Nat.le_refl _, upd_same, h0⟩ (fun i H _ p => hG H p.1) (fun i x H Hx hi p y => ?_) (fun H p => ?_)
  · obtain ⟨sm, ys, hn, hD, hR⟩ := p
    refine hs i x H Hx ys hi sm hD hR y (fun y H4 => ∃ acc, H4 D = some (.lst acc) ∧ acc.length < sizeLine ∧ Same H1 (upd H4 D (.lst (acc ++ [y]))) ∧ ∃ zs, zs.length ≤ i + 1 ∧ upd H4 D (.lst (acc ++ [y])) D = some (.lst zs) ∧ R (i + 1) (upd H4 D (.lst (acc ++ [y]))) zs) _ (fun y H4 s4 r => ?_) (fun H3 s3 r => ?_)
    · exact ⟨ys, s4 _ _ hD, by omega, same_over (sm.trans s4) nD, ys ++ [y], by rw [List.length_append]; exact Nat.succ_le_succ hn, upd_same, r⟩
    · exact ⟨sm.trans s3, ys, by omega, s3 _ _ hD, r⟩
  · obtain ⟨sm, ys, _, hD, hR⟩ := p
    exact hd H ys sm hD hR
/-- item by item -/
theorem lc_fm {α β : Type} (w : Walk J n G Y) (ls : List α) (f : α → Option β) (rel : Hp → V → β → Prop) (mono : ∀ H H' v b, SameX D H H' → rel H v b → rel H' v b) (hn : ls.length = n) (nD : H1 D = none)
    (hG : ∀ H', Same H1 H' → G H') (hl : n < sizeLine)
    (hs : ∀ i x H Hx ys l, ls[i]? = some l → Same H1 H → H D = some (.lst ys) → Y i H x Hx → ∀ (Qt : VK) (Qf : Hp → Prop), (∀ y H4 b, f l = some b → Same H H4 → rel H4 y b → Qt y H4) →
      (f l = none → ∀ H3, Same H H3 → Qf H3) → g x (wipe σ vs) Hx fun σ2 H2 => wipe σ2 vs = wipe σ vs ∧ tt σ2 H2 fun b H3 => if b = true then te σ2 H3 Qt else Qf H3)
    (hd : ∀ H ys, Same H1 H → H D = some (.lst ys) → A2 (rel H) ys (ls.filterMap f) → Qd H) : LcW J g tt te vs σ H1 D Qd := by
  refine lc_inv w (fun i H ys => A2 (rel H) ys ((ls.take i).filterMap f)) nD hG hl .nil (fun i x H Hx ys hi sm hD hR y Qt Qf qt qf => ?_) (fun H ys sm hD hR => ?_)
  · obtain ⟨l, hl⟩ : ∃ l, ls[i]? = some l := ⟨ls[i]'(by omega), by simp [show i < ls.length by omega]⟩
    refine hs i x H Hx ys l hl sm hD y Qt Qf (fun y H4 b hb s4 r => ?_) (fun hb H3 s3 => ?_)
    · refine qt y H4 s4 ?_
      rw [take_snoc hl, List.filterMap_append]
      show A2 _ _ (_ ++ List.filterMap f [l])
      rw [show List.filterMap f [l] = [b] by simp [hb]]
      exact A2.snoc (mono _ _ _ _ SameX.put r) (hR.mono fun _ _ z => mono _ _ _ _ ((sx s4).trans SameX.put) z)
    · refine qf H3 s3 ?_
      rw [take_snoc hl, List.filterMap_append]
      show A2 _ _ (_ ++ List.filterMap f [l])
      rw [show List.filterMap f [l] = [] by simp [hb], List.append_nil]
      exact hR.mono fun _ _ z => mono _ _ _ _ (sx s3) z
  · rw [List.take_of_length_le (by omega)] at hR
    exact hd H ys sm hD hR
end
/-- a text so many times -/
theorem op_mulS {X : Cx} : OpR X (binaryOp .Mult) (fun x y H Q => ∃ (z : Str) (n : Int), x = .str z ∧ y = .int n ∧ z.length ≤ 1 ∧ -1000 ≤ n ∧ n ≤ 1000 ∧ Q (.str (Txt.mul z n)) H) := by
  intro pins s σ H x y v u Q I rx ry h
  obtain ⟨z, n, rfl, rfl, h1, h2, h3, q⟩ := h
  obtain ⟨t, rfl⟩ := rx
  obtain ⟨t', rfl⟩ := ry
  exact SB.mul (mulOk_of 1 1000 h1 h3 (by omega) (by decide) (by decide)) fun t k => ⟨.str _, H, I.tok _, ⟨_, rfl⟩, q⟩
def rLenS (K : PySem.W.Frag) : List V → Hp → VK → Prop := fun xs H Q => ∃ p ys, xs = [.ref p] ∧ (SqL K H p ys ∨ SqT K H p ys) ∧ Q (.int (ys.length : Nat)) H
theorem call_lenC {X : Cx} : CallR X (.builtin "len") (rLenS X.K) := call_len_seq
theorem r65 {k : Nat} {A : Around} (r : Room k A) : A.units + 65 < cLine := by have := r.un; omega
theorem log_small {n : Nat} (h : n < 2 ^ 30) : n.log2 < 1920 := by
  rcases Nat.eq_zero_or_pos n with rfl | p
  · decide
  · exact Nat.lt_of_lt_of_le ((Nat.log2_lt (by omega)).mpr h) (by decide)
/-! ### number tables -/
/-- a table of numbers: a list of lists -/
def NT (H : Hp) (p : Addr) (T : List (List Int)) : Prop := ∃ as : List Addr, H p = some (.lst (as.map V.ref)) ∧ A2 (fun a x => IL H a x) as T
theorem NT.same {H H' : Hp} {p : Addr} {T : List (List Int)} (s : Same H H') (h : NT H p T) : NT H' p T := let ⟨as, a, b⟩ := h; ⟨as, s _ _ a, b.mono fun _ _ z => z.same s⟩
theorem il_x {H H' : Hp} {q a : Addr} {x : List Int} {ys : List V} (n : a ≠ q) (s : SameX q H H') (h : IL H a x) : IL H' a x := s _ _ n h
theorem NT.row {H : Hp} {p : Addr} {T : List (List Int)} (h : NT H p T) {k : Nat} {x : List Int} (hk : T[k]? = some x) : ∃ (as : List Addr) (a : Addr), H p = some (.lst (as.map V.ref)) ∧ atI (as.map V.ref) ((k : Nat) : Int) = some (.ref a) ∧ as[k]? = some a ∧ IL H a x := by
  obtain ⟨as, hp, hA⟩ := h
  obtain ⟨a, ha, hx⟩ := hA.get' hk
  refine ⟨as, a, hp, atI_nat ?_, ha, hx⟩
  rw [List.getElem?_map, ha]
  rfl
theorem il_at {x : List Int} {j : Nat} (h : j < x.length) : atI (x.map V.int) ((j : Nat) : Int) = some (.int (DT.fn x j)) := by
  refine atI_nat ?_
  rw [List.getElem?_map, List.getElem?_eq_getElem h]
  show some (V.int x[j]) = some (V.int (x.getD j 0))
  rw [List.getD_eq_getElem?_getD, List.getElem?_eq_getElem h]
  rfl
theorem log_lt {n m : Nat} (h : n < 2 ^ m) (hm : 0 < m) : n.log2 < m := by
  rcases Nat.eq_zero_or_pos n with rfl | z
  · rw [Nat.log2_zero]; exact hm
  · exact (Nat.log2_lt (by omega)).mpr h
def rListC (K : PySem.W.Frag) : List V → Hp → VK → Prop := fun xs H Q => ∃ p ys, xs = [.ref p] ∧ (SqL K H p ys ∨ SqT K H p ys) ∧ ∀ l, H l = none → Q (.ref l) (upd H l (.lst ys))
theorem call_listC {X : Cx} : CallR X (.type "list") (rListC X.K) := call_list_of
theorem take_all {α : Type} {p : α → Prop} {xs : List α} {i : Nat} {x : α} (h : xs[i]? = some x) (a : ∀ y ∈ xs.take i, p y) (b : p x) : ∀ y ∈ xs.take (i + 1), p y := fun y hy => by
  rw [take_snoc h] at hy
  rcases List.mem_append.mp hy with hy | hy
  · exact a y hy
  · rw [List.mem_singleton.mp hy]; exact b
structure Tbs (base : Heap) {K : PySem.W.Frag} {mg : Str → Option Value} (T : Txt K mg) (Ps : List Addr) where
  p1 : Addr
  p2 : Addr
  is_square : GxR.TabB base mg T.is_square.c p1
  solved : GxR.TabB base mg T.solved.c p2
  m1 : p1 ∈ Ps
  m2 : p2 ∈ Ps
theorem NT.lk {H H' : Hp} {p : Addr} {T : List (List Int)} (s : Lk H H') (h : NT H p T) : NT H' p T := let ⟨as, a, b⟩ := h; ⟨as, s.lst a, b.mono fun _ _ z => s.lst z⟩

end K67
-- C7
namespace K67
open PySem PySem.Spec PyProof.Rows L2
section
variable {P : Program} {w : World} {K : PySem.W.Frag} {mg : Str → Option Value} {base : Heap}
/-! ### the elimination -/
def sp_first_row : Sp := fun vs H Q _ => ∃ (p : Addr) (T : List (List Int)) (r c L : Nat), vs = [.ref p, .int (r : Nat), .int (c : Nat)] ∧ NT H p T ∧ (∀ x ∈ T, x.length = L) ∧ c < L ∧ T.length ≤ 1000 ∧ r ≤ T.length ∧
  (∀ (k : Nat) (x : List Int), r ≤ k → T[k]? = some x → DT.fn x c ≠ 0 → Q (.int (k : Nat)) H) ∧ ((∀ (k : Nat) (x : List Int), r ≤ k → T[k]? = some x → DT.fn x c = 0) → Q .non H)
theorem ok_first_row (T : Txt K mg) : FnOk P w K mg base CX0 1 T.first_row.a T.first_row.fd ["rows", "start", "column"] sp_first_row := by
  refine T.first_row.F.ok sc_first_row (fun vs H Q E h => ?_) (fun cdv A outer s H vs Q E hr h => ?_)
  · obtain ⟨p, rows, r, c, L, rfl, _⟩ := h
    rfl
  · obtain ⟨p, rows, r, c, L, rfl, hT, hL, hc, hn, hr1, q1, q0⟩ := h
    refine ⟨_, (pss_cons (ps_for PassesOwn.never rfl (pi_range2 (by rfl) T.m_range (pa_cons (pv 1) (pa_cons (pe_callB call_len_seq (by rfl) T.m_len (by decide +kernel) (pa_cons (pv 0) pa_nil)) pa_nil))) (pg_name (i := 3) sc_first_row.nd rfl (.inl rfl))
        (pss_one (ps_if (pt_cmpR op_ne (pe_ix ix_list (pe_ix ix_list (pv 0) (pv 3) (fun _ _ => rfl)) (pv 2) (fun _ _ => rfl)) pe_int (nomark _))
          (pss_one (ps_ret (pv 3)))
          pss_nil)))
      (pss_one (ps_ret pe_non))), ?_⟩
    have len : ∀ as : List Addr, H p = some (.lst (as.map V.ref)) → A2 (fun a x => IL H a x) as rows → as.length = rows.length := fun as _ h => h.len
    obtain ⟨as, hp, hA⟩ := id hT
    have el := hA.len
    refine ⟨_, rfl, .ref p, rfl, p, _, rfl, .inl (.of hp), (r : Nat), (rows.length : Nat), by rw [List.length_map, el], ⟨by omega, by omega, by omega, by omega⟩, ?_⟩
    refine for_range (n := ((rows.length : Int) - (r : Int)).toNat) (lo := (r : Int)) (fun i σ G => G = H ∧ (∃ x3, σ = [some (.ref p), some (.int (r : Nat)), some (.int (c : Nat)), x3]) ∧ ∀ (k : Nat) (x : List Int), r ≤ k → k < r + i → rows[k]? = some x → DT.fn x c = 0) ⟨rfl, ⟨none, rfl⟩, fun k x h1 h2 => by omega⟩ (fun i σ G hi hP => ?_) (fun σ G hP => ?_)
    · obtain ⟨rfl, ⟨x3, rfl⟩, hz⟩ := hP
      have hk : r + i < rows.length := by omega
      obtain ⟨as2, a, hp2, ha, _, hx⟩ := hT.row (List.getElem?_eq_getElem hk)
      have lx := hL _ (List.getElem_mem hk)
      rw [show (r : Int) + (i : Int) = ((r + i : Nat) : Int) by omega]
      refine ⟨.ref p, rfl, _, rfl, p, _, _, _, rfl, rfl, .of hp2, ha, _, rfl, a, _, _, _, rfl, rfl, hx.sq, il_at (by rw [lx]; exact hc), rfl, _, rfl, ?_⟩
      refine ite2 (fun h => ?_) (fun h => ?_)
      · exact ⟨_, rfl, q1 (r + i) _ (by omega) (List.getElem?_eq_getElem hk) fun z => by rw [z] at h; exact absurd h (by decide)⟩
      · refine ⟨rfl, ⟨_, rfl⟩, fun k x h1 h2 h3 => ?_⟩
        rcases Nat.lt_or_ge k (r + i) with z | z
        · exact hz k x h1 z h3
        · have : k = r + i := by omega
          subst this
          rw [List.getElem?_eq_getElem hk] at h3
          cases h3
          have h := Bool.eq_false_iff.mpr h
          by_cases e : DT.fn rows[r + i] c = 0
          · exact e
          · rw [decide_eq_false (fun z => e (V.int.inj z))] at h
            exact absurd h (by decide)
    · obtain ⟨rfl, ⟨x3, rfl⟩, hz⟩ := hP
      exact q0 fun k x h1 h2 => hz k x h1 (by have := (List.getElem?_eq_some_iff.mp h2).1; omega) h2
def sp_lowered : Sp := fun vs H Q _ => ∃ (a b : Addr) (x p : List Int) (c : Nat) (last : Int), vs = [.ref a, .ref b, .int (c : Nat), .int last] ∧ IL H a x ∧ IL H b p ∧ x.length = p.length ∧ c < x.length ∧ x.length ≤ 1000 ∧ last ≠ 0 ∧ last.natAbs < 2 ^ 8000 ∧ (∀ j, (DT.fn x j).natAbs < 2 ^ 8000) ∧ (∀ j, (DT.fn p j).natAbs < 2 ^ 8000) ∧
  ∀ H' q, Same H H' → H q = none → IL H' q (DT.low x.length (DT.fn p c) (DT.fn x c) last x p) → Q (.ref q) H'
theorem ok_lowered (T : Txt K mg) : FnOk P w K mg base CX0 1 T.lowered.a T.lowered.fd ["row", "pivot", "column", "last"] sp_lowered := by
  refine T.lowered.F.ok sc_lowered (fun vs H Q E h => ?_) (fun cdv A outer s H vs Q E hr h => ?_)
  · obtain ⟨a, b, x, p, c, last, rfl, _⟩ := h
    rfl
  · obtain ⟨a, b, x, p, c, last, rfl, ha, hb, el, hc, hn, nl, bl, bx, bp, q⟩ := h
    refine ⟨_, (pss_cons (ps_asg (pe_tup (pa_cons (pe_ix ix_list (pv 1) (pv 2) (fun _ _ => rfl)) (pa_cons (pe_ix ix_list (pv 0) (pv 2) (fun _ _ => rfl)) pa_nil))) (pg_tup rfl (pgs_cons (pg_name (i := 4) sc_lowered.nd rfl (.inr rfl)) (pgs_cons (pg_name (i := 5) sc_lowered.nd rfl (.inr rfl)) pgs_nil))))
      (pss_one (ps_ret (pe_lc (own := [("own", 6), ("other", 7)]) (g := gTup K 2 (gCons (gName 6) (gCons (gName 7) gNil))) rfl sc_lowered.nd (pi_zip (by rfl) T.m_zip (pa_cons (pv 0) (pa_cons (pv 1) pa_nil))) (blkOk_by (N := ["row", "pivot", "column", "last", "up", "down", "own", "other"]) (sc := defScope s_lowered) (by decide +kernel)) (fun _ _ _ _ _ => (pg_tup rfl (pgs_cons (pg_name (i := 6) sc_lowered.nd rfl (.inl rfl)) (pgs_cons (pg_name (i := 7) sc_lowered.nd rfl (.inl rfl)) pgs_nil)))) (fun _ _ _ _ _ => pts_nil) (fun _ _ _ _ _ => (pe_op LX.op_fdivWN (pe_op op_sub (pe_op op_mulW (pv 4) (pv 6)) (pe_op op_mulW (pv 5) (pv 7))) (pv 3))))))), ?_⟩
    refine ⟨.ref b, rfl, _, rfl, b, _, _, _, rfl, rfl, hb.sq, il_at (el ▸ hc), .ref a, rfl, _, rfl, a, _, _, _, rfl, rfl, ha.sq, il_at hc, by show 2 ≤ sizeLine; decide, fun t nt => ?_⟩
    have s1 := same_upd nt (o := .tup [V.int (DT.fn p c), V.int (DT.fn x c)])
    refine ⟨t, _, rfl, .of upd_same, rfl, _, _, rfl, _, _, rfl, rfl, .ref a, rfl, .ref b, rfl, a, b, _, _, rfl, (ha.same s1).sq, (hb.same s1).sq, fun D nD => ?_⟩
    have lz : min (x.map V.int).length (p.map V.int).length = x.length := by rw [List.length_map, List.length_map]; omega
    refine lc_inv (walk_zip (n := x.length) lz.symm) (fun i G ys => ys = ((List.range i).map fun j => V.int ((DT.fn p c * DT.fn x j - DT.fn x c * DT.fn p j).fdiv last))) nD (fun G s => ⟨((ha.same s1).same s).sq, ((hb.same s1).same s).sq⟩) (small' (by omega)) rfl (fun i y G Hx ys hi sm hD hR yy Qt Qf qt qf => ?_) (fun G ys sm hD hR => ?_)
    · obtain ⟨u, x1, y1, rfl, nu, rfl, h1, h2⟩ := yy
      have e1 : x1 = V.int (DT.fn x i) := by
        have h1 : (x.map V.int)[i]? = some x1 := h1
        rw [List.getElem?_map, List.getElem?_eq_getElem hi] at h1
        cases h1
        show V.int x[i] = V.int (x.getD i 0)
        rw [List.getD_eq_getElem?_getD, List.getElem?_eq_getElem hi]; rfl
      have e2 : y1 = V.int (DT.fn p i) := by
        have h2 : (p.map V.int)[i]? = some y1 := h2
        rw [List.getElem?_map, List.getElem?_eq_getElem (el ▸ hi)] at h2
        cases h2
        show V.int p[i] = V.int (p.getD i 0)
        rw [List.getD_eq_getElem?_getD, List.getElem?_eq_getElem (el ▸ hi)]; rfl
      subst e1 e2
      have lg : ∀ z : Int, z.natAbs < 2 ^ 8000 → z.natAbs.log2 < 8000 := fun z h => log_lt h (by decide)
      have cm : ∀ z y : Int, z.natAbs < 2 ^ 8000 → y.natAbs < 2 ^ 8000 → z.natAbs.log2 + y.natAbs.log2 < 1000000 := fun z y h1 h2 => by
        have := lg z h1
        have := lg y h2
        omega
      refine ⟨u, _, rfl, .of upd_same, rfl, _, _, rfl, _, _, rfl, rfl, rfl, _, rfl, _, rfl, _, _, rfl, rfl, cm _ _ (bp c) (bx i), _, rfl, _, rfl, _, _, rfl, rfl, cm _ _ (bx c) (bp i), _, _, rfl, rfl, _, rfl, _, _, rfl, rfl, ⟨nl, Nat.lt_trans (lg _ bl) (by decide)⟩, ?_⟩
      refine qt _ _ (same_upd nu) ?_
      rw [List.range_succ, List.map_append, hR]
      rfl
    · have e : DT.low x.length (DT.fn p c) (DT.fn x c) last x p = (List.range x.length).map fun j => (DT.fn p c * DT.fn x j - DT.fn x c * DT.fn p j).fdiv last := rfl
      refine q _ D (s1.trans sm) (s1.free nD) ?_
      unfold IL
      rw [e, List.map_map, hD, hR]
      rfl
end
end K67
-- D7
namespace K67
open PySem PySem.Spec PyProof.Rows L2
section
variable {P : Program} {w : World} {K : PySem.W.Frag} {mg : Str → Option Value} {base : Heap}
/-- a table of numbers whose rows are none of q -/
def NX (q : Addr) (H : Hp) (T : List (List Int)) (as : List Addr) : Prop := H q = some (.lst (as.map V.ref)) ∧ A2 (fun a x => a ≠ q ∧ IL H a x) as T
theorem NX.nt {q : Addr} {H : Hp} {T : List (List Int)} {as : List Addr} (h : NX q H T as) : NT H q T := ⟨as, h.1, h.2.mono fun _ _ z => z.2⟩
theorem NX.same {q : Addr} {H H' : Hp} {T : List (List Int)} {as : List Addr} (s : Same H H') (h : NX q H T as) : NX q H' T as := ⟨s _ _ h.1, h.2.mono fun _ _ z => ⟨z.1, z.2.same s⟩⟩
theorem A2.set {α β : Type} {R : α → β → Prop} {a : α} {b : β} (h : R a b) : ∀ {as : List α} {bs : List β} {j : Nat}, A2 R as bs → A2 R (as.set j a) (bs.set j b)
  | _, _, _, .nil => .nil
  | _, _, 0, .cons x t => .cons h t
  | _, _, j + 1, .cons x t => .cons x (A2.set h t)
theorem NX.put {q a : Addr} {H : Hp} {T : List (List Int)} {as : List Addr} {x : List Int} {k : Nat} (h : NX q H T as) (n : a ≠ q) (hx : IL H a x) : NX q (upd H q (.lst ((as.map V.ref).set k (.ref a)))) (T.set k x) (as.set k a) := by
  refine ⟨by rw [upd_same, List.map_set], A2.set ⟨n, ?_⟩ (h.2.mono fun b y z => ⟨z.1, ?_⟩)⟩
  · exact (upd_ne n).trans hx
  · exact (upd_ne z.1).trans z.2
theorem NX.row {q : Addr} {H : Hp} {T : List (List Int)} {as : List Addr} (h : NX q H T as) {k : Nat} {x : List Int} (hk : T[k]? = some x) : ∃ a, atI (as.map V.ref) ((k : Nat) : Int) = some (.ref a) ∧ as[k]? = some a ∧ a ≠ q ∧ IL H a x := by
  obtain ⟨a, ha, n, hx⟩ := h.2.get' hk
  refine ⟨a, atI_nat ?_, ha, n, hx⟩
  rw [List.getElem?_map, ha]
  rfl
def sp_triangle (K : PySem.W.Frag) : Sp := fun vs H Q _ => ∃ (p : Addr) (T : List (List Int)) (L w M N : Nat), vs = [.ref p, .int (w : Nat)] ∧ NT H p T ∧ (∀ x ∈ T, x.length = L) ∧ w ≤ L ∧ L ≤ 1000 ∧ T.length ≤ N ∧ N ≤ 1000 ∧ (∀ x ∈ T, DT.Lim M (DT.fn x)) ∧ 0 < N * M ∧ (N * M) ^ N < 2 ^ 8000 ∧
  ∀ H' t q rows r sign last cs P, Same H H' → DT.St T L w r rows sign last cs P → DT.Pv r rows cs → NT H' q rows → SqT K H' t [.ref q, .int (r : Nat), .int sign, .int last] → Q (.ref t) H'
theorem ok_triangle (T : Txt K mg) : FnOk P w K mg base CX0 2 T.triangle.a T.triangle.fd ["numbers", "width"] (sp_triangle K) := by
  refine T.triangle.F.ok sc_triangle (fun vs H Q E h => ?_) (fun cdv A outer s H vs Q E hr h => ?_)
  · obtain ⟨p, Tb, L, w, M, N, rfl, _⟩ := h
    rfl
  · obtain ⟨p, Tb, L, w, M, N, rfl, hT, hL, hw, hL1, hn, hN, lim, hM, hB, q⟩ := h
    refine ⟨_, (pss_cons (ps_setLc (i := 2) (own := [("row", 9)]) rfl sc_triangle.nd rfl rfl (sw_true rfl rfl rfl (by decide +kernel)) (pi_list (pv 0)) (blkOk_by (N := ["numbers", "width", "rows", "found", "sign", "last", "column", "at", "k", "row"]) (sc := defScope s_triangle) (by decide +kernel)) (fun _ _ _ _ _ => (pg_name (i := 9) sc_triangle.nd rfl (.inl rfl))) (fun _ _ _ _ _ => pts_nil) (fun _ _ _ _ _ => (pe_callTy (T := "list") (r := rListC K) call_listC (by rfl) T.m_list (by decide +kernel) (pa_cons (pv 9) pa_nil))))
      (pss_cons (ps_asg (pe_tup (pa_cons pe_int (pa_cons pe_int (pa_cons pe_int pa_nil)))) (pg_tup rfl (pgs_cons (pg_name (i := 3) sc_triangle.nd rfl (.inl rfl)) (pgs_cons (pg_name (i := 4) sc_triangle.nd rfl (.inl rfl)) (pgs_cons (pg_name (i := 5) sc_triangle.nd rfl (.inl rfl)) pgs_nil)))))
      (pss_cons (ps_for PassesOwn.never rfl (pi_range1 (by rfl) T.m_range (pa_cons (pv 1) pa_nil)) (pg_name (i := 6) sc_triangle.nd rfl (.inl rfl))
        (pss_cons (ps_set (i := 7) sc_triangle.nd rfl (.inl rfl) (pe_call (ok_first_row T) (hr.mono (by decide)) (by rfl) T.first_row.g T.first_row.F.kp T.first_row.b .nil pass0 (pa_cons (pv 2) (pa_cons (pv 3) (pa_cons (pv 6) pa_nil)))))
        (pss_cons (ps_if (pt_cmpR op_isN (pv 7) pe_non (nomark _))
          (pss_one ps_continue)
          pss_nil)
        (pss_cons (ps_if (pt_cmpR op_ne (pv 7) (pv 3) (nomark _))
          (pss_cons (ps_asg (pe_tup (pa_cons (pe_ix ix_list (pv 2) (pv 7) (fun _ _ => rfl)) (pa_cons (pe_ix ix_list (pv 2) (pv 3) (fun _ _ => rfl)) pa_nil))) (pg_tup rfl (pgs_cons (pg_sub (pv 2) (pv 3) set_list) (pgs_cons (pg_sub (pv 2) (pv 7) set_list) pgs_nil))))
          (pss_one (ps_set (i := 4) sc_triangle.nd rfl (.inl rfl) (pe_un un_neg (pv 4)))))
          pss_nil)
        (pss_cons (ps_for PassesOwn.never rfl (pi_range2 (by rfl) T.m_range (pa_cons (pe_op op_add (pv 3) pe_int) (pa_cons (pe_callB call_len_seq (by rfl) T.m_len (by decide +kernel) (pa_cons (pv 2) pa_nil)) pa_nil))) (pg_name (i := 8) sc_triangle.nd rfl (.inl rfl))
          (pss_one (ps_asg (pe_call (ok_lowered T) (hr.mono (by decide)) (by rfl) T.lowered.g T.lowered.F.kp T.lowered.b .nil pass0 (pa_cons (pe_ix ix_list (pv 2) (pv 8) (fun _ _ => rfl)) (pa_cons (pe_ix ix_list (pv 2) (pv 3) (fun _ _ => rfl)) (pa_cons (pv 6) (pa_cons (pv 5) pa_nil))))) (pg_sub (pv 2) (pv 8) set_list))))
        (pss_cons (ps_set (i := 5) sc_triangle.nd rfl (.inl rfl) (pe_ix ix_list (pe_ix ix_list (pv 2) (pv 3) (fun _ _ => rfl)) (pv 6) (fun _ _ => rfl)))
        (pss_one (ps_aug (i := 3) sc_triangle.nd rfl (.inl rfl) pe_int ip_add))))))))
      (pss_one (ps_ret (pe_tup (pa_cons (pv 2) (pa_cons (pv 3) (pa_cons (pv 4) (pa_cons (pv 5) pa_nil)))))))))), ?_⟩
    obtain ⟨as0, hp, hA⟩ := id hT
    have el0 := hA.len
    refine ⟨.ref p, rfl, p, rfl, ⟨_, .of hp⟩, fun D nD => ?_⟩
    refine lc_inv (walk_list (xs := as0.map V.ref)) (fun i G ys => ∃ as : List Addr, ys = as.map V.ref ∧ A2 (fun a x => a ≠ D ∧ IL G a x) as (Tb.take i)) nD (fun G s => .of (s _ _ hp)) (small' (by rw [List.length_map]; omega)) ⟨[], rfl, .nil⟩ (fun i y G Hx ys hi sm hD hR yy Qt Qf qt qf => ?_) (fun G ys sm hD hR => ?_)
    · obtain ⟨rfl, hx⟩ := yy
      obtain ⟨as, rfl, hA2⟩ := hR
      have hx2 : (as0.map V.ref)[i]? = some y := hx
      rw [List.getElem?_map] at hx2
      cases e : as0[i]? with
      | none => rw [e] at hx2; cases hx2
      | some a =>
        rw [e] at hx2
        cases hx2
        obtain ⟨x, ex, ha⟩ := hA.get e
        have ha2 := ha.same sm
        refine ⟨rfl, _, rfl, a, _, rfl, .inl ha2.sq, fun l nl => ?_⟩
        have lD : l ≠ D := fun z => by rw [z, hD] at nl; cases nl
        refine qt _ _ (same_upd nl) ⟨as ++ [l], by rw [List.map_append]; rfl, ?_⟩
        rw [take_snoc ex]
        refine A2.snoc ⟨lD, (upd_ne lD).trans upd_same⟩ (hA2.mono fun b y z => ⟨z.1, (upd_ne z.1).trans (z.2.same (same_upd nl))⟩)
    · obtain ⟨as, rfl, hA2⟩ := hR
      rw [List.take_of_length_le (by rw [List.length_map]; omega)] at hA2
      have nx0 : NX D G Tb as := ⟨hD, hA2⟩
      refine ⟨by show 3 ≤ sizeLine; decide, fun t nt => ⟨t, _, rfl, .of upd_same, rfl, _, _, rfl, _, _, rfl, _, _, rfl, rfl, ?_⟩⟩
      have st := same_upd nt (o := .tup [V.int 0, V.int 1, V.int 1])
      have nx1 := nx0.same st
      have sH := sm.trans st
      generalize upd G t _ = G0 at nx1 sH
      refine ⟨_, rfl, (w : Nat), rfl, by omega, by omega, ?_⟩
      rw [Int.toNat_natCast]
      refine for_range (n := w) (lo := 0) (fun i σ G => SameX D G0 G ∧ ∃ (r : Nat) (rows : List (List Int)) (sign last : Int) (cs : List Nat) (P : List (List Int)) (as : List Addr) (x6 x7 x8 : Option V), σ = [some (.ref p), some (.int (w : Nat)), some (.ref D), some (.int (r : Nat)), some (.int sign), some (.int last), x6, x7, x8, none] ∧ DT.St Tb L i r rows sign last cs P ∧ DT.Pv r rows cs ∧ NX D G rows as)
        ⟨fun _ _ _ h => h, 0, Tb, 1, 1, [], Tb, as, none, none, none, rfl, .init hL, .init _, nx1⟩ (fun i σ G hi hP => ?_) (fun σ G hP => ?_)
      · obtain ⟨sx, r, rows, sign, last, cs, P, as, x6, x7, x8, rfl, st, pv0, nx⟩ := hP
        have bd := st.bound hM lim hn
        have lenR : rows.length = Tb.length := st.len.trans st.perm.length_eq
        have lr := st.rn
        rw [← st.len] at lr
        have hiL : i < L := by omega
        have rl : ∀ x ∈ rows, x.length = L := fun x hx => by
          obtain ⟨k, hk⟩ := List.mem_iff_getElem?.mp hx
          have kl : k < P.length := st.len ▸ (List.getElem?_eq_some_iff.mp hk).1
          by_cases hkr : k < r
          · rw [st.tp k x _ hkr hk (List.getElem?_eq_getElem kl), DT.rowOf_len]
          · rw [st.lo k x _ (by omega) hk (List.getElem?_eq_getElem kl), DT.rowOf_len]
        rw [show (0 : Int) + (i : Int) = ((i : Nat) : Int) by omega]
        refine ⟨.ref D, rfl, _, rfl, _, rfl, D, rows, r, i, L, rfl, nx.nt, rl, hiL, by omega, lr, fun k0 pv hk hpv hne => ?_, fun hz => ?_⟩
        · refine ⟨_, rfl, rfl, _, rfl, ?_⟩
          rw [decide_eq_false (fun z => nomatch z)]
          refine iteF ?_
          have hk0 : k0 < rows.length := (List.getElem?_eq_some_iff.mp hpv).1
          refine ⟨_, rfl, _, rfl, rfl, _, rfl, ?_⟩
          refine ite2 (fun hd => ?_) (fun hd => ?_)
          · have hkr : r < k0 := by
              rcases Nat.lt_or_ge r k0 with z | z
              · exact z
              · have : k0 = r := by omega
                subst this
                rw [decide_eq_true rfl] at hd
                cases hd
            have hr0 : r < rows.length := by omega
            have er := List.getElem?_eq_getElem hr0
            obtain ⟨ak, hak, hak2, nk, hxk⟩ := nx.row hpv
            obtain ⟨ar, har, har2, nr, hxr⟩ := nx.row er
            have elen := nx.2.len
            refine ⟨.ref D, rfl, _, rfl, D, _, _, _, rfl, rfl, .of nx.1, hak, .ref D, rfl, _, rfl, D, _, _, _, rfl, rfl, .of nx.1, har, by show 2 ≤ sizeLine; decide, fun u nu => ?_⟩
            have su := same_upd nu (o := .tup [V.ref ak, V.ref ar])
            have nxu := nx.same su
            refine ⟨u, _, rfl, .of upd_same, rfl, _, _, rfl, .ref D, rfl, _, rfl, D, _, _, _, rfl, rfl, nxu.1, ix_ok rfl (by rw [List.length_map]; omega), ?_⟩
            have nxa := nxu.put (k := r) nk (hxk.same su)
            refine ⟨_, _, rfl, .ref D, rfl, _, rfl, D, _, _, _, rfl, rfl, nxa.1, ix_ok rfl (by rw [List.length_map, List.length_set]; omega), ?_⟩
            have hxr2 : IL (upd (upd G u (.tup [V.ref ak, V.ref ar])) D (.lst ((as.map V.ref).set r (.ref ak)))) ar rows[r] := (upd_ne nr).trans (hxr.same su)
            have nxb := nxa.put (k := k0) nr hxr2
            have sx1 := ((sx.trans (K67.sx su)).trans (SameX.put (D := D) (o := .lst ((as.map V.ref).set r (.ref ak))))).trans (SameX.put (D := D) (o := .lst (((as.set r ak).map V.ref).set k0 (.ref ar))))
            rw [← DT.swp_some er hpv] at nxb
            refine ⟨rfl, _, rfl, _, rfl, ?_⟩
            generalize upd (upd (upd G u _) D _) D _ = G1 at nxb sx1
            have st1 := st.swap hkr hk0
            have pv1 := pv0.swap hkr hk0
            have nx1 := nxb
            have bd1 := st1.bound hM lim hn
            have lenR1 : (DT.swp rows r k0).length = Tb.length := by rw [DT.swp_len, lenR]
            have hpr : (DT.swp rows r k0)[r]? = some pv := by rw [DT.swp_get hr0 hk0, if_neg (by omega), if_pos rfl, hpv]
            have rl1 : ∀ x ∈ DT.swp rows r k0, x.length = L := fun x hx => by
              rw [DT.swp_some er hpv] at hx
              rcases List.mem_or_eq_of_mem_set hx with hx | rfl
              · rcases List.mem_or_eq_of_mem_set hx with hx | rfl
                · exact rl x hx
                · exact rl _ (List.mem_of_getElem? hpv)
              · exact rl _ (List.getElem_mem hr0)
            have hkn : r < (DT.swp rows r k0).length := (List.getElem?_eq_some_iff.mp hpr).1
            have elen := nx1.2.len
            refine ⟨_, rfl, _, _, rfl, rfl, .ref D, rfl, D, _, rfl, .inl (.of nx1.1), ((r : Nat) + 1 : Int), ((DT.swp rows r k0).length : Nat), by rw [List.length_map, elen], ⟨by omega, by omega, by omega, by omega⟩, ?_⟩
            refine for_range (n := (((DT.swp rows r k0).length : Int) - ((r : Int) + 1)).toNat) (lo := (r : Int) + 1) (fun j σ G2 => SameX D G1 G2 ∧ ∃ (rows3 : List (List Int)) (as3 : List Addr) (x8 : Option V), σ = [some (.ref p), some (.int (w : Nat)), some (.ref D), some (.int (r : Nat)), some (.int (-sign)), some (.int last), some (.int (i : Nat)), some (.int (k0 : Nat)), x8, none] ∧ NX D G2 rows3 as3 ∧ rows3.length = (DT.swp rows r k0).length ∧ ∀ m, rows3[m]? = if r < m ∧ m < r + 1 + j then (DT.swp rows r k0)[m]?.map (fun x => DT.low L (DT.fn pv i) (DT.fn x i) last x pv) else (DT.swp rows r k0)[m]?)
              ⟨fun _ _ _ h => h, (DT.swp rows r k0), ((as.set r ak).set k0 ar), _, rfl, nx1, rfl, fun m => by rw [if_neg (by omega)]⟩ (fun j σ G2 hj hP2 => ?_) (fun σ G2 hP2 => ?_)
            · obtain ⟨sx2, rows3, as3, x8', rfl, nx3, l3, h3⟩ := hP2
              have hm : r + 1 + j < (DT.swp rows r k0).length := by omega
              have e1 := h3 (r + 1 + j)
              rw [if_neg (by omega), List.getElem?_eq_getElem hm] at e1
              have e2 := h3 r
              rw [if_neg (by omega), hpr] at e2
              obtain ⟨ak, hak, _, nk, hxk⟩ := nx3.row e1
              obtain ⟨ar, har, _, nr, hxr⟩ := nx3.row e2
              have lk := rl1 _ (List.getElem_mem hm)
              have lp := rl1 _ (List.mem_of_getElem? hpr)
              rw [show (r : Int) + 1 + (j : Int) = ((r + 1 + j : Nat) : Int) by omega]
              refine ⟨.ref D, rfl, _, rfl, D, _, _, _, rfl, rfl, .of nx3.1, hak, .ref D, rfl, _, rfl, D, _, _, _, rfl, rfl, .of nx3.1, har, _, rfl, _, rfl, ak, ar, _, pv, i, last, rfl, hxk, hxr, by rw [lk, lp], by rw [lk]; exact hiL, by omega, st1.ne, Nat.lt_of_le_of_lt bd1.2 hB, fun j => Nat.lt_of_le_of_lt (bd1.1 _ (List.getElem_mem hm) j) hB, fun j => Nat.lt_of_le_of_lt (bd1.1 _ (List.mem_of_getElem? hpr) j) hB, fun G3 u s3 nu hu => ?_⟩
              have uD : u ≠ D := fun z => by rw [z, nx3.1] at nu; cases nu
              have nx4 := nx3.same s3
              have l3a := nx4.2.len
              refine ⟨.ref D, rfl, _, rfl, D, _, _, _, rfl, rfl, nx4.1, ix_ok rfl (by rw [List.length_map]; omega), ?_⟩
              rw [lk] at hu
              refine ⟨(sx2.trans (K67.sx s3)).trans SameX.put, _, _, _, rfl, nx4.put uD hu, by rw [List.length_set, l3], fun m => ?_⟩
              rw [List.getElem?_set]
              by_cases em : r + 1 + j = m
              · subst em
                rw [if_pos rfl, if_pos (by omega), if_pos ⟨by omega, by omega⟩, List.getElem?_eq_getElem hm]
                rfl
              · rw [if_neg em, h3 m]
                by_cases z : r < m ∧ m < r + 1 + j
                · rw [if_pos z, if_pos ⟨z.1, by omega⟩]
                · rw [if_neg z, if_neg (by omega)]
            · obtain ⟨sx2, rows3, as3, x8', rfl, nx3, l3, h3⟩ := hP2
              have h3' : ∀ m, rows3[m]? = if m ≤ r then (DT.swp rows r k0)[m]? else (DT.swp rows r k0)[m]?.map (fun x => DT.low L (DT.fn pv i) (DT.fn x i) last x pv) := fun m => by
                rw [h3 m]
                by_cases z : m ≤ r
                · rw [if_neg (by omega), if_pos z]
                · rw [if_neg z]
                  by_cases z2 : m < (DT.swp rows r k0).length
                  · rw [if_pos ⟨by omega, by omega⟩]
                  · rw [if_neg (by omega), List.getElem?_eq_none (by omega)]
                    rfl
              have e2 := h3' r
              rw [if_pos (Nat.le_refl _), hpr] at e2
              obtain ⟨ar, har, _, nr, hxr⟩ := nx3.row e2
              have lp := rl1 _ (List.mem_of_getElem? hpr)
              have st2 := st1.step hiL hpr hne l3 h3'
              refine ⟨.ref D, rfl, _, rfl, D, _, _, _, rfl, rfl, .of nx3.1, har, _, rfl, ar, _, _, _, rfl, rfl, hxr.sq, il_at (by rw [lp]; exact hiL), _, rfl, _, _, rfl, rfl, ?_⟩
              exact ⟨sx1.trans sx2, r + 1, rows3, (-sign), _, _, _, as3, _, _, _, rfl, st2, pv1.step hpr hne fun k hk => by rw [h3' k, if_pos hk], nx3⟩
          · have e : r = k0 := by
              rcases Decidable.em (k0 = r) with z | z
              · exact z.symm
              · exfalso
                apply hd
                rw [decide_eq_false (fun q => z (by have := V.int.inj q; omega))]
                rfl
            subst e
            have st1 := st
            have pv1 := pv0
            have nx1 := nx
            have bd1 := bd
            have rl1 := rl
            have sx1 := sx
            have hpr := hpv
            have lenR1 := lenR
            have hkn : r < rows.length := (List.getElem?_eq_some_iff.mp hpr).1
            have elen := nx1.2.len
            refine ⟨_, rfl, _, _, rfl, rfl, .ref D, rfl, D, _, rfl, .inl (.of nx1.1), ((r : Nat) + 1 : Int), (rows.length : Nat), by rw [List.length_map, elen], ⟨by omega, by omega, by omega, by omega⟩, ?_⟩
            refine for_range (n := ((rows.length : Int) - ((r : Int) + 1)).toNat) (lo := (r : Int) + 1) (fun j σ G2 => SameX D G G2 ∧ ∃ (rows3 : List (List Int)) (as3 : List Addr) (x8 : Option V), σ = [some (.ref p), some (.int (w : Nat)), some (.ref D), some (.int (r : Nat)), some (.int sign), some (.int last), some (.int (i : Nat)), some (.int (r : Nat)), x8, none] ∧ NX D G2 rows3 as3 ∧ rows3.length = rows.length ∧ ∀ m, rows3[m]? = if r < m ∧ m < r + 1 + j then rows[m]?.map (fun x => DT.low L (DT.fn pv i) (DT.fn x i) last x pv) else rows[m]?)
              ⟨fun _ _ _ h => h, rows, as, _, rfl, nx1, rfl, fun m => by rw [if_neg (by omega)]⟩ (fun j σ G2 hj hP2 => ?_) (fun σ G2 hP2 => ?_)
            · obtain ⟨sx2, rows3, as3, x8', rfl, nx3, l3, h3⟩ := hP2
              have hm : r + 1 + j < rows.length := by omega
              have e1 := h3 (r + 1 + j)
              rw [if_neg (by omega), List.getElem?_eq_getElem hm] at e1
              have e2 := h3 r
              rw [if_neg (by omega), hpr] at e2
              obtain ⟨ak, hak, _, nk, hxk⟩ := nx3.row e1
              obtain ⟨ar, har, _, nr, hxr⟩ := nx3.row e2
              have lk := rl1 _ (List.getElem_mem hm)
              have lp := rl1 _ (List.mem_of_getElem? hpr)
              rw [show (r : Int) + 1 + (j : Int) = ((r + 1 + j : Nat) : Int) by omega]
              refine ⟨.ref D, rfl, _, rfl, D, _, _, _, rfl, rfl, .of nx3.1, hak, .ref D, rfl, _, rfl, D, _, _, _, rfl, rfl, .of nx3.1, har, _, rfl, _, rfl, ak, ar, _, pv, i, last, rfl, hxk, hxr, by rw [lk, lp], by rw [lk]; exact hiL, by omega, st1.ne, Nat.lt_of_le_of_lt bd1.2 hB, fun j => Nat.lt_of_le_of_lt (bd1.1 _ (List.getElem_mem hm) j) hB, fun j => Nat.lt_of_le_of_lt (bd1.1 _ (List.mem_of_getElem? hpr) j) hB, fun G3 u s3 nu hu => ?_⟩
              have uD : u ≠ D := fun z => by rw [z, nx3.1] at nu; cases nu
              have nx4 := nx3.same s3
              have l3a := nx4.2.len
              refine ⟨.ref D, rfl, _, rfl, D, _, _, _, rfl, rfl, nx4.1, ix_ok rfl (by rw [List.length_map]; omega), ?_⟩
              rw [lk] at hu
              refine ⟨(sx2.trans (K67.sx s3)).trans SameX.put, _, _, _, rfl, nx4.put uD hu, by rw [List.length_set, l3], fun m => ?_⟩
              rw [List.getElem?_set]
              by_cases em : r + 1 + j = m
              · subst em
                rw [if_pos rfl, if_pos (by omega), if_pos ⟨by omega, by omega⟩, List.getElem?_eq_getElem hm]
                rfl
              · rw [if_neg em, h3 m]
                by_cases z : r < m ∧ m < r + 1 + j
                · rw [if_pos z, if_pos ⟨z.1, by omega⟩]
                · rw [if_neg z, if_neg (by omega)]
            · obtain ⟨sx2, rows3, as3, x8', rfl, nx3, l3, h3⟩ := hP2
              have h3' : ∀ m, rows3[m]? = if m ≤ r then rows[m]? else rows[m]?.map (fun x => DT.low L (DT.fn pv i) (DT.fn x i) last x pv) := fun m => by
                rw [h3 m]
                by_cases z : m ≤ r
                · rw [if_neg (by omega), if_pos z]
                · rw [if_neg z]
                  by_cases z2 : m < rows.length
                  · rw [if_pos ⟨by omega, by omega⟩]
                  · rw [if_neg (by omega), List.getElem?_eq_none (by omega)]
                    rfl
              have e2 := h3' r
              rw [if_pos (Nat.le_refl _), hpr] at e2
              obtain ⟨ar, har, _, nr, hxr⟩ := nx3.row e2
              have lp := rl1 _ (List.mem_of_getElem? hpr)
              have st2 := st1.step hiL hpr hne l3 h3'
              refine ⟨.ref D, rfl, _, rfl, D, _, _, _, rfl, rfl, .of nx3.1, har, _, rfl, ar, _, _, _, rfl, rfl, hxr.sq, il_at (by rw [lp]; exact hiL), _, rfl, _, _, rfl, rfl, ?_⟩
              exact ⟨sx1.trans sx2, r + 1, rows3, sign, _, _, _, as3, _, _, _, rfl, st2, pv1.step hpr hne fun k hk => by rw [h3' k, if_pos hk], nx3⟩
        · refine ⟨_, rfl, rfl, _, rfl, ?_⟩
          rw [decide_eq_true rfl]
          refine iteT ?_
          exact ⟨sx, r, rows, sign, last, cs, P, as, _, _, _, rfl, st.skip hiL hz, pv0, nx⟩
      · obtain ⟨sx, r, rows, sign, last, cs, P, as, x6, x7, x8, rfl, st, pv0, nx⟩ := hP
        have sF : Same H G := fun b o e => sx b o (fun z => by rw [z, nD] at e; cases e) (sH b o e)
        refine ⟨.ref D, rfl, _, rfl, _, rfl, _, rfl, by show 4 ≤ sizeLine; decide, fun u nu => ?_⟩
        have su := same_upd nu (o := .tup [V.ref D, V.int (r : Nat), V.int sign, V.int last])
        exact q _ u D rows r sign last cs P (sF.trans su) st pv0 ((nx.same su).nt) (.of upd_same)
end
end K67
-- E7
namespace K67
open PySem PySem.Spec PyProof.Rows L2
def dtm (Tb : List (List Int)) : Int := DT.dt (List.range Tb.length).reverse (Tb.map DT.fn)
/-- behind each row its side -/
def beside (Tb : List (List Int)) (xs : List Int) : List (List Int) := (Tb.zip xs).map fun p => p.1 ++ [p.2]
theorem beside_len {Tb : List (List Int)} {xs : List Int} (h : xs.length = Tb.length) : (beside Tb xs).length = Tb.length := by
  unfold beside
  rw [List.length_map, List.length_zip]
  omega
theorem beside_at {Tb : List (List Int)} {xs : List Int} {i : Nat} {x : List Int} {v : Int} (hx : Tb[i]? = some x) (hv : xs[i]? = some v) : (beside Tb xs)[i]? = some (x ++ [v]) := by
  unfold beside
  rw [List.getElem?_map, List.getElem?_zip_eq_some (z := (x, v)) |>.mpr ⟨hx, hv⟩]
  rfl
theorem beside_mem {Tb : List (List Int)} {xs : List Int} {y : List Int} (h : y ∈ beside Tb xs) : ∃ x v, x ∈ Tb ∧ v ∈ xs ∧ y = x ++ [v] := by
  obtain ⟨⟨x, v⟩, hp, rfl⟩ := List.mem_map.mp h
  exact ⟨x, v, (List.of_mem_zip hp).1, (List.of_mem_zip hp).2, rfl⟩
theorem fn_lt {x : List Int} {v : Int} {j : Nat} (h : j < x.length) : DT.fn (x ++ [v]) j = DT.fn x j := by
  unfold DT.fn
  rw [List.getD_eq_getElem?_getD, List.getD_eq_getElem?_getD, List.getElem?_append_left h]
theorem fn_end {x : List Int} {v : Int} : DT.fn (x ++ [v]) x.length = v := by
  unfold DT.fn
  rw [List.getD_eq_getElem?_getD, List.getElem?_append_right (Nat.le_refl _), Nat.sub_self]
  rfl
theorem lim_app {x : List Int} {v : Int} {M : Nat} (h : DT.Lim M (DT.fn x)) (hv : v.natAbs ≤ M) : DT.Lim M (DT.fn (x ++ [v])) := fun j => by
  rcases Nat.lt_trichotomy j x.length with z | z | z
  · rw [fn_lt z]; exact h j
  · rw [z, fn_end]; exact hv
  · unfold DT.fn
    rw [List.getD_eq_getElem?_getD, List.getElem?_eq_none (by rw [List.length_append]; show _ + 1 ≤ _; omega)]
    exact Nat.zero_le _
theorem beside_det {Tb : List (List Int)} {xs : List Int} (h : xs.length = Tb.length) (sq : ∀ x ∈ Tb, x.length = Tb.length) : DT.dt (List.range Tb.length).reverse ((beside Tb xs).map DT.fn) = dtm Tb := by
  have e : Tb.map DT.fn = (Tb.zip xs).map fun p => DT.fn p.1 := by
    have : (Tb.zip xs).map Prod.fst = Tb := List.map_fst_zip (by omega)
    have e2 := congrArg (List.map DT.fn) this
    rw [List.map_map] at e2
    exact e2.symm
  unfold dtm beside
  rw [e, List.map_map]
  refine DT.dt_agree (fun p hp j hj => ?_)
  have hj : j < Tb.length := List.mem_range.mp (List.mem_reverse.mp hj)
  exact fn_lt (by rw [sq _ (List.of_mem_zip hp).1]; exact hj)
section
variable {P : Program} {w : World} {K : PySem.W.Frag} {mg : Str → Option Value} {base : Heap}
def ones (xs : List Int) : List (List Int) := xs.map fun v => [v]
theorem cut_from {xs : List V} {z : Int} {L : Nat} (e : z = (L : Int)) (h : L ≤ xs.length) : cutV xs (some z) none = xs.drop L := by
  subst e
  unfold cutV
  rw [HT.sIx_none, HT.sIx_nat, Nat.min_eq_left h, List.take_of_length_le (by rw [List.length_drop]; omega)]
theorem cut_end {x : List Int} {n : Nat} (h : x.length = n + 1) : cutV (x.map V.int) (some ((n : Nat) : Int)) none = [V.int (DT.fn x n)] := by
  rw [cut_from rfl (by rw [List.length_map]; omega), ← List.map_drop, List.drop_eq_getElem_cons (by omega), List.drop_eq_nil_of_le (by omega)]
  show [V.int x[n]] = [V.int (x.getD n 0)]
  rw [List.getD_eq_getElem?_getD, List.getElem?_eq_getElem (by omega)]
  rfl
theorem one_at {i : Nat} {y z : V} (h : [z][i]? = some y) : i = 0 ∧ y = z := by
  match i, h with
  | 0, h => exact ⟨rfl, (Option.some.inj h).symm⟩
theorem A2.of_get {α β : Type} {R : α → β → Prop} : ∀ {as : List α} {bs : List β}, as.length = bs.length → (∀ (j : Nat) (a : α) (b : β), as[j]? = some a → bs[j]? = some b → R a b) → A2 R as bs
  | [], [], _, _ => .nil
  | [], _ :: _, e, _ => by simp at e
  | _ :: _, [], e, _ => by simp at e
  | a :: as, b :: bs, e, h => .cons (h 0 a b rfl rfl) (A2.of_get (by simpa using e) fun j x y hx hy => h (j + 1) x y hx hy)
/-- the numbers found so far, from lo on, each in a list of its own -/
structure FD (n : Nat) (D : Addr) (G : Hp) (as : List Addr) (S : Nat → Int) (lo : Nat) : Prop where
  hD : G D = some (.lst (as.map V.ref))
  len : as.length = n
  at' : ∀ (m : Nat) (a : Addr), lo ≤ m → as[m]? = some a → a ≠ D ∧ IL G a [S m]
theorem FD.same {n : Nat} {D : Addr} {G G' : Hp} {as : List Addr} {S : Nat → Int} {lo : Nat} (s : Same G G') (h : FD n D G as S lo) : FD n D G' as S lo := ⟨s _ _ h.hD, h.len, fun m a hm ha => ⟨(h.at' m a hm ha).1, (h.at' m a hm ha).2.same s⟩⟩
theorem FD.at {n : Nat} {D : Addr} {G : Hp} {as : List Addr} {S : Nat → Int} {lo : Nat} (h : FD n D G as S lo) {m : Nat} (hm : lo ≤ m) (hn : m < n) : ∃ a, atI (as.map V.ref) ((m : Nat) : Int) = some (.ref a) ∧ IL G a [S m] := by
  have e : as[m]? = some (as[m]'(by rw [h.len]; exact hn)) := List.getElem?_eq_getElem _
  refine ⟨_, atI_nat ?_, (h.at' m _ hm e).2⟩
  rw [List.getElem?_map, e]
  rfl
theorem FD.put {n : Nat} {D a : Addr} {G : Hp} {as : List Addr} {S : Nat → Int} {k : Nat} (h : FD n D G as S (k + 1)) (hk : k < n) (na : a ≠ D) (ha : IL G a [S k]) : FD n D (upd G D (.lst ((as.map V.ref).set k (.ref a)))) (as.set k a) S k := by
  refine ⟨by rw [upd_same, List.map_set], by rw [List.length_set, h.len], fun m b hm hb => ?_⟩
  rw [List.getElem?_set] at hb
  by_cases e : k = m
  · subst e
    rw [if_pos rfl, if_pos (by rw [h.len]; exact hk)] at hb
    cases hb
    exact ⟨na, (upd_ne na).trans ha⟩
  · rw [if_neg e] at hb
    have := h.at' m b (by omega) hb
    exact ⟨this.1, (upd_ne this.1).trans this.2⟩
def sp_solved_sides (K : PySem.W.Frag) : Sp := fun vs H Q _ => ∃ (p q : Addr) (Tb : List (List Int)) (xs : List Int) (M N : Nat), vs = [.ref p, .ref q] ∧ NT H p Tb ∧ NT H q (ones xs) ∧ (∀ x ∈ Tb, x.length = Tb.length) ∧ xs.length = Tb.length ∧ Tb.length + 1 ≤ N ∧ N ≤ 1000 ∧
  (∀ x ∈ Tb, DT.Lim M (DT.fn x)) ∧ (∀ v ∈ xs, v.natAbs ≤ M) ∧ 1 ≤ M ∧ (N * M) ^ N < 2 ^ 8000 ∧ dtm Tb ≠ 0 ∧
  ∀ H' t D sols last, Same H H' → (last = dtm Tb ∨ last = -dtm Tb) → sols.length = Tb.length → (∀ (i : Nat) (x : List Int) (v : Int), Tb[i]? = some x → xs[i]? = some v → DT.dot Tb.length (DT.fn x) (DT.fn sols) = last * v) →
    (∀ v ∈ sols, v.natAbs ≤ (N * M) ^ N) → NT H' D (ones sols) → SqT K H' t [.int last, .ref D] → Q (.ref t) H'
theorem ok_solved_sides (T : Txt K mg) : FnOk P w K mg base CX0 3 T.solved_sides.a T.solved_sides.fd ["numbers", "sides"] (sp_solved_sides K) := by
  refine T.solved_sides.F.ok sc_solved_sides (fun vs H Q E h => ?_) (fun cdv A outer s H vs Q E hr h => ?_)
  · obtain ⟨p, q, Tb, xs, M, N, rfl, _⟩ := h
    rfl
  · obtain ⟨p, q, Tb, xs, M, N, rfl, hT, hS, sq, lx, hn, hN, lim, lv, hM, hB, nz, qq⟩ := h
    refine ⟨_, (pss_cons (ps_set (i := 2) sc_solved_sides.nd rfl (.inl rfl) (pe_callB call_len_seq (by rfl) T.m_len (by decide +kernel) (pa_cons (pv 0) pa_nil)))
      (pss_cons (ps_asg (pe_call (ok_triangle T) (hr.mono (by decide)) (by rfl) T.triangle.g T.triangle.F.kp T.triangle.b .nil pass0 (pa_cons (pe_lc (own := [("own", 12), ("side", 13)]) (g := gTup K 2 (gCons (gName 12) (gCons (gName 13) gNil))) rfl sc_solved_sides.nd (pi_zip (by rfl) T.m_zip (pa_cons (pv 0) (pa_cons (pv 1) pa_nil))) (blkOk_by (N := ["numbers", "sides", "many", "rows", "regular", "_", "last", "found", "k", "row", "rest", "j", "own", "side", "other"]) (sc := defScope s_solved_sides) (by decide +kernel)) (fun _ _ _ _ _ => (pg_tup rfl (pgs_cons (pg_name (i := 12) sc_solved_sides.nd rfl (.inl rfl)) (pgs_cons (pg_name (i := 13) sc_solved_sides.nd rfl (.inl rfl)) pgs_nil)))) (fun _ _ _ _ _ => pts_nil) (fun _ _ _ _ _ => (pe_op op_cat (pv 12) (pv 13)))) (pa_cons (pv 2) pa_nil))) (pg_tup rfl (pgs_cons (pg_name (i := 3) sc_solved_sides.nd rfl (.inl rfl)) (pgs_cons (pg_name (i := 4) sc_solved_sides.nd rfl (.inl rfl)) (pgs_cons (pg_name (i := 5) sc_solved_sides.nd rfl (.inl rfl)) (pgs_cons (pg_name (i := 6) sc_solved_sides.nd rfl (.inr rfl)) pgs_nil))))))
      (pss_cons (ps_if (pt_cmpR op_lt (pv 4) (pv 2) (nomark _))
        (pss_one (ps_ret pe_non))
        pss_nil)
      (pss_cons (ps_setLc (i := 7) (own := [("_", 5)]) rfl sc_solved_sides.nd rfl rfl (sw_true rfl rfl rfl (by decide +kernel)) (pi_range1 (by rfl) T.m_range (pa_cons (pv 2) pa_nil)) (blkOk_by (N := ["numbers", "sides", "many", "rows", "regular", "_", "last", "found", "k", "row", "rest", "j", "own", "side", "other"]) (sc := defScope s_solved_sides) (by decide +kernel)) (fun _ _ _ _ _ => (pg_name (i := 5) sc_solved_sides.nd rfl (.inl rfl))) (fun _ _ _ _ _ => pts_nil) (fun _ _ _ _ _ => (pe_lst pa_nil)))
      (pss_cons (ps_for PassesOwn.never rfl (pi_revR (by rfl) T.m_reversed (prg_1 (by rfl) T.m_range (pv 2))) (pg_name (i := 8) sc_solved_sides.nd rfl (.inr rfl))
        (pss_cons (ps_set (i := 9) sc_solved_sides.nd rfl (.inr rfl) (pe_ix ix_list (pv 3) (pv 8) (fun _ _ => rfl)))
        (pss_cons (ps_setLc (i := 10) (own := [("own", 12)]) rfl sc_solved_sides.nd rfl rfl (sw_true rfl rfl rfl (by decide +kernel)) (pi_list (pe_slice sl_list (pv 9) (po_some (pv 2)) po_none)) (blkOk_by (N := ["numbers", "sides", "many", "rows", "regular", "_", "last", "found", "k", "row", "rest", "j", "own", "side", "other"]) (sc := defScope s_solved_sides) (by decide +kernel)) (fun _ _ _ _ _ => (pg_name (i := 12) sc_solved_sides.nd rfl (.inl rfl))) (fun _ _ _ _ _ => pts_nil) (fun _ _ _ _ _ => (pe_op op_mulW (pv 6) (pv 12))))
        (pss_cons (ps_for PassesOwn.never rfl (pi_range2 (by rfl) T.m_range (pa_cons (pe_op op_add (pv 8) pe_int) (pa_cons (pv 2) pa_nil))) (pg_name (i := 11) sc_solved_sides.nd rfl (.inr rfl))
          (pss_one (ps_if (pt_cmpR op_ne (pe_ix ix_list (pv 9) (pv 11) (fun _ _ => rfl)) pe_int (nomark _))
            (pss_one (ps_setLc (i := 10) (own := [("own", 12), ("other", 14)]) (g := gTup K 2 (gCons (gName 12) (gCons (gName 14) gNil))) rfl sc_solved_sides.nd rfl rfl (sw_true rfl rfl rfl (by decide +kernel)) (pi_zip (by rfl) T.m_zip (pa_cons (pv 10) (pa_cons (pe_ix ix_list (pv 7) (pv 11) (fun _ _ => rfl)) pa_nil))) (blkOk_by (N := ["numbers", "sides", "many", "rows", "regular", "_", "last", "found", "k", "row", "rest", "j", "own", "side", "other"]) (sc := defScope s_solved_sides) (by decide +kernel)) (fun _ _ _ _ _ => (pg_tup rfl (pgs_cons (pg_name (i := 12) sc_solved_sides.nd rfl (.inl rfl)) (pgs_cons (pg_name (i := 14) sc_solved_sides.nd rfl (.inl rfl)) pgs_nil)))) (fun _ _ _ _ _ => pts_nil) (fun _ _ _ _ _ => (pe_op op_sub (pv 12) (pe_op op_mulW (pe_ix (r := rIxL K) ix_list (pv 9) (pv 11) (fun _ _ => rfl)) (pv 14))))))
            pss_nil)))
        (pss_one (ps_asg (pe_lc (own := [("own", 12)]) rfl sc_solved_sides.nd (pi_list (pv 10)) (blkOk_by (N := ["numbers", "sides", "many", "rows", "regular", "_", "last", "found", "k", "row", "rest", "j", "own", "side", "other"]) (sc := defScope s_solved_sides) (by decide +kernel)) (fun _ _ _ _ _ => (pg_name (i := 12) sc_solved_sides.nd rfl (.inl rfl))) (fun _ _ _ _ _ => pts_nil) (fun _ _ _ _ _ => (pe_op LX.op_fdivWN (pv 12) (pe_ix (r := rIxL K) ix_list (pv 9) (pv 8) (fun _ _ => rfl))))) (pg_sub (pv 7) (pv 8) set_list)))))))
      (pss_one (ps_ret (pe_tup (pa_cons (pv 6) (pa_cons (pv 7) pa_nil)))))))))), ?_⟩
    obtain ⟨as0, hp, hA⟩ := id hT
    have el0 := hA.len
    obtain ⟨bs0, hq, hAq⟩ := id hS
    have elq : bs0.length = xs.length := by rw [hAq.len]; unfold ones; rw [List.length_map]
    have lB := beside_len lx
    refine ⟨.ref p, rfl, p, _, rfl, .inl (.of hp), ?_⟩
    rw [List.length_map, el0]
    refine ⟨.ref p, rfl, .ref q, rfl, p, q, _, _, rfl, .of hp, .of hq, fun D nD => ?_⟩
    have lz : min (as0.map V.ref).length (bs0.map V.ref).length = Tb.length := by rw [List.length_map, List.length_map]; omega
    refine lc_inv (walk_zip (n := Tb.length) lz.symm) (fun i G ys => ∃ as : List Addr, ys = as.map V.ref ∧ A2 (fun a x => a ≠ D ∧ IL G a x) as ((beside Tb xs).take i)) nD (fun G s => ⟨.of (s _ _ hp), .of (s _ _ hq)⟩) (small' (by omega)) ⟨[], rfl, .nil⟩ (fun i y G Hx ys hi sm hD hR yy Qt Qf qt qf => ?_) (fun G ys sm hD hR => ?_)
    · obtain ⟨u, x1, y1, rfl, nu, rfl, h1, h2⟩ := yy
      obtain ⟨as, rfl, hA2⟩ := hR
      obtain ⟨x, ex⟩ : ∃ x, Tb[i]? = some x := ⟨_, List.getElem?_eq_getElem hi⟩
      obtain ⟨v, ev⟩ : ∃ v, xs[i]? = some v := ⟨_, List.getElem?_eq_getElem (by omega)⟩
      obtain ⟨a, ea, ha⟩ := hA.get' ex
      obtain ⟨b, eb, hb⟩ := hAq.get' (b := [v]) (i := i) (by unfold ones; rw [List.getElem?_map, ev]; rfl)
      have h1 : (as0.map V.ref)[i]? = some x1 := h1
      have h2 : (bs0.map V.ref)[i]? = some y1 := h2
      rw [List.getElem?_map, ea] at h1
      cases h1
      rw [List.getElem?_map, eb] at h2
      cases h2
      have s1 := sm.trans (same_upd nu (o := .tup [V.ref a, V.ref b]))
      have lxx := sq x (List.mem_of_getElem? ex)
      refine ⟨u, _, rfl, .of upd_same, rfl, _, _, rfl, _, _, rfl, rfl, rfl, _, rfl, _, rfl, a, b, _, _, rfl, rfl, ha.same s1, hb.same s1, ?_, fun l nl => ?_⟩
      · rw [List.length_map, List.length_map, lxx]
        exact small (by show _ + 1 ≤ _; omega)
      have s2 := (same_upd nu (o := .tup [V.ref a, V.ref b])).trans (same_upd nl (o := .lst (x.map V.int ++ [v].map V.int)))
      have lD : l ≠ D := fun z => by rw [z, upd_ne (fun z2 : D = u => by rw [← z2, hD] at nu; cases nu), hD] at nl; cases nl
      refine qt _ _ s2 ⟨as ++ [l], by rw [List.map_append]; rfl, ?_⟩
      rw [take_snoc (beside_at ex ev)]
      refine A2.snoc ⟨lD, (upd_ne lD).trans ?_⟩ (hA2.mono fun b y z => ⟨z.1, (upd_ne z.1).trans (z.2.same s2)⟩)
      rw [upd_same, ← List.map_append]
    · obtain ⟨as, rfl, hA2⟩ := hR
      rw [List.take_of_length_le (by omega)] at hA2
      have lim2 : ∀ x ∈ beside Tb xs, DT.Lim M (DT.fn x) := fun y hy => by
        obtain ⟨x, v, h1, h2, rfl⟩ := beside_mem hy
        exact lim_app (lim x h1) (lv v h2)
      have wid : ∀ x ∈ beside Tb xs, x.length = Tb.length + 1 := fun y hy => by
        obtain ⟨x, v, h1, h2, rfl⟩ := beside_mem hy
        rw [List.length_append, sq x h1]; rfl
      refine ⟨_, rfl, D, beside Tb xs, Tb.length + 1, Tb.length, M, N, rfl, ⟨as, hD, hA2.mono fun _ _ z => z.2⟩, wid, by omega, by omega, by omega, hN, lim2, Nat.mul_pos (by omega) hM, hB, fun H1 t q1 rows r sign last cs P0 s1 st pv nt ht => ?_⟩
      refine ⟨t, _, rfl, ht, rfl, _, _, rfl, _, _, rfl, _, _, rfl, _, _, rfl, rfl, ?_⟩
      have bdd := st.bound (Nat.mul_pos (by omega) hM) lim2 (N := N) (by omega)
      have det := beside_det lx sq
      have hr : r = Tb.length := by
        have := st.rn
        have := st.perm.length_eq
        rcases Nat.lt_or_ge r Tb.length with z | z
        · exact absurd (det.symm.trans (st.side0 lB z)) nz
        · omega
      subst hr
      obtain ⟨_, _, el⟩ := st.full lB
      rw [det] at el
      have elast : last = dtm Tb ∨ last = -dtm Tb := by
        rcases st.si with z | z <;> rw [z] at el <;> omega
      obtain ⟨S, sE, sR, sB⟩ := st.back lB pv hM hn lim2
      have sH := sm.trans s1
      refine ⟨_, rfl, _, rfl, _, _, rfl, rfl, _, rfl, ?_⟩
      rw [decide_eq_false (by omega)]
      refine iteF ?_
      clear hA2 hD hA hAq el det
      refine ⟨_, rfl, (Tb.length : Nat), rfl, by omega, by omega, fun E nE => ?_⟩
      rw [Int.toNat_natCast]
      refine lc_inv (walk_range (lo := 0) (n := Tb.length)) (fun i G ys => ∃ as : List Addr, ys = as.map V.ref ∧ as.length = i) nE (fun _ _ => trivial) (small' (by omega)) ⟨[], rfl, rfl⟩ (fun i y G Hx ys hi sm2 hD hR yy Qt Qf qt qf => ?_) (fun G ys sm2 hD hR => ?_)
      · obtain ⟨rfl, rfl⟩ := yy
        obtain ⟨bs, rfl, hl⟩ := hR
        refine ⟨rfl, Nat.zero_le _, fun l nl => ?_⟩
        exact qt _ _ (same_upd nl) ⟨bs ++ [l], by rw [List.map_append]; rfl, by rw [List.length_append, hl]; rfl⟩
      · obtain ⟨bs, rfl, hl⟩ := hR
        refine ⟨_, rfl, (Tb.length : Nat), rfl, by decide, by decide, by omega, by omega, ?_⟩
        have nB : ∀ b ∈ bs, True := fun _ _ => trivial
        have lenR : rows.length = Tb.length := by have := st.len; have := st.perm.length_eq; omega
        refine for_rangeC (fun i σ G => Same H1 G ∧ ∃ (bs : List Addr) (x5 x8 x9 x10 x11 x12 x13 x14 : Option V), σ = [some (.ref p), some (.ref q), some (.int (Tb.length : Nat)), some (.ref q1), some (.int (Tb.length : Nat)), x5, some (.int last), some (.ref E), x8, x9, x10, x11, x12, x13, x14] ∧ FD Tb.length E G bs S (Tb.length - i))
          ⟨sm2, bs, _, _, _, _, _, _, _, _, rfl, ⟨hD, hl, fun m a hm ha => by have := (List.getElem?_eq_some_iff.mp ha).1; omega⟩⟩ (fun i σ G2 hi hP => ?_) (fun σ G2 hP => ?_)
        · obtain ⟨sm3, bs2, x5, x8, x9, x10, x11, x12, x13, x14, rfl, fd⟩ := hP
          obtain ⟨k, hk, ek, ei⟩ : ∃ k : Nat, k < Tb.length ∧ (0 + ((((Tb.length : Nat) : Int) - 0).toNat : Int) - 1 + (i : Nat) * (-1) : Int) = (k : Nat) ∧ Tb.length - i = k + 1 := ⟨Tb.length - 1 - i, by omega, by omega, by omega⟩
          rw [ek]
          rw [ei] at fd
          have hkr : k < rows.length := by omega
          obtain ⟨as1, a1, hq1, hak, _, hx⟩ := (nt.same sm3).row (List.getElem?_eq_getElem hkr)
          obtain ⟨lxk, pk, eqk⟩ := sE k _ hk (List.getElem?_eq_getElem hkr)
          have bx : ∀ j, (DT.fn rows[k] j).natAbs < 2 ^ 8000 := fun j => Nat.lt_of_le_of_lt (bdd.1 _ (List.getElem_mem hkr) j) hB
          generalize rows[k] = x at hx lxk pk eqk bx
          refine ⟨.ref q1, rfl, _, rfl, q1, _, _, _, rfl, rfl, .of hq1, hak, ?_⟩
          have wide : ∀ z y : Int, z.natAbs < 2 ^ 8000 → y.natAbs < 2 ^ 8000 → z.natAbs.log2 + y.natAbs.log2 < 1000000 := fun z y h1 h2 => by
            have := log_lt h1 (by decide)
            have := log_lt h2 (by decide)
            omega
          have bl : last.natAbs < 2 ^ 8000 := Nat.lt_of_le_of_lt bdd.2 hB
          have bS : ∀ j, (S j).natAbs < 2 ^ 8000 := fun j => Nat.lt_of_le_of_lt (sB j) hB
          refine ⟨.ref a1, rfl, _, rfl, _, rfl, a1, _, rfl, hx.sq, fun u nu => ⟨u, rfl, ⟨_, .of upd_same⟩, fun D1 nD1 => ?_⟩⟩
          rw [cut_end lxk] at nD1 ⊢
          have s4 := same_upd nu (o := .lst [V.int (DT.fn x Tb.length)])
          generalize hG4 : upd G2 u _ = G4 at nD1 s4
          have hu : G4 u = some (.lst [V.int (DT.fn x Tb.length)]) := by rw [← hG4]; exact upd_same
          refine lc_inv (walk_list (xs := [V.int (DT.fn x Tb.length)])) (fun i G ys => (i = 0 ∧ ys = []) ∨ (i = 1 ∧ ys = [V.int (last * DT.fn x Tb.length)])) nD1 (fun G s => .of (s _ _ hu)) (small' (by show 1 < 60000; decide)) (.inl ⟨rfl, rfl⟩) (fun i y G Hx ys hi sm5 hD5 hR yy Qt Qf qt qf => ?_) (fun G5 ys sm5 hD5 hR => ?_)
          · obtain ⟨rfl, hy⟩ := yy
            obtain ⟨rfl, rfl⟩ := one_at hy
            obtain ⟨_, rfl⟩ : 0 = 0 ∧ ys = [] := by rcases hR with z | z; exact z; omega
            refine ⟨rfl, _, rfl, _, rfl, _, _, rfl, rfl, wide _ _ bl (bx _), ?_⟩
            exact qt _ _ (Same.refl _) (.inr ⟨rfl, rfl⟩)
          obtain rfl : ys = [V.int (last * DT.fn x Tb.length)] := by rcases hR with z | z; exact absurd z.1 (by show ¬ 1 = 0; decide); exact z.2
          clear hR
          have sE5 := s4.trans sm5
          have fd5 := fd.same sE5
          have hx5 := hx.same sE5
          have sm5' := sm3.trans sE5
          clear sE5 s4 sm5 hu hG4 fd hx hq1 hak sm3
          refine ⟨_, rfl, _, _, rfl, rfl, _, rfl, ((k : Nat) + 1 : Int), (Tb.length : Nat), rfl, ⟨by omega, by omega, by omega, by omega⟩, ?_⟩
          refine for_range (n := (((Tb.length : Nat) : Int) - ((k : Nat) + 1)).toNat) (lo := (k : Int) + 1) (fun j σ G => Same G5 G ∧ ∃ (R : Addr) (x11 x12 x13 x14 : Option V), σ = [some (.ref p), some (.ref q), some (.int (Tb.length : Nat)), some (.ref q1), some (.int (Tb.length : Nat)), x5, some (.int last), some (.ref E), some (.int (k : Nat)), some (.ref a1), some (.ref R), x11, x12, x13, x14] ∧ IL G R [last * DT.fn x Tb.length - DT.tl (DT.fn x) S k j])
            ⟨.refl _, D1, _, _, _, _, rfl, by rw [DT.tl_zero, Int.sub_zero]; exact hD5⟩ (fun j σ G hj hP2 => ?_) (fun σ G hP2 => ?_)
          · obtain ⟨s6, R, y11, y12, y13, y14, rfl, hR⟩ := hP2
            have hm : k + 1 + j < Tb.length := by omega
            rw [show (k : Int) + 1 + (j : Int) = ((k + 1 + j : Nat) : Int) by omega]
            have hx6 := hx5.same s6
            refine ⟨.ref a1, rfl, _, rfl, a1, _, _, _, rfl, rfl, hx6.sq, il_at (by omega), rfl, _, rfl, ?_⟩
            refine ite2 (fun h => ?_) (fun h => ?_)
            · obtain ⟨b, hb, hbv⟩ := (fd5.same s6).at (m := k + 1 + j) (by omega) hm
              refine ⟨.ref R, rfl, .ref E, rfl, _, rfl, E, _, _, _, rfl, rfl, .of (fd5.same s6).hD, hb, R, b, _, _, rfl, hR.sq, hbv.sq, fun D7 nD7 => ?_⟩
              refine lc_inv (walk_zip (n := 1) rfl) (fun i G ys => (i = 0 ∧ ys = []) ∨ (i = 1 ∧ ys = [V.int (last * DT.fn x Tb.length - DT.tl (DT.fn x) S k (j + 1))])) nD7 (fun G s => ⟨(hR.same s).sq, (hbv.same s).sq⟩) (small' (by decide)) (.inl ⟨rfl, rfl⟩) (fun i y G7 Hx ys hi sm7 hD7 hR7 yy Qt Qf qt qf => ?_) (fun G7 ys sm7 hD7 hR7 => ?_)
              · obtain ⟨v, x1, y1, rfl, nv, rfl, h1, h2⟩ := yy
                obtain ⟨rfl, rfl⟩ := one_at h1
                obtain ⟨_, rfl⟩ := one_at h2
                obtain ⟨_, rfl⟩ : 0 = 0 ∧ ys = [] := by rcases hR7 with z | z; exact z; omega
                have sv := same_upd nv (o := .tup [V.int (last * DT.fn x Tb.length - DT.tl (DT.fn x) S k j), V.int (S (k + 1 + j))])
                refine ⟨v, _, rfl, .of upd_same, rfl, _, _, rfl, _, _, rfl, rfl, rfl, _, rfl, .ref a1, rfl, _, rfl, a1, _, _, _, rfl, rfl, ((hx6.same sm7).same sv).sq, il_at (by omega), _, rfl, _, _, rfl, rfl, wide _ _ (bx _) (bS _), _, _, rfl, rfl, ?_⟩
                refine qt _ _ sv (.inr ⟨rfl, ?_⟩)
                rw [DT.tl_succ, ← Int.sub_sub]
                rfl
              · obtain rfl : ys = [V.int (last * DT.fn x Tb.length - DT.tl (DT.fn x) S k (j + 1))] := by rcases hR7 with z | z; exact absurd z.1 (by decide); exact z.2
                exact ⟨s6.trans sm7, D7, _, _, _, _, rfl, hD7⟩
            · have ez : DT.fn x (k + 1 + j) = 0 := by
                by_cases e : DT.fn x (k + 1 + j) = 0
                · exact e
                · exact absurd (by rw [decide_eq_false (fun z => e (V.int.inj z))]; rfl) h
              refine ⟨s6, R, _, _, _, _, rfl, ?_⟩
              rw [DT.tl_succ, ez, Int.zero_mul, Int.add_zero]
              exact hR
          · obtain ⟨s6, R, y11, y12, y13, y14, rfl, hR⟩ := hP2
            rw [show (((Tb.length : Nat) : Int) - ((k : Nat) + 1)).toNat = Tb.length - (k + 1) by omega, ← eqk] at hR
            have hx6 := hx5.same s6
            refine ⟨.ref R, rfl, R, rfl, ⟨_, hR.sq⟩, fun D8 nD8 => ?_⟩
            refine lc_inv (walk_list (xs := [DT.fn x k * S k].map V.int)) (fun i G ys => (i = 0 ∧ ys = []) ∨ (i = 1 ∧ ys = [V.int (S k)])) nD8 (fun G s => (hR.same s).sq) (small' (by show 1 < 60000; decide)) (.inl ⟨rfl, rfl⟩) (fun i y G8 Hx ys hi sm8 hD8 hR8 yy Qt Qf qt qf => ?_) (fun G8 ys sm8 hD8 hR8 => ?_)
            · obtain ⟨rfl, hy⟩ := yy
              obtain ⟨rfl, rfl⟩ := one_at hy
              obtain ⟨_, rfl⟩ : 0 = 0 ∧ ys = [] := by rcases hR8 with z | z; exact z; omega
              refine ⟨rfl, _, rfl, .ref a1, rfl, _, rfl, a1, _, _, _, rfl, rfl, (hx6.same sm8).sq, il_at (by omega), _, _, rfl, rfl, ⟨pk, Nat.lt_trans (log_lt (bx k) (by decide)) (by decide)⟩, ?_⟩
              exact qt _ _ (Same.refl _) (.inr ⟨rfl, congrArg (fun z => [V.int z]) (Int.mul_fdiv_cancel_left _ pk)⟩)
            · obtain rfl : ys = [V.int (S k)] := by rcases hR8 with z | z; exact absurd z.1 (by show ¬ 1 = 0; decide); exact z.2
              have fd8 := (fd5.same s6).same sm8
              have dE : D8 ≠ E := fun z => by rw [z, (fd5.same s6).hD] at nD8; cases nD8
              refine ⟨.ref E, rfl, _, rfl, E, _, _, _, rfl, rfl, fd8.hD, ix_ok rfl (by rw [List.length_map, fd8.len]; exact hk), ?_⟩
              refine ⟨same_over ((sm5'.trans s6).trans sm8) nE, bs2.set k D8, _, _, _, _, _, _, _, _, rfl, ?_⟩
              rw [show Tb.length - (i + 1) = k by omega]
              exact fd8.put hk dE hD8
        · obtain ⟨sm3, bs2, x5, x8, x9, x10, x11, x12, x13, x14, rfl, fd⟩ := hP
          refine ⟨_, rfl, _, rfl, by show 2 ≤ sizeLine; decide, fun u nu => ?_⟩
          have su := same_upd nu (o := .tup [V.int last, V.ref E])
          rw [show Tb.length - (((Tb.length : Nat) : Int) - 0).toNat = 0 by omega] at fd
          have fdu := fd.same su
          have ls : ((List.range Tb.length).map S).length = Tb.length := by rw [List.length_map, List.length_range]
          refine qq _ u E ((List.range Tb.length).map S) last ((sH.trans sm3).trans su) elast ls (fun i x v hx hv => ?_) (fun v hv => ?_) ⟨bs2, fdu.hD, ?_⟩ (.of upd_same)
          · have h1 := sR _ (List.mem_of_getElem? (beside_at hx hv))
            have lxx := sq x (List.mem_of_getElem? hx)
            rw [show DT.fn (x ++ [v]) Tb.length = v by rw [← lxx]; exact fn_end] at h1
            rw [← h1]
            unfold DT.dot
            congr 1
            refine List.map_congr_left fun j hj => ?_
            have hj := List.mem_range.mp hj
            rw [fn_lt (by omega)]
            congr 1
            unfold DT.fn
            rw [List.getD_eq_getElem?_getD, List.getElem?_map, List.getElem?_range hj]
            rfl
          · obtain ⟨j, _, rfl⟩ := List.mem_map.mp hv
            exact sB j
          · unfold ones
            rw [List.map_map]
            refine A2.of_get (by rw [fdu.len, List.length_map, List.length_range]) fun j a y ha hy => ?_
            rw [List.getElem?_map] at hy
            have hj : j < Tb.length := by have := (List.getElem?_eq_some_iff.mp ha).1; rw [fdu.len] at this; exact this
            rw [List.getElem?_range hj] at hy
            cases hy
            exact (fdu.at' j a (Nat.zero_le _) ha).2
end
end K67
-- E8
namespace K67
open PySem PySem.Spec PyProof.Rows L2
theorem ones_take {xs : List Int} {i : Nat} {v : Int} (h : xs[i]? = some v) : ones (xs.take (i + 1)) = ones (xs.take i) ++ [[v]] := by
  unfold ones
  rw [take_snoc h, List.map_append]; rfl
theorem mapI_at {ns : List Int} {i : Nat} {y : V} (h : (ns.map V.int)[i]? = some y) : ∃ v, ns[i]? = some v ∧ y = .int v := by
  rw [List.getElem?_map] at h
  cases e : ns[i]? with
  | none => rw [e] at h; cases h
  | some v => rw [e] at h; exact ⟨v, rfl, (Option.some.inj h).symm⟩
section
variable {P : Program} {w : World} {K : PySem.W.Frag} {mg : Str → Option Value} {base : Heap}
def sp_solved_whole (K : PySem.W.Frag) : Sp := fun vs H Q _ => ∃ (p q : Addr) (Tb : List (List Int)) (xs : List Int) (M N : Nat), vs = [.ref p, .ref q] ∧ NT H p Tb ∧ IL H q xs ∧ (∀ x ∈ Tb, x.length = Tb.length) ∧ xs.length = Tb.length ∧ Tb.length + 1 ≤ N ∧ N ≤ 1000 ∧
  (∀ x ∈ Tb, DT.Lim M (DT.fn x)) ∧ (∀ v ∈ xs, v.natAbs ≤ M) ∧ 1 ≤ M ∧ (N * M) ^ N < 2 ^ 8000 ∧ dtm Tb ≠ 0 ∧
  ∀ H' t D sols last, Same H H' → (last = dtm Tb ∨ last = -dtm Tb) → sols.length = Tb.length → (∀ (i : Nat) (x : List Int) (v : Int), Tb[i]? = some x → xs[i]? = some v → DT.dot Tb.length (DT.fn x) (DT.fn sols) = last * v) →
    (∀ v ∈ sols, v.natAbs ≤ (N * M) ^ N) → IL H' D sols → SqT K H' t [.int last, .ref D] → Q (.ref t) H'
theorem ok_solved_whole (T : Txt K mg) : FnOk P w K mg base CX0 4 T.solved_whole.a T.solved_whole.fd ["numbers", "right"] (sp_solved_whole K) := by
  refine T.solved_whole.F.ok sc_solved_whole (fun vs H Q E h => ?_) (fun cdv A outer s H vs Q E hr h => ?_)
  · obtain ⟨p, q, Tb, xs, M, N, rfl, _⟩ := h
    rfl
  · obtain ⟨p, q, Tb, xs, M, N, rfl, hT, hq, sq, lx, hn, hN, lim, lv, hM, hB, nz, qq⟩ := h
    refine ⟨_, (pss_cons (ps_asg (pe_call (ok_solved_sides T) (hr.mono (by decide)) (by rfl) T.solved_sides.g T.solved_sides.F.kp T.solved_sides.b .nil pass0 (pa_cons (pv 0) (pa_cons (pe_lc (own := [("number", 4)]) rfl sc_solved_whole.nd (pi_list (pv 1)) (blkOk_by (N := ["numbers", "right", "factor", "found", "number", "row"]) (sc := defScope s_solved_whole) (by decide +kernel)) (fun _ _ _ _ _ => (pg_name (i := 4) sc_solved_whole.nd rfl (.inl rfl))) (fun _ _ _ _ _ => pts_nil) (fun _ _ _ _ _ => (pe_lst (pa_cons (pv 4) pa_nil)))) pa_nil))) (pg_tup rfl (pgs_cons (pg_name (i := 2) sc_solved_whole.nd rfl (.inl rfl)) (pgs_cons (pg_name (i := 3) sc_solved_whole.nd rfl (.inl rfl)) pgs_nil))))
      (pss_one (ps_ret (pe_tup (pa_cons (pv 2) (pa_cons (pe_lc (own := [("row", 5)]) rfl sc_solved_whole.nd (pi_list (pv 3)) (blkOk_by (N := ["numbers", "right", "factor", "found", "number", "row"]) (sc := defScope s_solved_whole) (by decide +kernel)) (fun _ _ _ _ _ => (pg_name (i := 5) sc_solved_whole.nd rfl (.inl rfl))) (fun _ _ _ _ _ => pts_nil) (fun _ _ _ _ _ => (pe_ix (r := rIxL K) ix_list (pv 5) pe_int (fun _ _ => rfl)))) pa_nil)))))), ?_⟩
    refine ⟨.ref p, rfl, .ref q, rfl, q, rfl, ⟨_, hq.sq⟩, fun D nD => ?_⟩
    refine lc_inv (walk_list (xs := xs.map V.int)) (fun i G ys => ∃ as : List Addr, ys = as.map V.ref ∧ A2 (fun a x => a ≠ D ∧ IL G a x) as (ones (xs.take i))) nD (fun G s => (hq.same s).sq) (small' (by rw [List.length_map]; omega)) ⟨[], rfl, .nil⟩ (fun i y G Hx ys hi sm hD hR yy Qt Qf qt qf => ?_) (fun G ys sm hD hR => ?_)
    · obtain ⟨rfl, hx⟩ := yy
      obtain ⟨as, rfl, hA2⟩ := hR
      obtain ⟨v, ev, rfl⟩ := mapI_at hx
      refine ⟨rfl, _, rfl, by show 1 ≤ sizeLine; decide, fun l nl => ?_⟩
      have lD : l ≠ D := fun z => by rw [z, hD] at nl; cases nl
      refine qt _ _ (same_upd nl) ⟨as ++ [l], by rw [List.map_append]; rfl, ?_⟩
      rw [ones_take ev]
      exact A2.snoc ⟨lD, (upd_ne lD).trans upd_same⟩ (hA2.mono fun b y z => ⟨z.1, (upd_ne z.1).trans (z.2.same (same_upd nl))⟩)
    · obtain ⟨as, rfl, hA2⟩ := hR
      rw [List.length_map, List.take_length] at hA2
      refine ⟨p, D, Tb, xs, M, N, rfl, hT.same sm, ⟨as, hD, hA2.mono fun _ _ z => z.2⟩, sq, lx, hn, hN, lim, lv, hM, hB, nz, fun H1 t D2 sols last s1 hl ls rel bs nt ht => ?_⟩
      refine ⟨t, _, rfl, ht, rfl, _, _, rfl, _, _, rfl, rfl, ?_⟩
      obtain ⟨cs, hc, hA3⟩ := id nt
      have lc : cs.length = sols.length := by rw [hA3.len]; unfold ones; rw [List.length_map]
      refine ⟨_, rfl, .ref D2, rfl, D2, rfl, ⟨_, .of hc⟩, fun E nE => ?_⟩
      refine lc_inv (walk_list (xs := cs.map V.ref)) (fun i G ys => ys = (sols.take i).map V.int) nE (fun G s => .of (s _ _ hc)) (small' (by rw [List.length_map]; omega)) rfl (fun i y G2 Hx ys hi sm2 hD2 hR2 yy Qt Qf qt qf => ?_) (fun G2 ys sm2 hD2 hR2 => ?_)
      · obtain ⟨rfl, hx⟩ := yy
        have hx2 : (cs.map V.ref)[i]? = some y := hx
        rw [List.getElem?_map] at hx2
        cases e : cs[i]? with
        | none => rw [e] at hx2; cases hx2
        | some a =>
          rw [e] at hx2
          cases hx2
          obtain ⟨x, ex, ha⟩ := hA3.get e
          unfold ones at ex
          rw [List.getElem?_map] at ex
          cases e3 : sols[i]? with
          | none => rw [e3] at ex; cases ex
          | some v =>
            rw [e3] at ex
            cases ex
            have ha2 := ha.same sm2
            refine ⟨rfl, .ref a, rfl, a, _, _, _, rfl, rfl, ha2.sq, atI_nat (j := 0) rfl, ?_⟩
            refine qt _ _ (Same.refl _) ?_
            rw [take_snoc e3, List.map_append, hR2]
            rfl
      · rw [List.length_map, List.take_of_length_le (by omega)] at hR2
        subst hR2
        refine ⟨by show 2 ≤ sizeLine; decide, fun u nu => ?_⟩
        have su := same_upd nu (o := .tup [V.int last, V.ref E])
        exact qq _ u E sols last (((sm.trans s1).trans sm2).trans su) hl ls rel bs (su _ _ hD2) (.of upd_same)
end
end K67
-- F7
namespace K67
open PySem PySem.Spec PyProof.Rows L2
section
variable {P : Program} {w : World} {K : PySem.W.Frag} {mg : Str → Option Value} {base : Heap} {Ps : List Addr}
/-! ### the errors -/
theorem len_app (a b : Str) : (a ++ b).length = a.length + b.length := by
  show (a.cps ++ b.cps).size = a.cps.size + b.cps.size
  exact Array.size_append
theorem small2 {x : Nat} (h : x ≤ 2000) : x ≤ sizeLine := Nat.le_trans h (by decide)
def sp_wording : Sp := fun vs H Q _ => ∃ (nm : Str) (i : Int), vs = [.str nm, .int i] ∧ nm.length ≤ 1000 ∧ i.natAbs < 10 ^ 12 ∧ ∀ t : Str, Q (.str t) H
theorem ok_wording (T : Txt K mg) : FnOk P w K mg base CX0 1 T.wording.a T.wording.fd ["name", "at"] sp_wording := by
  refine T.wording.F.ok sc_wording (fun vs H Q E h => ?_) (fun cdv A outer s H vs Q E hr h => ?_)
  · obtain ⟨nm, i, rfl, _⟩ := h
    rfl
  · obtain ⟨nm, i, rfl, hn, h1, q⟩ := h
    refine ⟨_, (pss_cons (ps_if (pt_cmpR op_gt (pe_bits (pv 1)) pe_int (nomark _))
        (pss_one (ps_ret (pe_joined (.cons (pe_fmt (pv 0)) (.cons pe_str (.cons (pe_fmt (pe_bits (pv 1))) (.cons pe_str .nil)))))))
        pss_nil)
      (pss_one (ps_ret (pe_joined (.cons (pe_fmt (pv 0)) (.cons pe_str (.cons (pe_fmt (pv 1)) .nil))))))), ?_⟩
    have e : i.natAbs < 2 ^ 40 := Nat.lt_of_lt_of_le h1 (by decide)
    have hb := LX.bits_le e
    refine ⟨_, rfl, i, rfl, _, _, rfl, rfl, _, rfl, ?_⟩
    rw [decide_eq_false (by omega)]
    have lt : (Str.ofString (toString i)).length ≤ 13 := LX.text_len (by decide) h1
    refine iteF ⟨_, rfl, .inl ⟨nm, rfl, small2 (by omega), nm, rfl, ?_, _, rfl, ?_, _, rfl, .inr ⟨i, rfl, ?_, _, rfl, ?_, q _⟩⟩⟩
    · rw [len_app]; exact small2 (by show 0 + _ ≤ _; omega)
    · rw [len_app, len_app]; exact small2 (by show 0 + _ + 4 ≤ _; omega)
    · exact Nat.lt_of_lt_of_le (PySem.Flt.log2_lt_of (by decide) e) (by decide)
    · rw [len_app, len_app, len_app]; exact small2 (by show 0 + _ + 4 + _ ≤ _; omega)
theorem ok_init (T : Txt K mg) (X : Errs K mg) : FnOk P w K mg base CX0 2 X.e0.f X.e0.fd ["self", "at"] (LX.sp_init K) := by
  refine X.e0.F.ok sc_init (fun vs H Q E h => ?_) (fun cdv A outer s H vs Q E hr h => ?_)
  · obtain ⟨e, C, nm, i, rfl, _⟩ := h
    rfl
  · obtain ⟨e, C, nm, i, rfl, he, hn, ho, na, h1, q⟩ := h
    refine ⟨_, pss_cons (ps_expr (pe_veinit (by rfl) X.e0.mV X.e0.vV (pa_cons (pv 0) (pa_cons (pe_call (ok_wording T) (hr.mono (by decide)) (by rfl) T.wording.g T.wording.F.kp T.wording.b .nil pass0 (pa_cons (LX.pe_cn (pv 0)) (pa_cons (pv 1) pa_nil))) pa_nil))))
      (pss_one (ps_ost (pv 0) (pv 1))), ?_⟩
    refine ⟨.ref e, rfl, .ref e, rfl, e, C, nm, rfl, he, hn, _, rfl, nm, i, rfl, hn.sz, h1, fun t => ⟨e, C, _, rfl, by show 1 ≤ 1000; decide, ho, he, ?_⟩⟩
    exact ⟨_, rfl, .ref e, rfl, e, C, rfl, ho, na, .inl ⟨he, fun d hd ne => q d hd ne⟩⟩
def sp_is_square (Ps : List Addr) : Sp := fun vs H Q _ => ∃ (p : Addr) (Tb : List (List Int)), vs = [.ref p] ∧ NT H p Tb ∧ TGs Ps H ∧ ∀ (b : Bool) H', (b = true ↔ ∀ x ∈ Tb, x.length = Tb.length) → Lk H H' → TGs Ps H' → Q (.bl b) H'
theorem ok_is_square (T : Txt K mg) (TB : Tbs base T Ps) : FnOk P w K mg base CX0 2 T.is_square.a T.is_square.fd ["table"] (sp_is_square Ps) := by
  refine T.is_square.ok sc_is_square (fun vs H Q E h => ?_) (fun A outer s H vs Q E hr h => ?_)
  · obtain ⟨p, Tb, rfl, _⟩ := h
    rfl
  · obtain ⟨p, Tb, rfl, ⟨as, hp, hA⟩, tg, q⟩ := h
    refine ⟨_, (pss_one (ps_ret (GN.pe_allG (own := [("row", 1)]) hr sc_is_square.nd (by rfl) T.m_all TB.is_square rfl (GN.nmOk_by (blkOk_by (N := ["table", "row"]) (sc := defScope s_is_square) (by decide +kernel))) (pi_list (pv 0)) (fun _ _ _ _ _ _ => (pg_name (i := 1) sc_is_square.nd rfl (.inl rfl))) (fun _ _ _ _ _ _ hr2 gd2 => (pe_cmpR op_eq (pe_callB (id := "len") (r := rLenS K) call_lenC (by rfl) T.m_len (by decide +kernel) (pa_cons (pv 1) pa_nil)) (pe_callB (id := "len") (r := rLenS K) call_lenC (by rfl) T.m_len (by decide +kernel) (pa_cons (pv 0) pa_nil)) (nomark _)))))), ?_⟩
    have el := hA.len
    refine ⟨.ref p, rfl, p, rfl, ⟨_, .of hp⟩, tg _ TB.m1, ?_⟩
    refine GN.gn_it (walk_list (xs := as.map V.ref)) (fun i G => Lk H G ∧ TGs Ps G ∧ ∀ x ∈ Tb.take i, x.length = Tb.length) (fun G t => ⟨lk_tab (tg _ TB.m1) t, tg.tab t, fun x hx => by simp at hx⟩) (fun _ _ _ pv => .of (pv.1.lst hp)) (fun i x G G' hi pv y => ?_) (fun G pv => ?_)
    · obtain ⟨lk, t, al⟩ := pv
      obtain ⟨rfl, hx⟩ := y
      rw [List.getElem?_map] at hx
      cases e : as[i]? with
      | none => rw [e] at hx; cases hx
      | some a =>
        rw [e] at hx
        cases hx
        obtain ⟨z, ez, hz⟩ := hA.get e
        refine ⟨rfl, _, rfl, a, _, rfl, .inl (IL.sq (lk.lst hz)), .ref p, rfl, p, _, rfl, .inl (.of (lk.lst hp)), rfl, ?_⟩
        rw [List.length_map, List.length_map, el]
        by_cases h : z.length = Tb.length
        · refine ⟨_, rfl, ?_⟩
          rw [h, decide_eq_true rfl]
          exact GN.on_t ⟨lk, t, take_all ez al h⟩
        · refine ⟨_, rfl, ?_⟩
          rw [decide_eq_false (fun y => h (by have := V.int.inj y; omega))]
          exact GN.end_f (q false G' ⟨fun y => (nomatch y), fun y => absurd (y z (List.mem_of_getElem? ez)) h⟩ lk t)
    · obtain ⟨lk, t, al⟩ := pv
      rw [List.length_map, el, List.take_length] at al
      exact q true G ⟨fun _ => al, fun _ => rfl⟩ lk t
/-! ### the determinant -/
def sp_determinant (C : Addr) (Ps : List Addr) : Sp := fun vs H Q E => ∃ (p : Addr) (Tb : List (List Int)), vs = [.ref p] ∧ NT H p Tb ∧ TGs Ps H ∧
  ((¬ ∀ x ∈ Tb, x.length = Tb.length) → ∀ H1, Lk H H1 → TGs Ps H1 → ∀ dd, H1 dd = none → E (.ref C) (some dd) (upd H1 dd (.xd [("at", .int 0)]))) ∧
  ((∀ x ∈ Tb, x.length = Tb.length) → ∃ M N : Nat, Tb.length ≤ N ∧ N ≤ 1000 ∧ (∀ x ∈ Tb, DT.Lim M (DT.fn x)) ∧ 0 < N * M ∧ (N * M) ^ N < 2 ^ 8000 ∧ ∀ H', Lk H H' → TGs Ps H' → Q (.int (dtm Tb)) H')
theorem ok_determinant (T : Txt K mg) (X : Errs K mg) (TB : Tbs base T Ps) : FnOk P w K mg base (L2.CX P w) 4 T.determinant.a T.determinant.fd ["numbers"] (sp_determinant X.WrongSize.C Ps) := by
  refine T.determinant.F.okX sc_determinant (fun vs H Q E h => ?_) (fun cdv A outer s H vs Q E hr h => ?_)
  · obtain ⟨p, Tb, rfl, _⟩ := h
    rfl
  · obtain ⟨p, Tb, rfl, hT, tg, qE, qT⟩ := h
    refine ⟨_, (pss_cons (ps_if (pt_not (pt_val (pe_call (ok_is_square T TB) (hr.mono (by decide)) (by rfl) T.is_square.g T.is_square.kp T.is_square.b .nil pass0 (pa_cons (pv 0) pa_nil))))
        (pss_one (ps_raise rfl (takes_of rfl rfl rfl rfl) (pmk_oex X.WrongSize.oex X.WrongSize.iC X.e0.tI (ok_init T X) (hr.mono (by decide)) X.e0.b .nil pass0 (by rfl) X.WrongSize.g (pa_cons pe_int pa_nil))))
        pss_nil)
      (pss_cons (ps_set (i := 1) sc_determinant.nd rfl (.inl rfl) (pe_callB call_len_seq (by rfl) T.m_len (by decide +kernel) (pa_cons (pv 0) pa_nil)))
      (pss_cons (ps_asg (pe_call (ok_triangle T) (hr.mono (by decide)) (by rfl) T.triangle.g T.triangle.F.kp T.triangle.b .nil pass0 (pa_cons (pv 0) (pa_cons (pv 1) pa_nil))) (pg_tup rfl (pgs_cons (pg_name (i := 2) sc_determinant.nd rfl (.inl rfl)) (pgs_cons (pg_name (i := 3) sc_determinant.nd rfl (.inl rfl)) (pgs_cons (pg_name (i := 4) sc_determinant.nd rfl (.inl rfl)) (pgs_cons (pg_name (i := 5) sc_determinant.nd rfl (.inl rfl)) pgs_nil))))))
      (pss_cons (ps_if (pt_cmpR op_lt (pv 3) (pv 1) (nomark _))
        (pss_one (ps_ret pe_int))
        pss_nil)
      (pss_one (ps_ret (pe_op op_mulW (pv 4) (pv 5)))))))), ?_⟩
    refine ⟨.ref p, rfl, p, Tb, rfl, hT, tg, fun b H1 hb lk tg1 => ?_⟩
    by_cases sq : ∀ x ∈ Tb, x.length = Tb.length
    · obtain rfl := hb.mpr sq
      obtain ⟨M, N, hn, hN, lim, hM, hB, q⟩ := qT sq
      have hT1 := hT.lk lk
      obtain ⟨as, hp, hA⟩ := id hT1
      have el := hA.len
      refine ⟨_, rfl, iteF ⟨.ref p, rfl, p, _, rfl, .inl (.of hp), ?_⟩⟩
      rw [List.length_map, el]
      refine ⟨.ref p, rfl, _, rfl, p, Tb, Tb.length, Tb.length, M, N, rfl, hT1, sq, Nat.le_refl _, by omega, hn, hN, lim, hM, hB, fun H' t qa rows r sign last cs P0 s st _ nt ht => ?_⟩
      refine ⟨t, _, rfl, ht, rfl, _, _, rfl, _, _, rfl, _, _, rfl, _, _, rfl, rfl, ?_⟩
      have e := st.square rfl
      have bl := (st.bound hM lim hn).2
      have lk2 := lk.trans (lk_of s)
      have tg2 := tg1.same s
      refine ⟨_, rfl, _, rfl, _, _, rfl, rfl, _, rfl, ite2 (fun h => ?_) (fun h => ?_)⟩
      · have h := of_decide_eq_true h
        rw [if_pos (by omega)] at e
        have := q H' lk2 tg2
        unfold dtm at this
        rw [e] at this
        exact this
      · rw [if_neg (fun z => h (decide_eq_true (by omega)))] at e
        have := q H' lk2 tg2
        unfold dtm at this
        rw [e] at this
        refine ⟨_, rfl, _, rfl, _, _, rfl, rfl, ?_, this⟩
        have l1 : sign.natAbs.log2 < 8000 := by
          rcases st.si with z | z <;> rw [z] <;> decide
        have l2 := log_lt (Nat.lt_of_le_of_lt bl hB) (by decide)
        show _ + _ < 1000000
        omega
    · obtain rfl : b = false := by
        cases b with
        | false => rfl
        | true => exact absurd (hb.mp rfl) sq
      refine ⟨_, rfl, iteT ⟨by show 1 ≤ 1000; decide, LX.raised X.WrongSize (by decide) fun dd hdd => ?_⟩⟩
      exact qE sq H1 lk tg1 dd hdd
end
end K67
-- G7
namespace K67
open PySem PySem.Spec PyProof.Rows L2
open QF (low sg gc)
/-! ### fractions in the heap -/
/-- a fraction stands at a -/
def PR (H : Hp) (a : Addr) (r : Int × Int) : Prop := H a = some (.tup [V.int r.1, V.int r.2])
/-- a list of fractions stands at p -/
def PL (H : Hp) (p : Addr) (rs : List (Int × Int)) : Prop := ∃ as : List Addr, H p = some (.lst (as.map V.ref)) ∧ A2 (PR H) as rs
theorem PR.same {H H' : Hp} {a : Addr} {r : Int × Int} (s : Same H H') (h : PR H a r) : PR H' a r := s _ _ h
theorem PR.lk {H H' : Hp} {a : Addr} {r : Int × Int} (s : Lk H H') (h : PR H a r) : PR H' a r := s.tup h
theorem PR.sq {K : PySem.W.Frag} {H : Hp} {a : Addr} {r : Int × Int} (h : PR H a r) : SqT K H a [V.int r.1, V.int r.2] := .of h
theorem PL.same {H H' : Hp} {p : Addr} {rs : List (Int × Int)} (s : Same H H') (h : PL H p rs) : PL H' p rs := let ⟨as, a, b⟩ := h; ⟨as, s _ _ a, b.mono fun _ _ z => z.same s⟩
theorem PL.lk {H H' : Hp} {p : Addr} {rs : List (Int × Int)} (s : Lk H H') (h : PL H p rs) : PL H' p rs := let ⟨as, a, b⟩ := h; ⟨as, s.lst a, b.mono fun _ _ z => z.lk s⟩
/-- the fraction of two numbers, a new pair -/
def OutP (H : Hp) (Q : VK) (n d : Int) : Prop := ∀ p, H p = none → Q (.ref p) (upd H p (.tup [.int (low n d).1, .int (low n d).2]))
theorem div_ok {n d : Int} (h : d ≠ 0) (hd : d.natAbs < 2 ^ 8990) : LX.CDivWN n (sg n d) ∧ LX.CDivWN d (sg n d) := by
  have h1 := QF.sg_ne (n := n) h
  have h2 := Nat.lt_of_le_of_lt (QF.sg_le (n := n) h) hd
  have h3 : (sg n d).natAbs.log2 < 9000 := Nat.lt_trans (log_lt h2 (by decide)) (by decide)
  exact ⟨⟨h1, h3⟩, ⟨h1, h3⟩⟩
/-- right sides of the drawn size -/
def Rr (r : Int × Int) : Prop := r.1.natAbs ≤ 10 ^ 6 ∧ 0 < r.2 ∧ r.2.natAbs ≤ 10 ^ 6
def belowR (rs : List (Int × Int)) : Int := QF.below (rs.map (·.2))
theorem belowR_facts {rs : List (Int × Int)} (h : ∀ r ∈ rs, Rr r) : 0 < belowR rs ∧ (belowR rs).natAbs ≤ (10 ^ 6) ^ rs.length ∧ ∀ r ∈ rs, ∃ k, belowR rs = k * r.2 := by
  obtain ⟨a, b, c⟩ := QF.below_facts (B := 10 ^ 6) rs.length (rs.map (·.2)) (by rw [List.length_map]) (fun d hd => by
    obtain ⟨r, hr, rfl⟩ := List.mem_map.mp hd
    exact (h r hr).2)
  exact ⟨a, b, fun r hr => c _ (List.mem_map.mpr ⟨r, hr, rfl⟩)⟩
section
variable {P : Program} {w : World} {K : PySem.W.Frag} {mg : Str → Option Value} {base : Heap} {Ps : List Addr}
def sp_lowest : Sp := fun vs H Q _ => ∃ n d : Int, vs = [.int n, .int d] ∧ d ≠ 0 ∧ d.natAbs < 2 ^ 8990 ∧ OutP H Q n d
theorem ok_lowest (T : Txt K mg) : FnOk P w K mg base CX0 1 T.lowest.a T.lowest.fd ["n", "d"] sp_lowest := by
  refine T.lowest.F.ok sc_lowest (fun vs H Q E h => ?_) (fun cdv A outer s H vs Q E hr h => ?_)
  · obtain ⟨n, d, rfl, _⟩ := h
    rfl
  · obtain ⟨n, d, rfl, h0, hd, q⟩ := h
    refine ⟨_, (pss_cons (ps_set (i := 2) sc_lowest.nd rfl (.inl rfl) (pe_callBfun cr_gcd (by rfl) T.x_gcd (pa_cons (pv 0) (pa_cons (pv 1) pa_nil))))
      (pss_cons (ps_if (pt_cmpR op_lt (pv 1) pe_int (nomark _))
        (pss_one (ps_set (i := 2) sc_lowest.nd rfl (.inl rfl) (pe_un un_neg (pv 2))))
        pss_nil)
      (pss_one (ps_ret (pe_tup (pa_cons (pe_op LX.op_fdivWN (pv 0) (pv 2)) (pa_cons (pe_op LX.op_fdivWN (pv 1) (pv 2)) pa_nil))))))), ?_⟩
    obtain ⟨c1, c2⟩ := div_ok (n := n) h0 hd
    have q' := q
    unfold OutP low at q'
    unfold sg at c1 c2 q'
    refine ⟨_, rfl, _, rfl, n, d, rfl, _, rfl, _, _, rfl, rfl, _, rfl, ?_⟩
    refine ite2 (fun h => ?_) (fun h => ?_)
    · have hlt : d < 0 := of_decide_eq_true h
      simp only [if_pos hlt] at c1 c2 q'
      exact ⟨_, rfl, _, rfl, _, rfl, _, rfl, _, _, rfl, rfl, c1, _, rfl, _, rfl, _, _, rfl, rfl, c2, by show 2 ≤ sizeLine; decide, q'⟩
    · have hlt : ¬ d < 0 := fun z => h (decide_eq_true z)
      simp only [if_neg hlt] at c1 c2 q'
      exact ⟨_, rfl, _, rfl, _, _, rfl, rfl, c1, _, rfl, _, rfl, _, _, rfl, rfl, c2, by show 2 ≤ sizeLine; decide, q'⟩
def sp_common_below : Sp := fun vs H Q _ => ∃ (p : Addr) (rs : List (Int × Int)), vs = [.ref p] ∧ PL H p rs ∧ rs.length ≤ 100 ∧ (∀ r ∈ rs, Rr r) ∧ Q (.int (belowR rs)) H
theorem ok_common_below (T : Txt K mg) : FnOk P w K mg base CX0 1 T.common_below.a T.common_below.fd ["many"] sp_common_below := by
  refine T.common_below.F.ok sc_common_below (fun vs H Q E h => ?_) (fun cdv A outer s H vs Q E hr h => ?_)
  · obtain ⟨p, rs, rfl, _⟩ := h
    rfl
  · obtain ⟨p, rs, rfl, hp, hl, hr2, q⟩ := h
    refine ⟨_, (pss_cons (ps_set (i := 1) sc_common_below.nd rfl (.inl rfl) pe_int)
      (pss_cons (ps_for PassesOwn.never rfl (pi_list (pv 0)) (pg_tup rfl (pgs_cons (pg_name (i := 2) sc_common_below.nd rfl (.inl rfl)) (pgs_cons (pg_name (i := 3) sc_common_below.nd rfl (.inl rfl)) pgs_nil)))
        (pss_one (ps_set (i := 1) sc_common_below.nd rfl (.inl rfl) (pe_callBfun LM.cr_lcm (by rfl) T.x_lcm (pa_cons (pv 1) (pa_cons (pv 3) pa_nil))))))
      (pss_one (ps_ret (pv 1))))), ?_⟩
    obtain ⟨as, ha, hA⟩ := id hp
    have el := hA.len
    refine ⟨.ref p, rfl, p, rfl, ⟨_, .of ha⟩, ?_⟩
    refine for_it (walk_list (xs := as.map V.ref)) (fun i σ G => G = H ∧ ∃ x2 x3 : Option V, σ = [some (.ref p), some (.int (belowR (rs.take i))), x2, x3]) ⟨rfl, _, _, rfl⟩ (fun i σ G _ hP => by rw [hP.1]; exact .of ha) (fun i x σ G G' hi hP yy => ?_) (fun σ G hP => ?_)
    · obtain ⟨rfl, x2, x3, rfl⟩ := hP
      obtain ⟨rfl, hx⟩ := yy
      rw [List.getElem?_map] at hx
      cases e : as[i]? with
      | none => rw [e] at hx; cases hx
      | some a =>
        rw [e] at hx
        cases hx
        obtain ⟨r, er, hra⟩ := hA.get e
        refine ⟨a, _, rfl, hra.sq, rfl, _, _, rfl, _, _, rfl, rfl, ?_⟩
        have b1 := (belowR_facts (rs := rs.take i) fun r hr => hr2 r (List.mem_of_mem_take hr)).2.1
        have b2 := hr2 r (List.mem_of_getElem? er)
        have b3 : (10 ^ 6) ^ (rs.take i).length ≤ (10 ^ 6) ^ 100 := Nat.pow_le_pow_right (by decide) (by rw [List.length_take]; omega)
        have e4 : (rs.map (·.2))[i]? = some r.2 := by rw [List.getElem?_map, er]; rfl
        have key : belowR (rs.take (i + 1)) = ((Nat.lcm (belowR (rs.take i)).natAbs r.2.natAbs : Nat) : Int) := by
          unfold belowR
          rw [List.map_take, List.map_take, QF.below_take e4]
        refine ⟨_, rfl, _, rfl, _, _, rfl, Nat.lt_of_le_of_lt (Nat.le_trans b1 b3) (by decide +kernel), Nat.lt_of_le_of_lt b2.2.2 (by decide +kernel), rfl, some (.int r.1), some (.int r.2), ?_⟩
        rw [key]
        rfl
    · obtain ⟨rfl, x2, x3, rfl⟩ := hP
      rw [List.length_map, el, List.take_length]
      exact ⟨_, rfl, q⟩
/-- the right sides as whole numbers -/
def wholeR (rs : List (Int × Int)) (b : Int) : List Int := rs.map fun r => r.1 * (b / r.2)
def sp_whole : Sp := fun vs H Q _ => ∃ (p : Addr) (rs : List (Int × Int)) (b : Int), vs = [.ref p, .int b] ∧ PL H p rs ∧ rs.length ≤ 100 ∧ (∀ r ∈ rs, Rr r) ∧ b.natAbs < 2 ^ 6000 ∧ ∀ H' q, Same H H' → H q = none → IL H' q (wholeR rs b) → Q (.ref q) H'
theorem ok_whole (T : Txt K mg) : FnOk P w K mg base CX0 1 T.whole.a T.whole.fd ["many", "below"] sp_whole := by
  refine T.whole.F.ok sc_whole (fun vs H Q E h => ?_) (fun cdv A outer s H vs Q E hr h => ?_)
  · obtain ⟨p, rs, b, rfl, _⟩ := h
    rfl
  · obtain ⟨p, rs, b, rfl, hp, hl, hr2, hb, q⟩ := h
    refine ⟨_, (pss_one (ps_ret (pe_lc (own := [("n", 2), ("d", 3)]) (g := gTup K 2 (gCons (gName 2) (gCons (gName 3) gNil))) rfl sc_whole.nd (pi_list (pv 0)) (blkOk_by (N := ["many", "below", "n", "d"]) (sc := defScope s_whole) (by decide +kernel)) (fun _ _ _ _ _ => (pg_tup rfl (pgs_cons (pg_name (i := 2) sc_whole.nd rfl (.inl rfl)) (pgs_cons (pg_name (i := 3) sc_whole.nd rfl (.inl rfl)) pgs_nil)))) (fun _ _ _ _ _ => pts_nil) (fun _ _ _ _ _ => (pe_op op_mulW (pv 2) (pe_op op_fdivW (pv 1) (pv 3))))))), ?_⟩
    obtain ⟨as, ha, hA⟩ := id hp
    have el := hA.len
    refine ⟨.ref p, rfl, p, rfl, ⟨_, .of ha⟩, fun D nD => ?_⟩
    refine lc_inv (walk_list (xs := as.map V.ref)) (fun i G ys => ys = (wholeR (rs.take i) b).map V.int) nD (fun G s => .of (s _ _ ha)) (small' (by rw [List.length_map]; omega)) rfl (fun i y G Hx ys hi sm hD hR yy Qt Qf qt qf => ?_) (fun G ys sm hD hR => ?_)
    · obtain ⟨rfl, hx⟩ := yy
      have hx2 : (as.map V.ref)[i]? = some y := hx
      rw [List.getElem?_map] at hx2
      cases e : as[i]? with
      | none => rw [e] at hx2; cases hx2
      | some a =>
        rw [e] at hx2
        cases hx2
        obtain ⟨r, er, hra⟩ := hA.get e
        have b2 := hr2 r (List.mem_of_getElem? er)
        have l1 : r.1.natAbs.log2 < 6000 := log_lt (Nat.lt_of_le_of_lt b2.1 (by decide +kernel)) (by decide)
        have l2 : (b / r.2).natAbs.log2 < 6000 := log_lt (Nat.lt_of_le_of_lt (Int.natAbs_ediv_le_natAbs _ _) hb) (by decide)
        refine ⟨a, _, rfl, (hra.same sm).sq, rfl, _, _, rfl, _, _, rfl, rfl, rfl, _, rfl, _, rfl, _, rfl, _, _, rfl, rfl, ⟨b2.2.1, Nat.lt_trans (log_lt (Nat.lt_of_le_of_lt b2.2.2 (by decide +kernel : 10 ^ 6 < 2 ^ 20)) (by decide)) (by decide)⟩, _, _, rfl, rfl, (by show _ + _ < 1000000; omega), ?_⟩
        refine qt _ _ (Same.refl _) ?_
        rw [hR]
        unfold wholeR
        rw [take_snoc er, List.map_append, List.map_append]
        rfl
    · rw [List.length_map, el, List.take_length] at hR
      subst hR
      exact q G D sm nD hD
end
end K67
-- G8
namespace K67
open PySem PySem.Spec PyProof.Rows L2
open QF (low sg gc)
theorem DefT.okX {P : Program} {w : World} {K : PySem.W.Frag} {mg : Str → Option Value} {base : Heap} {x : Str} {st : Stmt} {N ps : List Str} {k : Nat} {sp : Sp} (T : DefT K mg x st ps) (S : FnScope N ps (defScope st)) (len : ∀ vs H Q E, sp vs H Q E → vs.length = ps.length)
    (hbody : ∀ (A : Around) (outer : List Env) (s : Shared) (H : Hp) (vs : List V) (Q : VK) (E : XK), Room k (A.deeper (envOfC x (defScope st) s.heap.objs.size T.a (.ref T.c))) → sp vs H Q E →
      ∃ t, PSs (cxOf (L2.CX P w) P w K mg base N x (defScope st) T.a (.ref T.c) A outer s H E) (defBody st) t ∧ t { nx := fun _ H' => Q .non H', rt := Q } (L2.start N vs) H) : FnOk P w K mg base (L2.CX P w) (k + 1) T.a T.fd ps sp := by
  obtain ⟨a, c, fd, ⟨oc, od, dV, kV, doc, pm, an, ct, osl, rfl, lk, hcd⟩, kp, b, g⟩ := T
  exact fn_of lk hcd S len fun A outer s H vs Q E hr hsp => hbody A outer s H vs Q E hr hsp
/-- none of what stands in H, the tables of code aside -/
def Nw (H : Hp) (D : Addr) : Prop := ∀ b o, H b = some o → (∀ q, o ≠ .tbl q) → b ≠ D
theorem nw_of {H H1 : Hp} {D : Addr} (l : Lk H H1) (n : H1 D = none) : Nw H D := fun b o e t z => by
  have := l b o e t
  rw [z, n] at this
  cases this
theorem Nw.lk {H H1 : Hp} {D : Addr} (l : Lk H H1) (n : Nw H1 D) : Nw H D := fun b o e t => n b o (l b o e t) t
theorem Nw.put {H H1 : Hp} {D : Addr} {o : HO} (n : Nw H D) (l : Lk H H1) : Lk H (upd H1 D o) := fun b x e t => by
  rw [upd_ne (n b x e t)]
  exact l b x e t
/-- a table and sides of the drawn size -/
structure Drw (Tb : List (List Int)) (rs : List (Int × Int)) : Prop where
  len : Tb.length ≤ 16
  lim : ∀ x ∈ Tb, DT.Lim (10 ^ 6) (DT.fn x)
  rr : ∀ r ∈ rs, Rr r
def Fit (Tb : List (List Int)) (rs : List (Int × Int)) : Prop := rs.length = Tb.length ∧ ∀ x ∈ Tb, x.length = Tb.length
section
variable {P : Program} {w : World} {K : PySem.W.Frag} {mg : Str → Option Value} {base : Heap} {Ps : List Addr}
theorem wholeR_rel {rs : List (Int × Int)} {i : Nat} {r : Int × Int} (h : ∀ r ∈ rs, Rr r) (hr : rs[i]? = some r) : (wholeR rs (belowR rs))[i]? = some (r.1 * (belowR rs / r.2)) ∧ (belowR rs / r.2) * r.2 = belowR rs := by
  obtain ⟨b0, b1, b2⟩ := belowR_facts h
  refine ⟨by unfold wholeR; rw [List.getElem?_map, hr]; rfl, ?_⟩
  obtain ⟨k, hk⟩ := b2 r (List.mem_of_getElem? hr)
  have p := (h r (List.mem_of_getElem? hr)).2.1
  rw [hk, Int.mul_ediv_cancel _ (by omega)]
theorem belowR_le {rs : List (Int × Int)} (h : ∀ r ∈ rs, Rr r) (l : rs.length ≤ 16) : (belowR rs).natAbs ≤ 2 ^ 320 := by
  obtain ⟨b0, b1, b2⟩ := belowR_facts h
  refine Nat.le_trans b1 (Nat.le_trans (Nat.pow_le_pow_right (by decide) l) (by decide +kernel))
theorem wholeR_le {rs : List (Int × Int)} (h : ∀ r ∈ rs, Rr r) (l : rs.length ≤ 16) : ∀ v ∈ wholeR rs (belowR rs), v.natAbs ≤ 2 ^ 341 := fun v hv => by
  obtain ⟨r, hr, rfl⟩ := List.mem_map.mp hv
  rw [Int.natAbs_mul]
  refine Nat.le_trans (Nat.mul_le_mul (h r hr).1 (Nat.le_trans (Int.natAbs_ediv_le_natAbs _ _) (belowR_le h l))) (by decide +kernel)
theorem dtm_le {Tb : List (List Int)} (l : Tb.length ≤ 16) (h : ∀ x ∈ Tb, DT.Lim (10 ^ 6) (DT.fn x)) : (dtm Tb).natAbs ≤ 2 ^ 400 := by
  unfold dtm
  refine Nat.le_trans (DT.dt_bound (M := 10 ^ 6) (N := 16) _ _ (fun x hx => ?_) (by rw [List.length_map, List.length_reverse, List.length_range]) (by rw [List.length_reverse, List.length_range]; exact l)) ?_
  · obtain ⟨y, hy, rfl⟩ := List.mem_map.mp hx
    exact h y hy
  · rw [List.length_reverse, List.length_range]
    exact Nat.le_trans (Nat.pow_le_pow_right (by decide) l) (by decide +kernel)
def sp_solved (C : Addr) (Ps : List Addr) : Sp := fun vs H Q E => ∃ (p q : Addr) (Tb : List (List Int)) (rs : List (Int × Int)), vs = [.ref p, .ref q] ∧ NT H p Tb ∧ PL H q rs ∧ TGs Ps H ∧ Tb.length ≤ 1000 ∧
  (¬ Fit Tb rs → ∀ H1, Lk H H1 → TGs Ps H1 → ∀ dd, H1 dd = none → E (.ref C) (some dd) (upd H1 dd (.xd [("at", .int 0)]))) ∧
  (Fit Tb rs → Drw Tb rs ∧ (dtm Tb = 0 → ∀ H', Lk H H' → TGs Ps H' → Q .non H') ∧
    (dtm Tb ≠ 0 → ∀ H' D sols Dn, Lk H H' → TGs Ps H' → Nw H D → Dn ≠ 0 → Dn.natAbs ≤ 2 ^ 800 → sols.length = Tb.length → (∀ v ∈ sols, v.natAbs < 2 ^ 8000) →
      (∀ (i : Nat) (x : List Int) (r : Int × Int), Tb[i]? = some x → rs[i]? = some r → low (DT.dot Tb.length (DT.fn x) (DT.fn sols)) Dn = low r.1 r.2) → PL H' D (sols.map fun v => low v Dn) → Q (.ref D) H'))
theorem ok_solved (T : Txt K mg) (X : Errs K mg) (TB : Tbs base T Ps) : FnOk P w K mg base (L2.CX P w) 5 T.solved.a T.solved.fd ["rows", "right"] (sp_solved X.WrongSize.C Ps) := by
  refine T.solved.okX sc_solved (fun vs H Q E h => ?_) (fun A outer s H vs Q E hr h => ?_)
  · obtain ⟨p, q, Tb, rs, rfl, _⟩ := h
    rfl
  · obtain ⟨p, q, Tb, rs, rfl, hT, hq, tg, ltb, qE, qT⟩ := h
    refine ⟨_, (pss_cons (ps_if (PW.pt (pw_or (pt_cmpR op_ne (pe_callB call_len_seq (by rfl) T.m_len (by decide +kernel) (pa_cons (pv 1) pa_nil)) (pe_callB call_len_seq (by rfl) T.m_len (by decide +kernel) (pa_cons (pv 0) pa_nil)) (nomark _)) (pw_or1 (pt_not (pt_val (GN.pe_allG (own := [("row", 6)]) hr sc_solved.nd (by rfl) T.m_all TB.solved rfl (GN.nmOk_by (blkOk_by (N := ["rows", "right", "below", "factor", "found", "number", "row"]) (sc := defScope s_solved) (by decide +kernel))) (pi_list (pv 0)) (fun _ _ _ _ _ _ => (pg_name (i := 6) sc_solved.nd rfl (.inl rfl))) (fun _ _ _ _ _ _ hr2 gd2 => (pe_cmpR op_eq (pe_callB (id := "len") (r := rLenS K) call_lenC (by rfl) T.m_len (by decide +kernel) (pa_cons (pv 6) pa_nil)) (pe_callB (id := "len") (r := rLenS K) call_lenC (by rfl) T.m_len (by decide +kernel) (pa_cons (pv 0) pa_nil)) (nomark _)))))))))
        (pss_one (ps_raise rfl (takes_of rfl rfl rfl rfl) (pmk_oex X.WrongSize.oex X.WrongSize.iC X.e0.tI (ok_init T X) (hr.mono (by decide)) X.e0.b .nil pass0 (by rfl) X.WrongSize.g (pa_cons pe_int pa_nil))))
        pss_nil)
      (pss_cons (ps_if (pt_cmpR op_eq (pe_call (ok_determinant T X TB) (hr.mono (by decide)) (by rfl) T.determinant.g T.determinant.F.kp T.determinant.b .nil (passes_call (takes_of rfl rfl rfl rfl) fun _ _ _ _ h => h) (pa_cons (pv 0) pa_nil)) pe_int (nomark _))
        (pss_one (ps_ret pe_non))
        pss_nil)
      (pss_cons (ps_set (i := 2) sc_solved.nd rfl (.inr rfl) (pe_call (ok_common_below T) (hr.mono (by decide)) (by rfl) T.common_below.g T.common_below.F.kp T.common_below.b .nil pass0 (pa_cons (pv 1) pa_nil)))
      (pss_cons (ps_asg (pe_call (ok_solved_whole T) (hr.mono (by decide)) (by rfl) T.solved_whole.g T.solved_whole.F.kp T.solved_whole.b .nil pass0 (pa_cons (pv 0) (pa_cons (pe_call (ok_whole T) (hr.mono (by decide)) (by rfl) T.whole.g T.whole.F.kp T.whole.b .nil pass0 (pa_cons (pv 1) (pa_cons (pv 2) pa_nil))) pa_nil))) (pg_tup rfl (pgs_cons (pg_name (i := 3) sc_solved.nd rfl (.inr rfl)) (pgs_cons (pg_name (i := 4) sc_solved.nd rfl (.inl rfl)) pgs_nil))))
      (pss_one (ps_ret (pe_lc (own := [("number", 5)]) rfl sc_solved.nd (pi_list (pv 4)) (blkOk_by (N := ["rows", "right", "below", "factor", "found", "number", "row"]) (sc := defScope s_solved) (by decide +kernel)) (fun _ _ _ _ _ => (pg_name (i := 5) sc_solved.nd rfl (.inl rfl))) (fun _ _ _ _ _ => pts_nil) (fun _ _ _ _ _ => (pe_call (ok_lowest T) (hr.mono (by decide)) (by rfl) T.lowest.g T.lowest.F.kp T.lowest.b .nil pass0 (pa_cons (pv 5) (pa_cons (pe_op op_mulW (pv 3) (pv 2)) pa_nil))))))))))), ?_⟩
    obtain ⟨as, hp, hA⟩ := id hT
    have el := hA.len
    obtain ⟨bs, hqb, hB⟩ := id hq
    have elb := hB.len
    refine ⟨.ref q, rfl, q, _, rfl, .inl (.of hqb), .ref p, rfl, p, _, rfl, .inl (.of hp), rfl, _, rfl, ?_⟩
    rw [List.length_map, List.length_map, el, elb]
    have bad : ∀ H1, ¬ Fit Tb rs → Lk H H1 → TGs Ps H1 → _ := fun H1 nf lk tg1 => LX.raised X.WrongSize (by decide) fun dd hdd => qE nf H1 lk tg1 dd hdd
    refine ite2 (fun h => ?_) (fun h => ?_)
    · refine ⟨by show 1 ≤ 1000; decide, bad H (fun f => ?_) (Lk.refl) tg⟩
      rw [f.1, decide_eq_true rfl] at h
      cases h
    have e1 : rs.length = Tb.length := by
      by_cases z : rs.length = Tb.length
      · exact z
      · exact absurd (by rw [decide_eq_false (fun y => z (by have := V.int.inj y; omega))]; rfl) h
    refine ⟨.ref p, rfl, p, rfl, ⟨_, .of hp⟩, tg _ TB.m2, ?_⟩
    refine GN.gn_it (walk_list (xs := as.map V.ref)) (fun i G => Lk H G ∧ TGs Ps G ∧ ∀ x ∈ Tb.take i, x.length = Tb.length) (fun G t => ⟨lk_tab (tg _ TB.m2) t, tg.tab t, fun x hx => by simp at hx⟩) (fun _ _ _ pv => .of (pv.1.lst hp)) (fun i x G G' hi pv y => ?_) (fun G pv => ?_)
    · obtain ⟨lk, t, al⟩ := pv
      obtain ⟨rfl, hx⟩ := y
      rw [List.getElem?_map] at hx
      cases e : as[i]? with
      | none => rw [e] at hx; cases hx
      | some a =>
        rw [e] at hx
        cases hx
        obtain ⟨z, ez, hz⟩ := hA.get e
        refine ⟨rfl, _, rfl, a, _, rfl, .inl (IL.sq (lk.lst hz)), .ref p, rfl, p, _, rfl, .inl (.of (lk.lst hp)), rfl, ?_⟩
        rw [List.length_map, List.length_map, el]
        by_cases h : z.length = Tb.length
        · refine ⟨_, rfl, ?_⟩
          rw [h, decide_eq_true rfl]
          exact GN.on_t ⟨lk, t, take_all ez al h⟩
        · refine ⟨_, rfl, ?_⟩
          rw [decide_eq_false (fun y => h (by have := V.int.inj y; omega))]
          refine GN.end_f ⟨_, rfl, iteT ⟨by show 1 ≤ 1000; decide, bad G' (fun f => h (f.2 z (List.mem_of_getElem? ez))) lk t⟩⟩
    · obtain ⟨lk, t, al⟩ := pv
      rw [List.length_map, el, List.take_length] at al
      have fit : Fit Tb rs := ⟨e1, al⟩
      obtain ⟨dw, q0, q1⟩ := qT fit
      have hT1 := hT.lk lk
      have hq1 := hq.lk lk
      have lr : rs.length ≤ 16 := by have := dw.len; omega
      refine ⟨_, rfl, iteF ⟨.ref p, rfl, p, Tb, rfl, hT1, t, fun n => absurd al n, fun _ => ⟨10 ^ 6, 16, dw.len, by decide, dw.lim, by decide, by decide +kernel, fun H2 lk2 t2 => ?_⟩⟩⟩
      have lk02 := lk.trans lk2
      have hT2 := hT1.lk lk2
      have hq2 := hq1.lk lk2
      refine ⟨rfl, _, rfl, ite2 (fun h => ?_) (fun h => ?_)⟩
      · exact q0 (V.int.inj (of_decide_eq_true h)) H2 lk02 t2
      have nz : dtm Tb ≠ 0 := fun z => h (by rw [z]; rfl)
      obtain ⟨b0, b1, b2⟩ := belowR_facts dw.rr
      have b3 := belowR_le dw.rr lr
      refine ⟨.ref q, rfl, q, rs, rfl, hq2, by omega, dw.rr, ?_⟩
      refine ⟨.ref p, rfl, .ref q, rfl, _, rfl, q, rs, _, rfl, hq2, by omega, dw.rr, Nat.lt_of_le_of_lt b3 (by decide +kernel), fun H3 q3 s3 n3 hq3 => ?_⟩
      have lw : (wholeR rs (belowR rs)).length = Tb.length := by unfold wholeR; rw [List.length_map, e1]
      refine ⟨p, q3, Tb, _, 2 ^ 341, 17, rfl, hT2.same s3, hq3, al, lw, by have := dw.len; omega, by decide, fun x hx j => Nat.le_trans (dw.lim x hx j) (by decide +kernel), wholeR_le dw.rr lr, by decide +kernel, by decide +kernel, nz, fun H4 t4 D4 sols last s4 hlast hls rel hbs hD4 ht4 => ?_⟩
      refine ⟨t4, _, rfl, ht4, rfl, _, _, rfl, _, _, rfl, rfl, ?_⟩
      have lnz : last ≠ 0 := by rcases hlast with z | z <;> omega
      have llast : last.natAbs ≤ 2 ^ 400 := by
        have := dtm_le dw.len dw.lim
        rcases hlast with z | z
        · rw [z]; exact this
        · rw [z, Int.natAbs_neg]; exact this
      have Dnz : last * belowR rs ≠ 0 := Int.mul_ne_zero lnz (by omega)
      have Dle : (last * belowR rs).natAbs ≤ 2 ^ 800 := by
        rw [Int.natAbs_mul]
        exact Nat.le_trans (Nat.mul_le_mul llast b3) (by decide +kernel)
      have wide : last.natAbs.log2 + (belowR rs).natAbs.log2 < 1000000 := by
        have := log_lt (Nat.lt_of_le_of_lt llast (by decide +kernel : 2 ^ 400 < 2 ^ 401)) (by decide)
        have := log_lt (Nat.lt_of_le_of_lt b3 (by decide +kernel : 2 ^ 320 < 2 ^ 321)) (by decide)
        omega
      refine ⟨.ref D4, rfl, D4, rfl, ⟨_, hD4.sq⟩, fun D nD => ?_⟩
      refine lc_inv (walk_list (xs := sols.map V.int)) (fun i G ys => ∃ cs : List Addr, ys = cs.map V.ref ∧ A2 (fun a x => a ≠ D ∧ PR G a x) cs ((sols.take i).map fun v => low v (last * belowR rs))) nD (fun G s => (hD4.same s).sq) (small' (by rw [List.length_map]; omega)) ⟨[], rfl, .nil⟩ (fun i y G5 Hx ys hi sm hD hR yy Qt Qf qt qf => ?_) (fun G5 ys sm hD hR => ?_)
      · obtain ⟨rfl, hx⟩ := yy
        obtain ⟨cs, rfl, hA2⟩ := hR
        obtain ⟨v, ev, rfl⟩ := mapI_at hx
        refine ⟨rfl, _, rfl, _, rfl, _, rfl, _, _, rfl, rfl, wide, v, last * belowR rs, rfl, Dnz, Nat.lt_of_le_of_lt Dle (by decide +kernel), fun l nl => ?_⟩
        have lD : l ≠ D := fun z => by rw [z, hD] at nl; cases nl
        have sl := same_upd nl (o := .tup [V.int (low v (last * belowR rs)).1, V.int (low v (last * belowR rs)).2])
        refine qt _ _ sl ⟨cs ++ [l], by rw [List.map_append]; rfl, ?_⟩
        rw [take_snoc ev, List.map_append]
        exact A2.snoc ⟨lD, (upd_ne lD).trans upd_same⟩ (hA2.mono fun b y z => ⟨z.1, (upd_ne z.1).trans (z.2.same sl)⟩)
      · obtain ⟨cs, rfl, hA2⟩ := hR
        rw [List.length_map, List.take_length] at hA2
        have s24 := (s3.trans s4).trans sm
        refine q1 nz G5 D sols _ (lk02.trans (lk_of s24)) (t2.same s24) (nw_of (lk02.trans (lk_of (s3.trans s4))) nD) Dnz Dle hls (fun v hv => Nat.lt_of_le_of_lt (hbs v hv) (by decide +kernel)) (fun i x r hx hr2 => ?_) ⟨cs, hD, hA2.mono fun _ _ z => z.2⟩
        obtain ⟨w1, w2⟩ := wholeR_rel dw.rr hr2
        rw [rel i x _ hx w1]
        refine QF.low_eq Dnz (by have := (dw.rr r (List.mem_of_getElem? hr2)).2.1; omega) ?_
        generalize belowR rs / r.2 = y at w2 ⊢
        rw [← w2]
        grind
end
end K67
-- H7
set_option exponentiation.threshold 300

namespace K67
open PySem PySem.Spec PyProof.Rows L2
open QF (low sg gc)
def cf (ns : List Int) (m : Nat) : Int := ns.getD m 0
theorem at_map' {ns : List Int} {i : Int} {m : Nat} (e : i = (m : Int)) (h : m < ns.length) : atI (ns.map V.int) i = some (V.int (cf ns m)) := by
  rw [e]
  refine atI_nat ?_
  rw [List.getElem?_map, at_getD (d := 0) h]; rfl
theorem menu3 {x y z r : Int} (h0 : 0 ≤ r) (h1 : r < 3) : ∃ t, atI [V.int x, V.int y, V.int z] r = some (.int t) ∧ (t = x ∨ t = y ∨ t = z) := by
  obtain rfl | rfl | rfl : r = 0 ∨ r = 1 ∨ r = 2 := by omega
  · exact ⟨x, rfl, .inl rfl⟩
  · exact ⟨y, rfl, .inr (.inl rfl)⟩
  · exact ⟨z, rfl, .inr (.inr rfl)⟩
theorem menu2 {x y r : Int} (h0 : 0 ≤ r) (h1 : r < 2) : ∃ t, atI [V.int x, V.int y] r = some (.int t) ∧ (t = x ∨ t = y) := by
  obtain rfl | rfl : r = 0 ∨ r = 1 := by omega
  · exact ⟨x, rfl, .inl rfl⟩
  · exact ⟨y, rfl, .inr rfl⟩
section
variable {P : Program} {w : World} {K : PySem.W.Frag} {mg : Str → Option Value} {base : Heap}
def sp_law_draws (K : PySem.W.Frag) : Sp := fun vs H Q _ => ∃ (a : Addr) (ns : List Int), vs = [.ref a] ∧ SqL K H a (ns.map V.int) ∧ ns.length ≤ 63 ∧ ∀ H' p ds, Same H H' → H p = none → IL H' p ds → ds.length ≤ 4000 → Q (.ref p) H'
theorem ok_law_draws (T : Txt K mg) : FnOk P w K mg base CX0 1 T.law_draws.a T.law_draws.fd ["script"] (sp_law_draws K) := by
  refine T.law_draws.F.ok sc_law_draws (fun vs H Q E h => ?_) (fun cdv A outer s H vs Q E hr h => ?_)
  · obtain ⟨a, ns, rfl, _⟩ := h
    rfl
  · obtain ⟨a, ns, rfl, ha, hl, q⟩ := h
    refine ⟨_, (pss_cons (ps_set (i := 1) sc_law_draws.nd rfl (.inl rfl) (pe_lst pa_nil))
      (pss_cons (ps_for PassesOwn.never rfl (pi_range1 (by rfl) T.m_range (pa_cons (pe_callB (call_min2 rfl) (by rfl) T.m_min (by decide +kernel) (pa_cons pe_int (pa_cons (pe_callB call_len_seq (by rfl) T.m_len (by decide +kernel) (pa_cons (pv 0) pa_nil)) pa_nil))) pa_nil)) (pg_name (i := 2) sc_law_draws.nd rfl (.inl rfl))
        (pss_cons (ps_set (i := 3) sc_law_draws.nd rfl (.inl rfl) (pe_callB call_abs (by rfl) T.m_abs (by decide +kernel) (pa_cons (pe_ix ix_list (pv 0) (pv 2) (fun _ _ => rfl)) pa_nil)))
        (pss_one (ps_if (pt_cmpR op_ge (pv 3) (pe_op op_pow pe_int pe_int) (nomark _))
          (pss_one (ps_for PassesOwn.never rfl (pi_range1 (by rfl) T.m_range (pa_cons pe_int pa_nil)) (pg_name (i := 4) sc_law_draws.nd rfl (.inl rfl))
            (pss_one (ps_if (pt_cmpR op_gt (pv 3) pe_int (nomark _))
              (pss_cons (ps_expr (pe_bm PySem.F.plainAttrs_list PySem.F.slot_list_append PySem.F.type_list_append mt_append (pv 1) (pa_cons (pe_op op_mod (pe_callTy call_int1 (by rfl) T.m_int (by decide +kernel) (pa_cons (pv 3) pa_nil)) pe_int) pa_nil)))
              (pss_one (ps_set (i := 3) sc_law_draws.nd rfl (.inl rfl) (pe_op op_fdiv (pv 3) pe_int))))
              pss_nil))))
          (pss_cons (ps_set (i := 5) sc_law_draws.nd rfl (.inl rfl) (pe_op op_mod (pe_callTy call_int1 (by rfl) T.m_int (by decide +kernel) (pa_cons (pe_op op_add (pe_op op_mul (pv 3) pe_int) (pe_op op_mul (pe_op op_add (pv 2) pe_int) pe_int)) pa_nil)) pe_int))
          (pss_cons (ps_set (i := 5) sc_law_draws.nd rfl (.inl rfl) (pe_op op_mod (pe_callTy call_int1 (by rfl) T.m_int (by decide +kernel) (pa_cons (pe_op op_add (pe_op op_add (pe_op op_mul (pv 5) pe_int) (pe_op op_mul pe_int (pv 2))) pe_int) pa_nil)) pe_int))
          (pss_cons (ps_expr (pe_bm PySem.F.plainAttrs_list PySem.F.slot_list_append PySem.F.type_list_append mt_append (pv 1) (pa_cons (pe_op op_mod (pe_callTy call_int1 (by rfl) T.m_int (by decide +kernel) (pa_cons (pv 5) pa_nil)) pe_int) pa_nil)))
          (pss_one (ps_expr (pe_bm PySem.F.plainAttrs_list PySem.F.slot_list_append PySem.F.type_list_append mt_append (pv 1) (pa_cons (pe_op op_mod (pe_callTy call_int1 (by rfl) T.m_int (by decide +kernel) (pa_cons (pe_op op_fdiv (pv 5) pe_int) pa_nil)) pe_int) pa_nil)))))))))))
      (pss_one (ps_ret (pv 1))))), ?_⟩
    refine ⟨Nat.zero_le _, fun p hp => ?_⟩
    have s0 := same_upd (o := .lst []) hp
    obtain ⟨L, hL, eL⟩ : ∃ L : Nat, L ≤ ns.length ∧ L ≤ 63 ∧ (if ((ns.map V.int).length : Int) < 63 then ((ns.map V.int).length : Int) else 63) = (L : Int) := by
      refine ⟨min ns.length 63, Nat.min_le_left _ _, Nat.min_le_right _ _, ?_⟩
      rw [List.length_map]
      split <;> omega
    refine ⟨.ref a, rfl, a, _, rfl, .inl (s0.seq ha), 63, _, rfl, (L : Int), congrArg (fun z => [V.int z]) eL.2, by omega, by omega, ?_⟩
    refine for_range (n := (L : Int).toNat) (lo := 0) (fun i σ H' => Same H H' ∧ ∃ ds v2 v3 v4 v5, σ = [some (.ref a), some (.ref p), v2, v3, v4, v5] ∧ IL H' p ds ∧ ds.length ≤ 60 * i) ⟨s0, [], none, none, none, none, rfl, upd_same, Nat.zero_le _⟩ (fun i σ H' hi hP => ?_) (fun σ H' hP => ?_)
    · obtain ⟨sm, ds, v2, v3, v4, v5, rfl, hd, hn⟩ := hP
      have hi' : i < ns.length := by omega
      refine ⟨.ref a, rfl, _, rfl, a, _, _, _, rfl, rfl, sm.seq ha, at_map' (m := i) (by omega) hi', _, rfl, ?_⟩
      obtain ⟨r, hr1, er⟩ : ∃ r : Int, 0 ≤ r ∧ (if cf ns i < 0 then -cf ns i else cf ns i) = r := ⟨_, by split <;> omega, rfl⟩
      rw [er]
      refine ⟨_, rfl, _, _, rfl, rfl, ⟨by decide, by decide, by decide⟩, _, _, rfl, rfl, _, rfl, ?_⟩
      refine ite2 (fun _ => ?_) (fun hlt => ?_)
      · refine ⟨60, rfl, by decide, by decide, ?_⟩
        refine for_range (n := 60) (lo := 0) (fun j σ H' => Same H H' ∧ ∃ ds v2 v4 v5 r, σ = [some (.ref a), some (.ref p), v2, some (.int r), v4, v5] ∧ 0 ≤ r ∧ IL H' p ds ∧ ds.length ≤ 60 * i + j) ⟨sm, ds, _, _, _, r, rfl, hr1, hd, hn⟩ (fun j σ H' hj hP => ?_) (fun σ H' hP => ?_)
        · obtain ⟨sm, ds, v2, v4, v5, r, rfl, hr1, hd, hn⟩ := hP
          refine ⟨_, rfl, _, _, rfl, rfl, _, rfl, ?_⟩
          refine ite2 (fun _ => ?_) (fun _ => ⟨sm, ds, _, _, _, r, rfl, hr1, hd, by omega⟩)
          refine ⟨.ref p, rfl, .inl ⟨rfl, _, hd.sq⟩, _, rfl, .inl ⟨_, rfl, _, _, rfl, rfl, (by show (0 : Int) < _; decide), p, _, _, rfl, rfl, hd, by rw [List.length_map]; exact small' (by omega), ?_⟩⟩
          rw [app_ints]
          refine ⟨_, rfl, _, _, rfl, rfl, ⟨by decide, by decide⟩, ?_⟩
          exact ⟨same_over sm hp, _, _, _, _, _, rfl, by omega, il_upd, by rw [List.length_append]; show _ + 1 ≤ _; omega⟩
        · obtain ⟨sm, ds, v2, v4, v5, r, rfl, hr1, hd, hn⟩ := hP
          exact ⟨sm, ds, _, _, _, _, rfl, hd, by omega⟩
      · have hr2 : r < 10 ^ 18 := by
          have e : ((10 : Int) ^ (18 : Int).toNat) = 10 ^ 18 := rfl
          rw [e] at hlt
          have := of_decide_eq_false (Bool.eq_false_iff.mpr hlt)
          omega
        refine ⟨_, rfl, _, _, rfl, rfl, .inl ⟨by omega, by omega⟩, _, rfl, _, _, rfl, rfl, _, _, rfl, rfl, .inr ⟨by decide, by decide⟩, _, _, rfl, rfl, .inl ⟨_, rfl, _, _, rfl, rfl, (by show (0 : Int) < _; decide), ?_⟩⟩
        refine ⟨_, rfl, _, _, rfl, rfl, .inr ⟨by decide, by decide⟩, _, rfl, _, _, rfl, rfl, .inl ⟨by decide, by decide⟩, _, _, rfl, rfl, _, _, rfl, rfl, .inl ⟨_, rfl, _, _, rfl, rfl, (by show (0 : Int) < _; decide), ?_⟩⟩
        refine ⟨.ref p, rfl, .inl ⟨rfl, _, hd.sq⟩, _, rfl, .inl ⟨_, rfl, _, _, rfl, rfl, (by show (0 : Int) < _; decide), p, _, _, rfl, rfl, hd, by rw [List.length_map]; exact small' (by omega), ?_⟩⟩
        rw [app_ints]
        refine ⟨.ref p, rfl, .inl ⟨rfl, _, il_upd.sq⟩, _, rfl, _, _, rfl, rfl, ⟨by decide, by decide⟩, .inl ⟨_, rfl, _, _, rfl, rfl, (by show (0 : Int) < _; decide), p, _, _, rfl, rfl, il_upd, by rw [List.length_map, List.length_append]; exact small' (by show _ + 1 < _; omega), ?_⟩⟩
        rw [app_ints]
        exact ⟨same_over (same_over sm hp) hp, _, _, _, _, _, rfl, il_upd, by rw [List.length_append, List.length_append]; show _ + 1 + 1 ≤ _; omega⟩
    · obtain ⟨sm, ds, v2, v3, v4, v5, rfl, hd, hn⟩ := hP
      exact ⟨_, rfl, q H' p ds sm hp hd (by omega)⟩
def sp_law_mix : Sp := fun vs H Q _ => ∃ (a : Addr) (ds : List Int) (k many : Int), vs = [.ref a, .int k, .int many] ∧ IL H a ds ∧ 0 ≤ k ∧ 0 < many ∧ ∀ r, 0 ≤ r → r < many → Q (.int r) H
theorem ok_law_mix (T : Txt K mg) : FnOk P w K mg base CX0 1 T.law_mix.a T.law_mix.fd ["draws", "k", "many"] sp_law_mix := by
  refine T.law_mix.F.ok sc_law_mix (fun vs H Q E h => ?_) (fun cdv A outer s H vs Q E hr h => ?_)
  · obtain ⟨a, ds, k, m, rfl, _⟩ := h
    rfl
  · obtain ⟨a, ds, k, m, rfl, ha, hk, hm, q⟩ := h
    have qq : ∀ z : Int, Q (.int (z % m)) H := fun z => q _ (Int.emod_nonneg _ (by omega)) (Int.emod_lt_of_pos _ hm)
    refine ⟨_, (pss_cons (ps_set (i := 3) sc_law_mix.nd rfl (.inl rfl) pe_int)
      (pss_cons (ps_if (pt_cmpR op_gt (pe_callB call_len_seq (by rfl) T.m_len (by decide +kernel) (pa_cons (pv 0) pa_nil)) pe_int (nomark _))
        (pss_one (ps_set (i := 3) sc_law_mix.nd rfl (.inl rfl) (pe_ix ix_list (pv 0) (pe_op op_mod (pe_callTy call_int1 (by rfl) T.m_int (by decide +kernel) (pa_cons (pv 1) pa_nil)) (pe_callB call_len_seq (by rfl) T.m_len (by decide +kernel) (pa_cons (pv 0) pa_nil))) (fun _ _ => rfl))))
        pss_nil)
      (pss_cons (ps_if (pt_cmpR op_lt (pv 1) (pe_callB call_len_seq (by rfl) T.m_len (by decide +kernel) (pa_cons (pv 0) pa_nil)) (nomark _))
        (pss_one (ps_ret (pe_op op_mod (pe_callTy call_int1 (by rfl) T.m_int (by decide +kernel) (pa_cons (pv 3) pa_nil)) (pv 2))))
        pss_nil)
      (pss_one (ps_ret (pe_op op_mod (pe_callTy call_int1 (by rfl) T.m_int (by decide +kernel) (pa_cons (pe_op op_fdiv (pe_callTy call_int1 (by rfl) T.m_int (by decide +kernel) (pa_cons (pe_op op_add (pe_op op_mul (pv 3) pe_int) (pe_op op_mul (pv 1) pe_int)) pa_nil)) pe_int) pa_nil)) (pv 2))))))), ?_⟩
    refine ⟨.ref a, rfl, a, _, rfl, .inl ha.sq, _, _, rfl, rfl, _, rfl, ?_⟩
    rw [List.length_map]
    refine ite2 (fun h => ?_) (fun h => ?_)
    · have hp : 0 < ds.length := by have := of_decide_eq_true h; omega
      obtain ⟨n, hn, en⟩ : ∃ n : Nat, n < ds.length ∧ k % (ds.length : Int) = (n : Int) := ⟨(k % (ds.length : Int)).toNat, by have := Int.emod_nonneg k (show (ds.length : Int) ≠ 0 by omega); have := Int.emod_lt_of_pos k (show (0 : Int) < ds.length by omega); omega, by have := Int.emod_nonneg k (show (ds.length : Int) ≠ 0 by omega); omega⟩
      refine ⟨.ref a, rfl, _, rfl, .inl ⟨_, rfl, .ref a, rfl, a, _, rfl, .inl ha.sq, _, _, rfl, rfl, (by show (0 : Int) < _; rw [List.length_map]; omega), a, _, _, _, rfl, rfl, ha.sq, at_map' (m := n) (by rw [List.length_map]; exact en) hn, ?_⟩⟩
      refine ⟨_, rfl, .ref a, rfl, a, _, rfl, .inl ha.sq, _, _, rfl, rfl, _, rfl, ?_⟩
      refine ite2 (fun _ => ?_) (fun _ => ?_)
      · exact ⟨_, rfl, .inl ⟨_, rfl, _, rfl, _, _, rfl, rfl, hm, qq _⟩⟩
      · exact ⟨_, rfl, _, _, rfl, rfl, .inr ⟨by decide, by decide⟩, _, rfl, _, _, rfl, rfl, .inr ⟨by decide, by decide⟩, _, _, rfl, rfl, .inl ⟨_, rfl, _, _, rfl, rfl, ⟨by decide, by decide⟩, .inl ⟨_, rfl, _, rfl, _, _, rfl, rfl, hm, qq _⟩⟩⟩
    · refine ⟨_, rfl, .ref a, rfl, a, _, rfl, .inl ha.sq, _, _, rfl, rfl, _, rfl, ?_⟩
      refine ite2 (fun _ => ?_) (fun _ => ?_)
      · exact ⟨_, rfl, .inl ⟨_, rfl, _, rfl, _, _, rfl, rfl, hm, qq _⟩⟩
      · exact ⟨_, rfl, _, _, rfl, rfl, .inr ⟨by decide, by decide⟩, _, rfl, _, _, rfl, rfl, .inr ⟨by decide, by decide⟩, _, _, rfl, rfl, .inl ⟨_, rfl, _, _, rfl, rfl, ⟨by decide, by decide⟩, .inl ⟨_, rfl, _, rfl, _, _, rfl, rfl, hm, qq _⟩⟩⟩
def sp_law_common : Sp := fun vs H Q _ => ∃ n d : Int, vs = [.int n, .int d] ∧ n.natAbs * d.natAbs < 2 ^ 19990 ∧ Q (.int (gc n d)) H
theorem abs_is (n : Int) : (if n < 0 then -n else n) = ((n.natAbs : Nat) : Int) := by split <;> omega
theorem ok_law_common (T : Txt K mg) : FnOk P w K mg base CX0 1 T.law_common.a T.law_common.fd ["one", "two"] sp_law_common := by
  refine T.law_common.F.ok sc_law_common (fun vs H Q E h => ?_) (fun cdv A outer s H vs Q E hr h => ?_)
  · obtain ⟨n, d, rfl, _⟩ := h
    rfl
  · obtain ⟨n, d, rfl, hn, q⟩ := h
    refine ⟨_, (pss_cons (ps_set (i := 0) sc_law_common.nd rfl (.inl rfl) (pe_callB call_abs (by rfl) T.m_abs (by decide +kernel) (pa_cons (pv 0) pa_nil)))
      (pss_cons (ps_set (i := 1) sc_law_common.nd rfl (.inl rfl) (pe_callB call_abs (by rfl) T.m_abs (by decide +kernel) (pa_cons (pv 1) pa_nil)))
      (pss_cons (ps_for PassesOwn.never rfl (pi_range1 (by rfl) T.m_range (pa_cons pe_int pa_nil)) (pg_name (i := 2) sc_law_common.nd rfl (.inl rfl))
        (pss_cons (ps_if (pt_cmpR op_eq (pv 1) pe_int (nomark _))
          (pss_one (ps_ret (pv 0)))
          pss_nil)
        (pss_cons (ps_set (i := 3) sc_law_common.nd rfl (.inl rfl) (pe_op op_mod (pe_callTy call_int1 (by rfl) T.m_int (by decide +kernel) (pa_cons (pv 0) pa_nil)) (pv 1)))
        (pss_cons (ps_set (i := 0) sc_law_common.nd rfl (.inl rfl) (pv 1))
        (pss_one (ps_set (i := 1) sc_law_common.nd rfl (.inl rfl) (pv 3)))))))
      (pss_one (ps_ret (pv 0)))))), ?_⟩
    refine ⟨_, rfl, _, rfl, _, rfl, _, rfl, ?_⟩
    rw [abs_is, abs_is]
    refine ⟨20000, rfl, by decide, by decide, ?_⟩
    refine for_range (n := 20000) (lo := 0) (fun i σ H' => H' = H ∧ ∃ (x y : Nat) (v2 v3 : Option V), σ = [some (.int (x : Int)), some (.int (y : Int)), v2, v3] ∧ Nat.gcd x y = Nat.gcd n.natAbs d.natAbs ∧ QF.Euc (n.natAbs * d.natAbs) i x y) ⟨rfl, n.natAbs, d.natAbs, none, none, rfl, rfl, .inl ⟨rfl, Nat.le_refl _⟩⟩ (fun i σ H' hi hP => ?_) (fun σ H' hP => ?_)
    · obtain ⟨rfl, x, y, v2, v3, rfl, hg, he⟩ := hP
      refine ⟨_, rfl, rfl, _, rfl, ?_⟩
      refine ite2 (fun h => ?_) (fun h => ?_)
      · have hy : y = 0 := by have := V.int.inj (of_decide_eq_true h); omega
        subst hy
        rw [Nat.gcd_zero_right] at hg
        refine ⟨_, rfl, ?_⟩
        rw [hg]
        exact q
      · have hy : y ≠ 0 := fun z => h (by rw [z]; rfl)
        refine ⟨_, rfl, .inl ⟨_, rfl, _, rfl, _, _, rfl, rfl, (by show (0 : Int) < _; omega), ?_⟩⟩
        exact ⟨_, rfl, _, rfl, rfl, y, x % y, some (.int (0 + (i : Int))), some (.int ((x : Int) % (y : Int))), rfl, (QF.gcd_turn x y).trans hg, QF.euc_step he hy⟩
    · obtain ⟨rfl, x, y, v2, v3, rfl, hg, he⟩ := hP
      have hy := QF.euc_end he (by decide) (Nat.lt_trans hn (Nat.pow_lt_pow_right (by decide) (by decide)))
      subst hy
      rw [Nat.gcd_zero_right] at hg
      refine ⟨_, rfl, ?_⟩
      rw [hg]
      exact q
def sp_law_ratio : Sp := fun vs H Q _ => ∃ n d : Int, vs = [.int n, .int d] ∧ d ≠ 0 ∧ d.natAbs < 2 ^ 8990 ∧ n.natAbs * d.natAbs < 2 ^ 19990 ∧ OutP H Q n d
theorem ok_law_ratio (T : Txt K mg) : FnOk P w K mg base CX0 2 T.law_ratio.a T.law_ratio.fd ["n", "d"] sp_law_ratio := by
  refine T.law_ratio.F.ok sc_law_ratio (fun vs H Q E h => ?_) (fun cdv A outer s H vs Q E hr h => ?_)
  · obtain ⟨n, d, rfl, _⟩ := h
    rfl
  · obtain ⟨n, d, rfl, h0, hd, hn, q⟩ := h
    refine ⟨_, (pss_cons (ps_set (i := 2) sc_law_ratio.nd rfl (.inl rfl) (pe_call (ok_law_common T) (hr.mono (by decide)) (by rfl) T.law_common.g T.law_common.F.kp T.law_common.b .nil pass0 (pa_cons (pv 0) (pa_cons (pv 1) pa_nil))))
      (pss_cons (ps_if (pt_cmpR op_lt (pv 1) pe_int (nomark _))
        (pss_one (ps_set (i := 2) sc_law_ratio.nd rfl (.inl rfl) (pe_un un_neg (pv 2))))
        pss_nil)
      (pss_one (ps_ret (pe_tup (pa_cons (pe_op LX.op_fdivWN (pv 0) (pv 2)) (pa_cons (pe_op LX.op_fdivWN (pv 1) (pv 2)) pa_nil))))))), ?_⟩
    obtain ⟨c1, c2⟩ := div_ok (n := n) h0 hd
    have q' := q
    unfold OutP low at q'
    unfold sg at c1 c2 q'
    refine ⟨_, rfl, _, rfl, n, d, rfl, hn, _, rfl, _, _, rfl, rfl, _, rfl, ?_⟩
    refine ite2 (fun h => ?_) (fun h => ?_)
    · have hlt : d < 0 := of_decide_eq_true h
      simp only [if_pos hlt] at c1 c2 q'
      exact ⟨_, rfl, _, rfl, _, rfl, _, rfl, _, _, rfl, rfl, c1, _, rfl, _, rfl, _, _, rfl, rfl, c2, by show 2 ≤ sizeLine; decide, q'⟩
    · have hlt : ¬ d < 0 := fun z => h (decide_eq_true z)
      simp only [if_neg hlt] at c1 c2 q'
      exact ⟨_, rfl, _, rfl, _, _, rfl, rfl, c1, _, rfl, _, rfl, _, _, rfl, rfl, c2, by show 2 ≤ sizeLine; decide, q'⟩
theorem at0 {x y : V} : atI [x, y] 0 = some x := rfl
theorem at1 {x y : V} : atI [x, y] 1 = some y := rfl
theorem mul_lt {a b : Int} {p q r : Nat} (ha : a.natAbs < 2 ^ p) (hb : b.natAbs < 2 ^ q) (h : p + q ≤ r) : (a * b).natAbs < 2 ^ r := by
  rw [Int.natAbs_mul]
  refine Nat.lt_of_lt_of_le (Nat.mul_lt_mul'' ha hb) ?_
  rw [← Nat.pow_add]
  exact Nat.pow_le_pow_right (by decide) h
theorem cm_lt {a b : Int} {p q : Nat} (ha : a.natAbs < 2 ^ p) (hb : b.natAbs < 2 ^ q) (hp : 0 < p) (hq : 0 < q) (h : p + q < 1000000) : CMulW a b := by
  have := log_lt ha hp
  have := log_lt hb hq
  show _ + _ < 1000000
  omega
/-- two fractions of the size that comes up -/
structure Two (n d m e : Int) : Prop where
  d0 : d ≠ 0
  e0 : e ≠ 0
  hn : n.natAbs < 2 ^ 8100
  hd : d.natAbs < 2 ^ 801
  hm : m.natAbs < 2 ^ 8100
  he : e.natAbs < 2 ^ 801
def sp_law_two (K : PySem.W.Frag) (f : Int → Int → Int → Int → Int) : Sp := fun vs H Q _ => ∃ (a b : Addr) (n d m e : Int), vs = [.ref a, .ref b] ∧ SqT K H a [.int n, .int d] ∧ SqT K H b [.int m, .int e] ∧ Two n d m e ∧ OutP H Q (f n d m e) (d * e)
theorem ok_law_add (T : Txt K mg) : FnOk P w K mg base CX0 3 T.law_add.a T.law_add.fd ["one", "two"] (sp_law_two K fun n d m e => n * e + m * d) := by
  refine T.law_add.F.ok sc_law_add (fun vs H Q E h => ?_) (fun cdv A outer s H vs Q E hr h => ?_)
  · obtain ⟨a, b, n, d, m, e, rfl, _⟩ := h
    rfl
  · obtain ⟨a, b, n, d, m, e, rfl, ha, hb, t, q⟩ := h
    refine ⟨_, (pss_one (ps_ret (pe_call (ok_law_ratio T) (hr.mono (by decide)) (by rfl) T.law_ratio.g T.law_ratio.F.kp T.law_ratio.b .nil pass0 (pa_cons (pe_op op_add (pe_op op_mulW (pe_ix ix_tup (pv 0) pe_int (fun _ _ => rfl)) (pe_ix ix_tup (pv 1) pe_int (fun _ _ => rfl))) (pe_op op_mulW (pe_ix ix_tup (pv 1) pe_int (fun _ _ => rfl)) (pe_ix ix_tup (pv 0) pe_int (fun _ _ => rfl)))) (pa_cons (pe_op op_mulW (pe_ix ix_tup (pv 0) pe_int (fun _ _ => rfl)) (pe_ix ix_tup (pv 1) pe_int (fun _ _ => rfl))) pa_nil))))), ?_⟩
    have b1 := cm_lt t.hn t.he (by decide) (by decide) (by decide)
    have b2 := cm_lt t.hm t.hd (by decide) (by decide) (by decide)
    have b3 := cm_lt t.hd t.he (by decide) (by decide) (by decide)
    have l1 := mul_lt t.hn t.he (r := 8901) (by decide)
    have l2 := mul_lt t.hm t.hd (r := 8901) (by decide)
    have l3 := mul_lt t.hd t.he (r := 1602) (by decide)
    have l4 : (n * e + m * d).natAbs < 2 ^ 8902 := by
      have := Int.natAbs_add_le (n * e) (m * d)
      have e2 : (2 : Nat) ^ 8902 = 2 ^ 8901 + 2 ^ 8901 := by rw [Nat.pow_succ 2 8901, Nat.mul_two]
      rw [e2]
      generalize (2 : Nat) ^ 8901 = y at *
      omega
    refine ⟨_, rfl, a, _, _, _, rfl, rfl, ha, at0, _, rfl, b, _, _, _, rfl, rfl, hb, at1, _, _, rfl, rfl, b1,
      _, rfl, b, _, _, _, rfl, rfl, hb, at0, _, rfl, a, _, _, _, rfl, rfl, ha, at1, _, _, rfl, rfl, b2, _, _, rfl, rfl,
      _, rfl, a, _, _, _, rfl, rfl, ha, at1, _, rfl, b, _, _, _, rfl, rfl, hb, at1, _, _, rfl, rfl, b3, _, _, rfl, Int.mul_ne_zero t.d0 t.e0, Nat.lt_trans l3 (Nat.pow_lt_pow_right (by decide) (by decide)), ?_, q⟩
    refine Nat.lt_of_lt_of_le (Nat.mul_lt_mul'' l4 l3) ?_
    rw [← Nat.pow_add]
    exact Nat.pow_le_pow_right (by decide) (by decide)
theorem ok_law_multiply (T : Txt K mg) : FnOk P w K mg base CX0 3 T.law_multiply.a T.law_multiply.fd ["one", "two"] (sp_law_two K fun n d m e => n * m) := by
  refine T.law_multiply.F.ok sc_law_multiply (fun vs H Q E h => ?_) (fun cdv A outer s H vs Q E hr h => ?_)
  · obtain ⟨a, b, n, d, m, e, rfl, _⟩ := h
    rfl
  · obtain ⟨a, b, n, d, m, e, rfl, ha, hb, t, q⟩ := h
    refine ⟨_, (pss_one (ps_ret (pe_call (ok_law_ratio T) (hr.mono (by decide)) (by rfl) T.law_ratio.g T.law_ratio.F.kp T.law_ratio.b .nil pass0 (pa_cons (pe_op op_mulW (pe_ix ix_tup (pv 0) pe_int (fun _ _ => rfl)) (pe_ix ix_tup (pv 1) pe_int (fun _ _ => rfl))) (pa_cons (pe_op op_mulW (pe_ix ix_tup (pv 0) pe_int (fun _ _ => rfl)) (pe_ix ix_tup (pv 1) pe_int (fun _ _ => rfl))) pa_nil))))), ?_⟩
    have b1 := cm_lt t.hn t.hm (by decide) (by decide) (by decide)
    have b3 := cm_lt t.hd t.he (by decide) (by decide) (by decide)
    have l1 := mul_lt t.hn t.hm (r := 16200) (by decide)
    have l3 := mul_lt t.hd t.he (r := 1602) (by decide)
    refine ⟨_, rfl, a, _, _, _, rfl, rfl, ha, at0, _, rfl, b, _, _, _, rfl, rfl, hb, at0, _, _, rfl, rfl, b1,
      _, rfl, a, _, _, _, rfl, rfl, ha, at1, _, rfl, b, _, _, _, rfl, rfl, hb, at1, _, _, rfl, rfl, b3, _, _, rfl, Int.mul_ne_zero t.d0 t.e0, Nat.lt_trans l3 (Nat.pow_lt_pow_right (by decide) (by decide)), ?_, q⟩
    refine Nat.lt_of_lt_of_le (Nat.mul_lt_mul'' l1 l3) ?_
    rw [← Nat.pow_add]
    exact Nat.pow_le_pow_right (by decide) (by decide)
def sp_law_is_integer : Sp := fun vs H Q _ => ∃ i : Int, vs = [.int i] ∧ Q (.bl true) H
theorem ok_law_is_integer (T : Txt K mg) : FnOk P w K mg base CX0 1 T.law_is_integer.a T.law_is_integer.fd ["actual"] sp_law_is_integer := by
  refine T.law_is_integer.F.ok sc_law_is_integer (fun vs H Q E h => ?_) (fun cdv A outer s H vs Q E hr h => ?_)
  · obtain ⟨i, rfl, _⟩ := h
    rfl
  · obtain ⟨i, rfl, q⟩ := h
    refine ⟨_, (pss_one (ps_ret (pe_and (pe_callB call_isi (by rfl) T.m_isinstance (by decide +kernel) (pa_cons (pv 0) (pa_cons (pe_bltn (v := .ty "int") (by rfl) T.m_int (by decide +kernel) rfl) pa_nil))) (pe_one (pe_not (pe_callB call_isi (by rfl) T.m_isinstance (by decide +kernel) (pa_cons (pv 0) (pa_cons (pe_bltn (v := .ty "bool") (by rfl) T.m_bool (by decide +kernel) rfl) pa_nil)))))))), ?_⟩
    refine ⟨_, rfl, _, _, _, _, _, rfl, .ty "int", .base (.int i), kit_ty (by decide +kernel), true, rfl, ?_⟩
    exact iteT ⟨_, rfl, _, _, _, _, _, rfl, .ty "bool", .base (.int i), kit_ty (by decide +kernel), false, rfl, q⟩
def sp_law_drawn_ratio : Sp := fun vs H Q _ => ∃ (a : Addr) (ds : List Int) (k : Int), vs = [.ref a, .int k] ∧ IL H a ds ∧ 0 ≤ k ∧ ∀ H' o n d, Same H H' → H' o = none → n.natAbs ≤ 10 ^ 6 → 0 < d → d ≤ 10 ^ 6 → Q (.ref o) (upd H' o (.tup [.int (low n d).1, .int (low n d).2]))
theorem ok_law_drawn_ratio (T : Txt K mg) : FnOk P w K mg base CX0 3 T.law_drawn_ratio.a T.law_drawn_ratio.fd ["draws", "k"] sp_law_drawn_ratio := by
  refine T.law_drawn_ratio.F.ok sc_law_drawn_ratio (fun vs H Q E h => ?_) (fun cdv A outer s H vs Q E hr h => ?_)
  · obtain ⟨a, ds, k, rfl, _⟩ := h
    rfl
  · obtain ⟨a, ds, k, rfl, ha, hk, q⟩ := h
    refine ⟨_, (pss_cons (ps_set (i := 2) sc_law_drawn_ratio.nd rfl (.inl rfl) (pe_ix ix_list (pe_lst (pa_cons pe_int (pa_cons pe_int (pa_cons pe_int pa_nil)))) (pe_call (ok_law_mix T) (hr.mono (by decide)) (by rfl) T.law_mix.g T.law_mix.F.kp T.law_mix.b .nil pass0 (pa_cons (pv 0) (pa_cons (pv 1) (pa_cons pe_int pa_nil)))) (fun _ _ => rfl)))
      (pss_cons (ps_set (i := 3) sc_law_drawn_ratio.nd rfl (.inl rfl) (pe_op op_sub (pe_call (ok_law_mix T) (hr.mono (by decide)) (by rfl) T.law_mix.g T.law_mix.F.kp T.law_mix.b .nil pass0 (pa_cons (pv 0) (pa_cons (pe_op op_add (pv 1) pe_int) (pa_cons (pe_op op_add (pe_op op_mul pe_int (pv 2)) pe_int) pa_nil)))) (pv 2)))
      (pss_one (ps_ret (pe_call (ok_law_ratio T) (hr.mono (by decide)) (by rfl) T.law_ratio.g T.law_ratio.F.kp T.law_ratio.b .nil pass0 (pa_cons (pv 3) (pa_cons (pe_op op_add pe_int (pe_call (ok_law_mix T) (hr.mono (by decide)) (by rfl) T.law_mix.g T.law_mix.F.kp T.law_mix.b .nil pass0 (pa_cons (pv 0) (pa_cons (pe_op op_add (pv 1) pe_int) (pa_cons (pe_ix ix_list (pe_lst (pa_cons pe_int (pa_cons (pv 2) pa_nil))) (pe_call (ok_law_mix T) (hr.mono (by decide)) (by rfl) T.law_mix.g T.law_mix.F.kp T.law_mix.b .nil pass0 (pa_cons (pv 0) (pa_cons (pe_op op_add (pv 1) pe_int) (pa_cons pe_int pa_nil)))) (fun _ _ => rfl)) pa_nil))))) pa_nil))))))), ?_⟩
    refine ⟨by show 3 ≤ sizeLine; decide, fun p hp => ?_⟩
    have s0 := same_upd (o := .lst [.int 3, .int 20, .int 1000000]) hp
    refine ⟨.ref a, rfl, _, rfl, a, ds, k, 3, rfl, ha.same s0, hk, by decide, fun r hr0 hr1 => ?_⟩
    obtain ⟨t, ht, hb⟩ := menu3 (x := 3) (y := 20) (z := 1000000) hr0 hr1
    refine ⟨p, _, _, _, rfl, rfl, SqL.of upd_same, ht, ?_⟩
    refine ⟨.ref a, rfl, _, rfl, _, _, rfl, rfl, _, rfl, _, _, rfl, rfl, .inl ⟨by decide, by decide⟩, _, _, rfl, rfl, a, ds, _, _, rfl, ha.same s0, by omega, by omega, fun x hx0 hx1 => ?_⟩
    refine ⟨_, rfl, _, _, rfl, rfl, ?_⟩
    refine ⟨_, rfl, .ref a, rfl, _, rfl, _, _, rfl, rfl, _, rfl, by show 2 ≤ sizeLine; decide, fun p2 hp2 => ?_⟩
    have s1 := s0.trans (same_upd (o := .lst [.int 2, .int t]) hp2)
    refine ⟨.ref a, rfl, _, rfl, _, _, rfl, rfl, a, ds, _, 2, rfl, ha.same s1, by omega, by decide, fun r2 hr2 hr3 => ?_⟩
    obtain ⟨t2, ht2, hb2⟩ := menu2 (x := 2) (y := t) hr2 hr3
    refine ⟨p2, _, _, _, rfl, rfl, SqL.of upd_same, ht2, a, ds, _, t2, rfl, ha.same s1, by omega, by omega, fun d hd0 hd1 => ?_⟩
    refine ⟨_, _, rfl, rfl, _, _, rfl, by omega, ?_, ?_, fun o ho => q _ o _ _ s1 ho (by omega) (by omega) (by omega)⟩
    · exact Nat.lt_of_lt_of_le (show (1 + d).natAbs < 2 ^ 30 by omega) (Nat.pow_le_pow_right (by decide) (by decide))
    · refine Nat.lt_of_lt_of_le (Nat.mul_lt_mul'' (show (x - t).natAbs < 2 ^ 30 by omega) (show (1 + d).natAbs < 2 ^ 30 by omega)) ?_
      rw [← Nat.pow_add]
      exact Nat.pow_le_pow_right (by decide) (by decide)
end
end K67
-- I7
set_option exponentiation.threshold 300

namespace K67
open PySem PySem.Spec PyProof.Rows L2
def dI (ns : List Int) : PyData := .list (ns.map PyData.int)
theorem ints_lay : ∀ ns : List Int, PyData.canLayAll0 (ns.map PyData.int) = true ∧ PyData.depthAll (ns.map PyData.int) = 0
  | [] => ⟨rfl, rfl⟩
  | n :: r => by
    obtain ⟨a, b⟩ := ints_lay r
    refine ⟨?_, ?_⟩
    · show (PyData.canLay0 (.int n) && PyData.canLayAll0 (r.map PyData.int)) = true
      rw [a]; rfl
    · show max (PyData.depth (.int n)) (PyData.depthAll (r.map PyData.int)) = 0
      rw [b]; rfl
theorem lay_dI (ns : List Int) : (dI ns).canLay0 = true := (ints_lay ns).1
theorem dep_dI (ns : List Int) : (dI ns).depth = 1 := by
  show PyData.depthAll (ns.map PyData.int) + 1 = 1
  rw [(ints_lay ns).2]
theorem shaped_dI (ns : List Int) : SeqAt.shaped (dI ns) = true := by
  unfold SeqAt.shaped
  rw [lay_dI, dep_dI]; rfl
theorem eqv_nil (ns : List Int) : PyData.eqv (dI ns) (.list []) = decide (ns = []) := by
  cases ns <;> simp [dI, PyData.eqv, PyData.eqvAll]
theorem dp_ints {K : PySem.W.Frag} {H : Hp} : ∀ ns : List Int, DpAll K H (ns.map V.int) (ns.map PyData.int)
  | [] => .nil
  | n :: r => .cons (.int n) (dp_ints r)
theorem dpI {K : PySem.W.Frag} {H : Hp} {a : Addr} {ns : List Int} (h : SqL K H a (ns.map V.int)) : Dp K H (.ref a) (dI ns) := .lst h (dp_ints ns)
section
variable {P : Program} {w : World} {K : PySem.W.Frag} {mg : Str → Option Value} {base : Heap}
def sp_law_determinant : Sp := fun vs H Q _ => ∃ (p : Addr) (Tb : List (List Int)) (M N : Nat), vs = [.ref p] ∧ NT H p Tb ∧ (∀ x ∈ Tb, x.length = Tb.length) ∧ Tb.length ≤ N ∧ N ≤ 1000 ∧ (∀ x ∈ Tb, DT.Lim M (DT.fn x)) ∧ 0 < N * M ∧ (N * M) ^ N < 2 ^ 8000 ∧ ∀ H', Same H H' → Q (.int (dtm Tb)) H'
theorem ok_law_determinant (T : Txt K mg) : FnOk P w K mg base CX0 1 T.law_determinant.a T.law_determinant.fd ["numbers"] sp_law_determinant := by
  refine T.law_determinant.F.ok sc_law_determinant (fun vs H Q E h => ?_) (fun cdv A outer s H vs Q E hr h => ?_)
  · obtain ⟨p, Tb, M, N, rfl, _⟩ := h
    rfl
  · obtain ⟨p, Tb, M, N, rfl, hT, sq, hn, hN, lim, hM, hB, q⟩ := h
    refine ⟨_, (pss_cons (ps_set (i := 1) sc_law_determinant.nd rfl (.inr rfl) (pe_lc (own := [("row", 8)]) rfl sc_law_determinant.nd (pi_list (pv 0)) (blkOk_by (N := ["numbers", "rows", "last", "sign", "at", "k", "heads", "kept", "row", "j"]) (sc := defScope s_law_determinant) (by decide +kernel)) (fun _ _ _ _ _ => (pg_name (i := 8) sc_law_determinant.nd rfl (.inl rfl))) (fun _ _ _ _ _ => pts_nil) (fun _ _ _ _ _ => (pe_callTy (T := "list") (r := rListC K) call_listC (by rfl) T.m_list (by decide +kernel) (pa_cons (pv 8) pa_nil)))))
      (pss_cons (ps_set (i := 2) sc_law_determinant.nd rfl (.inr rfl) pe_int)
      (pss_cons (ps_set (i := 3) sc_law_determinant.nd rfl (.inl rfl) pe_int)
      (pss_cons (ps_for PassesOwn.never rfl (pi_range1 (by rfl) T.m_range (pa_cons (pe_callB call_len_seq (by rfl) T.m_len (by decide +kernel) (pa_cons (pv 1) pa_nil)) pa_nil)) (pg_name (i := 4) sc_law_determinant.nd rfl (.inr rfl))
        (pss_cons (ps_setLc (i := 6) (own := [("k", 5)]) rfl sc_law_determinant.nd rfl rfl (sw_true rfl rfl rfl (by decide +kernel)) (pi_range2 (by rfl) T.m_range (pa_cons (pv 4) (pa_cons (pe_callB call_len_seq (by rfl) T.m_len (by decide +kernel) (pa_cons (pv 1) pa_nil)) pa_nil))) (blkOk_by (N := ["numbers", "rows", "last", "sign", "at", "k", "heads", "kept", "row", "j"]) (sc := defScope s_law_determinant) (by decide +kernel)) (fun _ _ _ _ _ => (pg_name (i := 5) sc_law_determinant.nd rfl (.inl rfl))) (fun _ _ _ _ _ => (pts_one (pt_cmpR op_ne (pe_ix (r := rIxL K) ix_list (pe_ix (r := rIxL K) ix_list (pv 1) (pv 5) (fun _ _ => rfl)) (pv 4) (fun _ _ => rfl)) pe_int (nomark _)))) (fun _ _ _ _ _ => (pv 5)))
        (pss_cons (ps_if (pt_cmpR (op_eqD hr.units) (pv 6) (pe_lst pa_nil) (nomark _))
          (pss_one (ps_ret pe_int))
          pss_nil)
        (pss_cons (ps_if (pt_cmpR op_ne (pe_ix ix_list (pv 6) pe_int (fun _ _ => rfl)) (pv 4) (nomark _))
          (pss_cons (ps_set (i := 7) sc_law_determinant.nd rfl (.inl rfl) (pe_ix ix_list (pv 1) (pv 4) (fun _ _ => rfl)))
          (pss_cons (ps_asg (pe_ix ix_list (pv 1) (pe_ix ix_list (pv 6) pe_int (fun _ _ => rfl)) (fun _ _ => rfl)) (pg_sub (pv 1) (pv 4) set_list))
          (pss_cons (ps_asg (pv 7) (pg_sub (pv 1) (pe_ix ix_list (pv 6) pe_int (fun _ _ => rfl)) set_list))
          (pss_one (ps_set (i := 3) sc_law_determinant.nd rfl (.inl rfl) (pe_un un_neg (pv 3)))))))
          pss_nil)
        (pss_cons (ps_for PassesOwn.never rfl (pi_range2 (by rfl) T.m_range (pa_cons (pe_op op_add (pv 4) pe_int) (pa_cons (pe_callB call_len_seq (by rfl) T.m_len (by decide +kernel) (pa_cons (pv 1) pa_nil)) pa_nil))) (pg_name (i := 5) sc_law_determinant.nd rfl (.inr rfl))
          (pss_one (ps_asg (pe_lc (own := [("j", 9)]) rfl sc_law_determinant.nd (pi_range1 (by rfl) T.m_range (pa_cons (pe_callB call_len_seq (by rfl) T.m_len (by decide +kernel) (pa_cons (pv 1) pa_nil)) pa_nil)) (blkOk_by (N := ["numbers", "rows", "last", "sign", "at", "k", "heads", "kept", "row", "j"]) (sc := defScope s_law_determinant) (by decide +kernel)) (fun _ _ _ _ _ => (pg_name (i := 9) sc_law_determinant.nd rfl (.inl rfl))) (fun _ _ _ _ _ => pts_nil) (fun _ _ _ _ _ => (pe_op LX.op_fdivWN (pe_op op_sub (pe_op op_mulW (pe_ix (r := rIxL K) ix_list (pe_ix (r := rIxL K) ix_list (pv 1) (pv 4) (fun _ _ => rfl)) (pv 4) (fun _ _ => rfl)) (pe_ix (r := rIxL K) ix_list (pe_ix (r := rIxL K) ix_list (pv 1) (pv 5) (fun _ _ => rfl)) (pv 9) (fun _ _ => rfl))) (pe_op op_mulW (pe_ix (r := rIxL K) ix_list (pe_ix (r := rIxL K) ix_list (pv 1) (pv 5) (fun _ _ => rfl)) (pv 4) (fun _ _ => rfl)) (pe_ix (r := rIxL K) ix_list (pe_ix (r := rIxL K) ix_list (pv 1) (pv 4) (fun _ _ => rfl)) (pv 9) (fun _ _ => rfl)))) (pv 2)))) (pg_sub (pv 1) (pv 5) set_list))))
        (pss_one (ps_set (i := 2) sc_law_determinant.nd rfl (.inr rfl) (pe_ix ix_list (pe_ix ix_list (pv 1) (pv 4) (fun _ _ => rfl)) (pv 4) (fun _ _ => rfl)))))))))
      (pss_one (ps_ret (pe_op op_mulW (pv 3) (pv 2)))))))), ?_⟩
    obtain ⟨as0, hp, hA⟩ := id hT
    have el0 := hA.len
    have wide : ∀ z y : Int, z.natAbs < 2 ^ 8000 → y.natAbs < 2 ^ 8000 → z.natAbs.log2 + y.natAbs.log2 < 1000000 := fun z y h1 h2 => by
      have := log_lt h1 (by decide)
      have := log_lt h2 (by decide)
      omega
    refine ⟨.ref p, rfl, p, rfl, ⟨_, .of hp⟩, fun D nD => ?_⟩
    refine lc_inv (walk_list (xs := as0.map V.ref)) (fun i G ys => ∃ as : List Addr, ys = as.map V.ref ∧ A2 (fun a x => a ≠ D ∧ IL G a x) as (Tb.take i)) nD (fun G s => .of (s _ _ hp)) (small' (by rw [List.length_map]; omega)) ⟨[], rfl, .nil⟩ (fun i y G Hx ys hi sm hD hR yy Qt Qf qt qf => ?_) (fun G ys sm hD hR => ?_)
    · obtain ⟨rfl, hx⟩ := yy
      obtain ⟨as, rfl, hA2⟩ := hR
      have hx2 : (as0.map V.ref)[i]? = some y := hx
      rw [List.getElem?_map] at hx2
      cases e : as0[i]? with
      | none => rw [e] at hx2; cases hx2
      | some a =>
        rw [e] at hx2
        cases hx2
        obtain ⟨x, ex, ha⟩ := hA.get e
        have ha2 := ha.same sm
        refine ⟨rfl, _, rfl, a, _, rfl, .inl ha2.sq, fun l nl => ?_⟩
        have lD : l ≠ D := fun z => by rw [z, hD] at nl; cases nl
        refine qt _ _ (same_upd nl) ⟨as ++ [l], by rw [List.map_append]; rfl, ?_⟩
        rw [take_snoc ex]
        refine A2.snoc ⟨lD, (upd_ne lD).trans upd_same⟩ (hA2.mono fun b y z => ⟨z.1, (upd_ne z.1).trans (z.2.same (same_upd nl))⟩)
    · obtain ⟨as, rfl, hA2⟩ := hR
      rw [List.length_map, el0, List.take_length] at hA2
      have nx0 : NX D G Tb as := ⟨hD, hA2⟩
      have lAs := hA2.len
      refine ⟨.ref D, rfl, D, _, rfl, .inl (.of hD), ?_⟩
      rw [List.length_map, lAs]
      refine ⟨(Tb.length : Nat), rfl, by omega, by omega, ?_⟩
      rw [Int.toNat_natCast]
      refine for_range (n := Tb.length) (lo := 0) (fun i σ G => Same H G ∧ ∃ (rows : List (List Int)) (sign last : Int) (cs : List Nat) (P : List (List Int)) (as : List Addr) (x4 x5 x6 x7 x8 x9 : Option V), σ = [some (.ref p), some (.ref D), some (.int last), some (.int sign), x4, x5, x6, x7, x8, x9] ∧ DT.St Tb Tb.length i i rows sign last cs P ∧ NX D G rows as)
        ⟨sm, Tb, 1, 1, [], Tb, as, _, _, _, _, _, _, rfl, .init sq, nx0⟩ (fun i σ G hi hP => ?_) (fun σ G hP => ?_)
      · obtain ⟨sH, rows, sign, last, cs, P, as, x4, x5, x6, x7, x8, x9, rfl, st, nx⟩ := hP
        have bd := st.bound hM lim hn
        have lenR : rows.length = Tb.length := st.len.trans st.perm.length_eq
        have elen := nx.2.len
        have rl : ∀ x ∈ rows, x.length = Tb.length := fun x hx => by
          obtain ⟨k, hk⟩ := List.mem_iff_getElem?.mp hx
          have kl : k < P.length := st.len ▸ (List.getElem?_eq_some_iff.mp hk).1
          by_cases hkr : k < i
          · rw [st.tp k x _ hkr hk (List.getElem?_eq_getElem kl), DT.rowOf_len]
          · rw [st.lo k x _ (by omega) hk (List.getElem?_eq_getElem kl), DT.rowOf_len]
        rw [show (0 : Int) + (i : Int) = ((i : Nat) : Int) by omega]
        refine ⟨_, rfl, .ref D, rfl, D, _, rfl, .inl (.of nx.1), (i : Nat), (Tb.length : Nat), by rw [List.length_map, elen, lenR], ⟨by omega, by omega, by omega, by omega⟩, fun E nE => ?_⟩
        refine lc_inv (walk_range (lo := ((i : Nat) : Int)) (n := (((Tb.length : Nat) : Int) - ((i : Nat) : Int)).toNat)) (fun j G ys => ∃ hs : List Nat, ys = (hs.map fun k => ((k : Nat) : Int)).map V.int ∧ (∀ k ∈ hs, i ≤ k ∧ k < Tb.length ∧ ∀ x, rows[k]? = some x → DT.fn x i ≠ 0) ∧ ∀ (k : Nat) (x : List Int), i ≤ k → k < i + j → rows[k]? = some x → DT.fn x i ≠ 0 → k ∈ hs)
          nE (fun _ _ => trivial) (small' (by omega)) ⟨[], rfl, (fun _ z => by cases z), fun k x h1 h2 => by omega⟩ (fun j y G2 Hx ys hj sm2 hD2 hR yy Qt Qf qt qf => ?_) (fun G2 ys sm2 hD2 hR => ?_)
        · obtain ⟨rfl, rfl⟩ := yy
          obtain ⟨hs, rfl, h1, h2⟩ := hR
          have hk : i + j < rows.length := by omega
          have nx2 := nx.same sm2
          obtain ⟨a, ha, _, _, hx⟩ := nx2.row (List.getElem?_eq_getElem hk)
          have lx := rl _ (List.getElem_mem hk)
          rw [show (fun m : Nat => V.int (((i : Nat) : Int) + (m : Int))) j = V.int ((i + j : Nat) : Int) from congrArg V.int (by omega)]
          refine ⟨rfl, .ref D, rfl, _, rfl, D, _, _, _, rfl, rfl, .of nx2.1, ha, _, rfl, a, _, _, _, rfl, rfl, hx.sq, il_at (by omega), rfl, _, rfl, ?_⟩
          by_cases e : DT.fn rows[i + j] i = 0
          · rw [decide_eq_true (by rw [e])]
            refine iteF (qf _ (Same.refl _) ⟨hs, rfl, h1, fun k x k1 k2 k3 k4 => ?_⟩)
            rcases Nat.lt_or_ge k (i + j) with z | z
            · exact h2 k x k1 z k3 k4
            · obtain rfl : k = i + j := by omega
              rw [List.getElem?_eq_getElem hk] at k3
              cases k3
              exact absurd e k4
          · rw [decide_eq_false (fun z => e (V.int.inj z))]
            refine iteT ⟨_, rfl, qt _ _ (Same.refl _) ⟨hs ++ [i + j], by rw [List.map_append, List.map_append]; rfl, fun k hk2 => ?_, fun k x k1 k2 k3 k4 => ?_⟩⟩
            · rcases List.mem_append.mp hk2 with z | z
              · exact h1 k z
              · rw [List.mem_singleton.mp z]
                refine ⟨by omega, by omega, fun x hx => ?_⟩
                rw [List.getElem?_eq_getElem hk] at hx
                cases hx
                exact e
            · rcases Nat.lt_or_ge k (i + j) with z | z
              · exact List.mem_append_left _ (h2 k x k1 z k3 k4)
              · exact List.mem_append_right _ (List.mem_singleton.mpr (by omega))
        · obtain ⟨hs, rfl, h1, h2⟩ := hR
          have nx2 := nx.same sm2
          have hE : IL G2 E (hs.map fun k => ((k : Nat) : Int)) := hD2
          refine ⟨_, rfl, Nat.zero_le _, fun e0 ne0 => ?_⟩
          refine ⟨dI (hs.map fun k => ((k : Nat) : Int)), .list [], dpI (hE.same (same_upd ne0)).sq, .lst (.of upd_same) .nil, shaped_dI _, rfl, _, rfl, ?_⟩
          rw [eqv_nil]
          have s2 := sm2.trans (same_upd ne0 (o := .lst []))
          have nx2 := nx.same s2
          have hE := hE.same (same_upd ne0 (o := .lst []))
          have sH := sH.trans s2
          generalize upd G2 e0 _ = G3 at s2 nx2 hE sH
          cases hs with
          | nil =>
            rw [decide_eq_true (show ([] : List Nat).map (fun k => ((k : Nat) : Int)) = [] from rfl)]
            refine iteT ?_
            have z := st.skip hi (fun k x hk hx => by
              by_cases e : DT.fn x i = 0
              · exact e
              · have := (List.getElem?_eq_some_iff.mp hx).1
                have hm := h2 k x hk (by omega) hx e
                cases hm)
            have := z.dead rfl (by omega)
            have qq := q G3 sH
            unfold dtm at qq
            rw [this] at qq
            exact qq
          | cons k0 hs =>
            rw [decide_eq_false (show ¬ (k0 :: hs).map (fun k => ((k : Nat) : Int)) = [] from fun z => by cases z)]
            refine iteF ?_
            obtain ⟨k1, k2, k3⟩ := h1 k0 List.mem_cons_self
            have hkl : k0 < rows.length := by omega
            have ek := List.getElem?_eq_getElem hkl
            have hne := k3 _ ek
            have h0 : atI (((k0 :: hs).map fun k => ((k : Nat) : Int)).map V.int) 0 = some (.int (k0 : Nat)) := atI_nat (j := 0) rfl
            refine ⟨.ref E, rfl, E, _, _, _, rfl, rfl, hE.sq, h0, _, rfl, rfl, _, rfl, ?_⟩
            refine ite2 (fun hd => ?_) (fun hd => ?_)
            · have hkr : i < k0 := by
                rcases Nat.lt_or_ge i k0 with z | z
                · exact z
                · obtain rfl : k0 = i := by omega
                  rw [decide_eq_true rfl] at hd
                  cases hd
              have hr0 : i < rows.length := by omega
              have er := List.getElem?_eq_getElem hr0
              obtain ⟨ak, hak, hak2, nk, hxk⟩ := nx2.row ek
              obtain ⟨ar, har, har2, nr, hxr⟩ := nx2.row er
              have elen := nx2.2.len
              refine ⟨.ref D, rfl, _, rfl, D, _, _, _, rfl, rfl, .of nx2.1, har, ?_⟩
              refine ⟨.ref D, rfl, .ref E, rfl, E, _, _, _, rfl, rfl, hE.sq, h0, D, _, _, _, rfl, rfl, .of nx2.1, hak, .ref D, rfl, _, rfl, D, _, _, _, rfl, rfl, nx2.1, ix_ok rfl (by rw [List.length_map]; omega), ?_⟩
              have nxa := nx2.put (k := i) nk hxk
              have ED : E ≠ D := fun z => by rw [z, nx.1] at nE; cases nE
              have hEa : IL (upd G3 D (.lst ((as.map V.ref).set i (.ref ak)))) E _ := (upd_ne ED).trans hE
              refine ⟨_, rfl, .ref D, rfl, .ref E, rfl, E, _, _, _, rfl, rfl, hEa.sq, h0, D, _, _, _, rfl, rfl, nxa.1, ix_ok rfl (by rw [List.length_map, List.length_set]; omega), ?_⟩
              have hxr2 : IL (upd G3 D (.lst ((as.map V.ref).set i (.ref ak)))) ar rows[i] := (upd_ne nr).trans hxr
              have nxb := nxa.put (k := k0) nr hxr2
              have sb := same_over (same_over sH nD (o := .lst ((as.map V.ref).set i (.ref ak)))) nD (o := .lst (((as.set i ak).map V.ref).set k0 (.ref ar)))
              rw [← DT.swp_some er ek] at nxb
              have st1 := st.swap hkr hkl
              have bd1 := st1.bound hM lim hn
              have hpr : (DT.swp rows i k0)[i]? = some rows[k0] := by rw [DT.swp_get hr0 hkl, if_neg (by omega), if_pos rfl, ek]
              have rl1 : ∀ x ∈ DT.swp rows i k0, x.length = Tb.length := fun x hx => by
                rw [DT.swp_some er ek] at hx
                rcases List.mem_or_eq_of_mem_set hx with hx | rfl
                · rcases List.mem_or_eq_of_mem_set hx with hx | rfl
                  · exact rl x hx
                  · exact rl _ (List.mem_of_getElem? ek)
                · exact rl _ (List.getElem_mem hr0)
              have l1 : (DT.swp rows i k0).length = Tb.length := by rw [DT.swp_len, lenR]
              generalize upd (upd G3 D _) D _ = G5 at nxb sb
              generalize (as.set i ak).set k0 ar = as1 at nxb
              refine ⟨_, rfl, _, rfl, ?_⟩
              have nx1 := nxb
              have sH1 := sb
              have el1 : as1.length = Tb.length := by rw [nx1.2.len, l1]
              generalize rows[k0] = pv at hpr hne
              generalize DT.swp rows i k0 = rows1 at nx1 st1 bd1 hpr rl1 l1
              clear nxb nxa sb hxr2 hEa har hak hxk hxr
              refine ⟨_, rfl, _, _, rfl, rfl, .ref D, rfl, D, _, rfl, .inl (.of nx1.1), ((i : Nat) + 1 : Int), (Tb.length : Nat), by rw [List.length_map, el1], ⟨by omega, by omega, by omega, by omega⟩, ?_⟩
              refine for_range (n := (((Tb.length : Nat) : Int) - ((i : Nat) + 1)).toNat) (lo := (i : Int) + 1) (fun j σ G6 => Same H G6 ∧ ∃ (rows3 : List (List Int)) (as3 : List Addr) (y5 y8 y9 : Option V), σ = [some (.ref p), some (.ref D), some (.int last), some (.int (-sign)), some (.int (i : Nat)), y5, some (.ref E), some (.ref ar), y8, y9] ∧ NX D G6 rows3 as3 ∧ rows3.length = Tb.length ∧ ∀ m, rows3[m]? = if i < m ∧ m < i + 1 + j then rows1[m]?.map (fun x => DT.low Tb.length (DT.fn pv i) (DT.fn x i) last x pv) else rows1[m]?)
                ⟨sH1, rows1, as1, _, _, _, rfl, nx1, l1, fun m => by rw [if_neg (by omega)]⟩ (fun j σ G6 hj hP2 => ?_) (fun σ G6 hP2 => ?_)
              · obtain ⟨s6, rows3, as3, y5, y8, y9, rfl, nx3, l3, h3⟩ := hP2
                have hm : i + 1 + j < rows1.length := by omega
                have e1 := h3 (i + 1 + j)
                rw [if_neg (by omega), List.getElem?_eq_getElem hm] at e1
                have e2 := h3 i
                rw [if_neg (by omega), hpr] at e2
                rw [show (i : Int) + 1 + (j : Int) = ((i + 1 + j : Nat) : Int) by omega]
                obtain ⟨ar, har, _, nr, hxr⟩ := nx3.row e2
                obtain ⟨ak, hak, _, nk, hxk⟩ := nx3.row e1
                have lk := rl1 _ (List.getElem_mem hm)
                have lp := rl1 _ (List.mem_of_getElem? hpr)
                have bk : ∀ j2, (DT.fn rows1[i + 1 + j] j2).natAbs < 2 ^ 8000 := fun j2 => Nat.lt_of_le_of_lt (bd1.1 _ (List.getElem_mem hm) j2) hB
                have bp : ∀ j2, (DT.fn pv j2).natAbs < 2 ^ 8000 := fun j2 => Nat.lt_of_le_of_lt (bd1.1 _ (List.mem_of_getElem? hpr) j2) hB
                have bl : last.natAbs < 2 ^ 8000 := Nat.lt_of_le_of_lt bd1.2 hB
                generalize rows1[i + 1 + j] = x at e1 hxk lk bk
                have el3 : as3.length = Tb.length := nx3.2.len.trans l3
                refine ⟨.ref D, rfl, D, _, rfl, .inl (.of nx3.1), ?_⟩
                rw [List.length_map, el3]
                refine ⟨(Tb.length : Nat), rfl, by omega, by omega, fun F nF => ?_⟩
                rw [Int.toNat_natCast]
                refine lc_inv (walk_range (lo := 0) (n := Tb.length)) (fun t G ys => ys = ((List.range t).map fun j2 => V.int ((DT.fn pv i * DT.fn x j2 - DT.fn x i * DT.fn pv j2).fdiv last))) nF (fun _ _ => trivial) (small' (by omega)) rfl (fun t y G7 Hx ys ht sm7 hD7 hR7 yy Qt Qf qt qf => ?_) (fun G7 ys sm7 hD7 hR7 => ?_)
                · obtain ⟨rfl, rfl⟩ := yy
                  rw [show (fun i : Nat => V.int ((0 : Int) + (i : Int))) t = V.int ((t : Nat) : Int) from congrArg V.int (Int.zero_add _)]
                  have nx7 := nx3.same sm7
                  have ar7 := hxr.same sm7
                  have ak7 := hxk.same sm7
                  refine ⟨rfl, .ref D, rfl, _, rfl, D, _, _, _, rfl, rfl, .of nx7.1, har, _, rfl, ar, _, _, _, rfl, rfl, ar7.sq, il_at (by omega), .ref D, rfl, _, rfl, D, _, _, _, rfl, rfl, .of nx7.1, hak, _, rfl, ak, _, _, _, rfl, rfl, ak7.sq, il_at (by omega), _, _, rfl, rfl, wide _ _ (bp i) (bk t),
                    .ref D, rfl, _, rfl, D, _, _, _, rfl, rfl, .of nx7.1, hak, _, rfl, ak, _, _, _, rfl, rfl, ak7.sq, il_at (by omega), .ref D, rfl, _, rfl, D, _, _, _, rfl, rfl, .of nx7.1, har, _, rfl, ar, _, _, _, rfl, rfl, ar7.sq, il_at (by omega), _, _, rfl, rfl, wide _ _ (bk i) (bp t), _, _, rfl, rfl, _, rfl, _, _, rfl, rfl, ⟨st1.ne, Nat.lt_trans (log_lt bl (by decide)) (by decide)⟩, ?_⟩
                  refine qt _ _ (Same.refl _) ?_
                  rw [List.range_succ, List.map_append, hR7]
                  rfl
                · have hF : IL G7 F (DT.low Tb.length (DT.fn pv i) (DT.fn x i) last x pv) := by
                    show G7 F = some (.lst (((List.range Tb.length).map fun j2 => (DT.fn pv i * DT.fn x j2 - DT.fn x i * DT.fn pv j2).fdiv last).map V.int))
                    rw [List.map_map, hD7, hR7]
                    rfl
                  have FD : F ≠ D := fun z => by rw [z, nx3.1] at nF; cases nF
                  have nx7 := nx3.same sm7
                  refine ⟨.ref D, rfl, _, rfl, D, _, _, _, rfl, rfl, nx7.1, ix_ok rfl (by rw [List.length_map]; omega), ?_⟩
                  refine ⟨same_over (s6.trans sm7) nD, _, _, _, _, _, rfl, nx7.put FD hF, by rw [List.length_set, l3], fun m => ?_⟩
                  rw [List.getElem?_set]
                  by_cases em : i + 1 + j = m
                  · subst em
                    rw [if_pos rfl, if_pos (by omega), if_pos ⟨by omega, by omega⟩]
                    have := h3 (i + 1 + j)
                    rw [if_neg (by omega), e1] at this
                    rw [← this]
                    rfl
                  · rw [if_neg em, h3 m]
                    by_cases z : i < m ∧ m < i + 1 + j
                    · rw [if_pos z, if_pos ⟨z.1, by omega⟩]
                    · rw [if_neg z, if_neg (by omega)]
              · obtain ⟨s6, rows3, as3, y5, y8, y9, rfl, nx3, l3, h3⟩ := hP2
                have h3' : ∀ m, rows3[m]? = if m ≤ i then rows1[m]? else rows1[m]?.map (fun x => DT.low Tb.length (DT.fn pv i) (DT.fn x i) last x pv) := fun m => by
                  rw [h3 m]
                  by_cases z : m ≤ i
                  · rw [if_neg (by omega), if_pos z]
                  · rw [if_neg z]
                    by_cases z2 : m < rows1.length
                    · rw [if_pos ⟨by omega, by omega⟩]
                    · rw [if_neg (by omega), List.getElem?_eq_none (by omega)]
                      rfl
                have e2 := h3' i
                rw [if_pos (Nat.le_refl _), hpr] at e2
                obtain ⟨ar, har, _, nr, hxr⟩ := nx3.row e2
                have lp := rl1 _ (List.mem_of_getElem? hpr)
                have st2 := st1.step hi hpr hne (by omega) h3'
                refine ⟨.ref D, rfl, _, rfl, D, _, _, _, rfl, rfl, .of nx3.1, har, _, rfl, ar, _, _, _, rfl, rfl, hxr.sq, il_at (by omega), ?_⟩
                exact ⟨s6, rows3, (-sign), _, _, _, as3, _, _, _, _, _, _, rfl, st2, nx3⟩
            · obtain rfl : i = k0 := by
                rcases Decidable.em (k0 = i) with z | z
                · exact z.symm
                · exfalso
                  apply hd
                  rw [decide_eq_false (fun q => z (by have := V.int.inj q; omega))]
                  rfl
              have st1 := st
              have bd1 := bd
              have hpr := ek
              have rl1 := rl
              have l1 := lenR
              have nx1 := nx2
              have sH1 := sH
              have el1 : as.length = Tb.length := by rw [nx1.2.len, l1]
              generalize rows[i] = pv at hpr hne
              refine ⟨_, rfl, _, _, rfl, rfl, .ref D, rfl, D, _, rfl, .inl (.of nx1.1), ((i : Nat) + 1 : Int), (Tb.length : Nat), by rw [List.length_map, el1], ⟨by omega, by omega, by omega, by omega⟩, ?_⟩
              refine for_range (n := (((Tb.length : Nat) : Int) - ((i : Nat) + 1)).toNat) (lo := (i : Int) + 1) (fun j σ G6 => Same H G6 ∧ ∃ (rows3 : List (List Int)) (as3 : List Addr) (y5 y8 y9 : Option V), σ = [some (.ref p), some (.ref D), some (.int last), some (.int sign), some (.int (i : Nat)), y5, some (.ref E), x7, y8, y9] ∧ NX D G6 rows3 as3 ∧ rows3.length = Tb.length ∧ ∀ m, rows3[m]? = if i < m ∧ m < i + 1 + j then rows[m]?.map (fun x => DT.low Tb.length (DT.fn pv i) (DT.fn x i) last x pv) else rows[m]?)
                ⟨sH1, rows, as, _, _, _, rfl, nx1, l1, fun m => by rw [if_neg (by omega)]⟩ (fun j σ G6 hj hP2 => ?_) (fun σ G6 hP2 => ?_)
              · obtain ⟨s6, rows3, as3, y5, y8, y9, rfl, nx3, l3, h3⟩ := hP2
                have hm : i + 1 + j < rows.length := by omega
                have e1 := h3 (i + 1 + j)
                rw [if_neg (by omega), List.getElem?_eq_getElem hm] at e1
                have e2 := h3 i
                rw [if_neg (by omega), hpr] at e2
                rw [show (i : Int) + 1 + (j : Int) = ((i + 1 + j : Nat) : Int) by omega]
                obtain ⟨ar, har, _, nr, hxr⟩ := nx3.row e2
                obtain ⟨ak, hak, _, nk, hxk⟩ := nx3.row e1
                have lk := rl1 _ (List.getElem_mem hm)
                have lp := rl1 _ (List.mem_of_getElem? hpr)
                have bk : ∀ j2, (DT.fn rows[i + 1 + j] j2).natAbs < 2 ^ 8000 := fun j2 => Nat.lt_of_le_of_lt (bd1.1 _ (List.getElem_mem hm) j2) hB
                have bp : ∀ j2, (DT.fn pv j2).natAbs < 2 ^ 8000 := fun j2 => Nat.lt_of_le_of_lt (bd1.1 _ (List.mem_of_getElem? hpr) j2) hB
                have bl : last.natAbs < 2 ^ 8000 := Nat.lt_of_le_of_lt bd1.2 hB
                generalize rows[i + 1 + j] = x at e1 hxk lk bk
                have el3 : as3.length = Tb.length := nx3.2.len.trans l3
                refine ⟨.ref D, rfl, D, _, rfl, .inl (.of nx3.1), ?_⟩
                rw [List.length_map, el3]
                refine ⟨(Tb.length : Nat), rfl, by omega, by omega, fun F nF => ?_⟩
                rw [Int.toNat_natCast]
                refine lc_inv (walk_range (lo := 0) (n := Tb.length)) (fun t G ys => ys = ((List.range t).map fun j2 => V.int ((DT.fn pv i * DT.fn x j2 - DT.fn x i * DT.fn pv j2).fdiv last))) nF (fun _ _ => trivial) (small' (by omega)) rfl (fun t y G7 Hx ys ht sm7 hD7 hR7 yy Qt Qf qt qf => ?_) (fun G7 ys sm7 hD7 hR7 => ?_)
                · obtain ⟨rfl, rfl⟩ := yy
                  rw [show (fun i : Nat => V.int ((0 : Int) + (i : Int))) t = V.int ((t : Nat) : Int) from congrArg V.int (Int.zero_add _)]
                  have nx7 := nx3.same sm7
                  have ar7 := hxr.same sm7
                  have ak7 := hxk.same sm7
                  refine ⟨rfl, .ref D, rfl, _, rfl, D, _, _, _, rfl, rfl, .of nx7.1, har, _, rfl, ar, _, _, _, rfl, rfl, ar7.sq, il_at (by omega), .ref D, rfl, _, rfl, D, _, _, _, rfl, rfl, .of nx7.1, hak, _, rfl, ak, _, _, _, rfl, rfl, ak7.sq, il_at (by omega), _, _, rfl, rfl, wide _ _ (bp i) (bk t),
                    .ref D, rfl, _, rfl, D, _, _, _, rfl, rfl, .of nx7.1, hak, _, rfl, ak, _, _, _, rfl, rfl, ak7.sq, il_at (by omega), .ref D, rfl, _, rfl, D, _, _, _, rfl, rfl, .of nx7.1, har, _, rfl, ar, _, _, _, rfl, rfl, ar7.sq, il_at (by omega), _, _, rfl, rfl, wide _ _ (bk i) (bp t), _, _, rfl, rfl, _, rfl, _, _, rfl, rfl, ⟨st1.ne, Nat.lt_trans (log_lt bl (by decide)) (by decide)⟩, ?_⟩
                  refine qt _ _ (Same.refl _) ?_
                  rw [List.range_succ, List.map_append, hR7]
                  rfl
                · have hF : IL G7 F (DT.low Tb.length (DT.fn pv i) (DT.fn x i) last x pv) := by
                    show G7 F = some (.lst (((List.range Tb.length).map fun j2 => (DT.fn pv i * DT.fn x j2 - DT.fn x i * DT.fn pv j2).fdiv last).map V.int))
                    rw [List.map_map, hD7, hR7]
                    rfl
                  have FD : F ≠ D := fun z => by rw [z, nx3.1] at nF; cases nF
                  have nx7 := nx3.same sm7
                  refine ⟨.ref D, rfl, _, rfl, D, _, _, _, rfl, rfl, nx7.1, ix_ok rfl (by rw [List.length_map]; omega), ?_⟩
                  refine ⟨same_over (s6.trans sm7) nD, _, _, _, _, _, rfl, nx7.put FD hF, by rw [List.length_set, l3], fun m => ?_⟩
                  rw [List.getElem?_set]
                  by_cases em : i + 1 + j = m
                  · subst em
                    rw [if_pos rfl, if_pos (by omega), if_pos ⟨by omega, by omega⟩]
                    have := h3 (i + 1 + j)
                    rw [if_neg (by omega), e1] at this
                    rw [← this]
                    rfl
                  · rw [if_neg em, h3 m]
                    by_cases z : i < m ∧ m < i + 1 + j
                    · rw [if_pos z, if_pos ⟨z.1, by omega⟩]
                    · rw [if_neg z, if_neg (by omega)]
              · obtain ⟨s6, rows3, as3, y5, y8, y9, rfl, nx3, l3, h3⟩ := hP2
                have h3' : ∀ m, rows3[m]? = if m ≤ i then rows[m]? else rows[m]?.map (fun x => DT.low Tb.length (DT.fn pv i) (DT.fn x i) last x pv) := fun m => by
                  rw [h3 m]
                  by_cases z : m ≤ i
                  · rw [if_neg (by omega), if_pos z]
                  · rw [if_neg z]
                    by_cases z2 : m < rows.length
                    · rw [if_pos ⟨by omega, by omega⟩]
                    · rw [if_neg (by omega), List.getElem?_eq_none (by omega)]
                      rfl
                have e2 := h3' i
                rw [if_pos (Nat.le_refl _), hpr] at e2
                obtain ⟨ar, har, _, nr, hxr⟩ := nx3.row e2
                have lp := rl1 _ (List.mem_of_getElem? hpr)
                have st2 := st1.step hi hpr hne (by omega) h3'
                refine ⟨.ref D, rfl, _, rfl, D, _, _, _, rfl, rfl, .of nx3.1, har, _, rfl, ar, _, _, _, rfl, rfl, hxr.sq, il_at (by omega), ?_⟩
                exact ⟨s6, rows3, sign, _, _, _, as3, _, _, _, _, _, _, rfl, st2, nx3⟩
      · obtain ⟨sH, rows, sign, last, cs, P, as, x4, x5, x6, x7, x8, x9, rfl, st, nx⟩ := hP
        have bd := st.bound hM lim hn
        have e := st.square rfl
        rw [if_neg (by omega)] at e
        have qq := q G sH
        unfold dtm at qq
        rw [e] at qq
        have l1 : sign.natAbs < 2 ^ 8000 := by
          have : (1 : Nat) < 2 ^ 8000 := Nat.one_lt_two_pow (by decide)
          rcases st.si with z | z <;> rw [z] <;> exact this
        exact ⟨_, rfl, _, rfl, _, _, rfl, rfl, wide _ _ l1 (Nat.lt_of_le_of_lt bd.2 hB), qq⟩
end
end K67
-- J7
set_option exponentiation.threshold 300

namespace K67
open PySem PySem.Spec PyProof.Rows L2
open QF (low sg gc)
def dP (r : Int × Int) : PyData := .tuple [.int r.1, .int r.2]
theorem PR.dp {K : PySem.W.Frag} {H : Hp} {a : Addr} {r : Int × Int} (h : PR H a r) : Dp K H (.ref a) (dP r) := .tup h.sq (.cons (.int r.1) (.cons (.int r.2) .nil))
theorem shaped_dP (r : Int × Int) : SeqAt.shaped (dP r) = true := rfl
theorem eqv_dP (r : Int × Int) : PyData.eqv (dP r) (dP r) = true := SeqAt.eqv_refl _ (SeqAt.canLay_of_shaped (shaped_dP r))
theorem PL.row {H : Hp} {q : Addr} {rs : List (Int × Int)} (h : PL H q rs) {i : Nat} {r : Int × Int} (hr : rs[i]? = some r) : ∃ (as : List Addr) (a : Addr), H q = some (.lst (as.map V.ref)) ∧ atI (as.map V.ref) ((i : Nat) : Int) = some (.ref a) ∧ PR H a r := by
  obtain ⟨as, hq, hA⟩ := h
  obtain ⟨a, ha, hx⟩ := hA.get' hr
  refine ⟨as, a, hq, atI_nat ?_, hx⟩
  rw [List.getElem?_map, ha]
  rfl
theorem dot_le {x : List Int} {S : Nat → Int} (hx : DT.Lim (10 ^ 6) (DT.fn x)) (hS : ∀ k, (S k).natAbs < 2 ^ 8000) : ∀ n : Nat, (DT.dot n (DT.fn x) S).natAbs ≤ n * (10 ^ 6 * 2 ^ 8000)
  | 0 => Nat.zero_le _
  | n + 1 => by
    rw [DT.dot_succ, Nat.succ_mul]
    refine Nat.le_trans (Int.natAbs_add_le _ _) (Nat.add_le_add (dot_le hx hS n) ?_)
    rw [Int.natAbs_mul]
    exact Nat.mul_le_mul (hx n) (Nat.le_of_lt (hS n))
theorem dot_lt {x : List Int} {S : Nat → Int} {n : Nat} (hx : DT.Lim (10 ^ 6) (DT.fn x)) (hS : ∀ k, (S k).natAbs < 2 ^ 8000) (hn : n ≤ 16) : (DT.dot n (DT.fn x) S).natAbs < 2 ^ 8100 := by
  refine Nat.lt_of_le_of_lt (Nat.le_trans (dot_le hx hS n) (Nat.mul_le_mul_right _ hn)) ?_
  decide +kernel
theorem fn_sol {sols : List Int} (h : ∀ v ∈ sols, v.natAbs < 2 ^ 8000) (k : Nat) : (DT.fn sols k).natAbs < 2 ^ 8000 := by
  unfold DT.fn
  rw [List.getD_eq_getElem?_getD]
  cases e : sols[k]? with
  | none => exact Nat.two_pow_pos _
  | some v => exact h v (List.mem_of_getElem? e)
section
variable {P : Program} {w : World} {K : PySem.W.Frag} {mg : Str → Option Value} {base : Heap} {Ps : List Addr}
def sp_law_refused (K : PySem.W.Frag) (Ps : List Addr) : Sp := fun vs H Q _ => ∃ (p q : Addr) (Tb : List (List Int)) (rs : List (Int × Int)), vs = [.ref p, .ref q] ∧ NT H p Tb ∧ PL H q rs ∧ TGs Ps H ∧ Tb.length ≤ 1000 ∧ ¬ Fit Tb rs ∧
  ∀ H' t, Lk H H' → TGs Ps H' → SqT K H' t [.bl true, .int 0] → Q (.ref t) H'
theorem ok_law_refused (T : Txt K mg) (X : Errs K mg) (TB : Tbs base T Ps) : FnOk P w K mg base CX0 6 T.law_refused.a T.law_refused.fd ["rows", "right"] (sp_law_refused K Ps) := by
  refine T.law_refused.F.ok sc_law_refused (fun vs H Q E h => ?_) (fun cdv A outer s H vs Q E hr h => ?_)
  · obtain ⟨p, q, Tb, rs, rfl, _⟩ := h
    rfl
  · obtain ⟨p, q, Tb, rs, rfl, hT, hq, tg, l1, nf, qq⟩ := h
    refine ⟨_, (pss_cons (ps_try_as (i := 2) rfl rfl sc_law_refused.nd rfl rfl ⟨rfl, by decide, .inl X.e0.gM⟩ takes0
        (fun W pn xe tk _ => (pss_one (ps_expr (pe_callS (ok_solved T X TB) (hr.mono (by decide)) (by rfl) T.solved.g T.solved.kp T.solved.b (fun σ => passAt tk σ) (pa_cons (pv 0) (pa_cons (pv 1) pa_nil))))))
        (fun a oe cls d pn hz hf => (pss_one (ps_ret (pe_tup (pa_cons (pe_callB (LX.call_isX hz hf) (by rfl) T.m_isinstance (by decide +kernel) (pa_cons (pv 2) (pa_cons (pe_glob (v := .ref X.WrongSize.C) rfl X.WrongSize.g rfl) pa_nil))) (pa_cons (pe_xf X.WrongSize.xf X.WrongSize.noAt hz hf (pv 2)) pa_nil)))))))
      (pss_one (ps_ret pe_non))), ?_⟩
    refine ⟨.ref p, rfl, .ref q, rfl, p, q, Tb, rs, rfl, hT, hq, tg, l1, fun _ H1 lk t1 dd hdd => ?_, fun f => absurd f nf⟩
    refine ⟨true, X.WrongSize.exm, fun _ a0 ha0 => ?_, fun q => nomatch q⟩
    refine ⟨_, rfl, X.WrongSize.C, dd, _, _, true, _, rfl, rfl, X.WrongSize.named.own, rfl, .own _, upd_same, X.WrongSize.kit, ?_⟩
    refine ⟨_, rfl, rfl, rfl, dd, _, _, rfl, upd_same, rfl, by show 2 ≤ sizeLine; decide, fun t nt => ?_⟩
    have sd := same_upd hdd (o := .xd [("at", .int 0)])
    have st := same_upd nt (o := .tup [V.bl true, V.int 0])
    exact qq _ t (lk.trans (lk_of (sd.trans st))) (t1.same (sd.trans st)) (.of upd_same)
/-- a solution's fractions, and the law's equations -/
structure Sol (Tb : List (List Int)) (rs : List (Int × Int)) (sols : List Int) (Dn : Int) : Prop where
  fit : Fit Tb rs
  dw : Drw Tb rs
  ls : sols.length = Tb.length
  d0 : Dn ≠ 0
  dl : Dn.natAbs ≤ 2 ^ 800
  sl : ∀ v ∈ sols, v.natAbs < 2 ^ 8000
  rel : ∀ (i : Nat) (x : List Int) (r : Int × Int), Tb[i]? = some x → rs[i]? = some r → low (DT.dot Tb.length (DT.fn x) (DT.fn sols)) Dn = low r.1 r.2
  own : ∀ r ∈ rs, low r.1 r.2 = r
def lows (sols : List Int) (Dn : Int) : List (Int × Int) := sols.map fun v => low v Dn
def sp_law_keeps : Sp := fun vs H Q _ => ∃ (p q D : Addr) (Tb : List (List Int)) (rs : List (Int × Int)) (sols : List Int) (Dn : Int), vs = [.ref p, .ref q, .ref D] ∧ NT H p Tb ∧ PL H q rs ∧ PL H D (lows sols Dn) ∧ Sol Tb rs sols Dn ∧ ∀ H', Same H H' → Q (.bl true) H'
theorem ok_law_keeps (T : Txt K mg) : FnOk P w K mg base CX0 4 T.law_keeps.a T.law_keeps.fd ["rows", "right", "values"] sp_law_keeps := by
  refine T.law_keeps.F.ok sc_law_keeps (fun vs H Q E h => ?_) (fun cdv A outer s H vs Q E hr h => ?_)
  · obtain ⟨p, q, D, Tb, rs, sols, Dn, rfl, _⟩ := h
    rfl
  · obtain ⟨p, q, D, Tb, rs, sols, Dn, rfl, hT, hq, hD, so, qq⟩ := h
    refine ⟨_, (pss_cons (ps_for PassesOwn.never rfl (pi_range1 (by rfl) T.m_range (pa_cons (pe_callB call_len_seq (by rfl) T.m_len (by decide +kernel) (pa_cons (pv 0) pa_nil)) pa_nil)) (pg_name (i := 3) sc_law_keeps.nd rfl (.inl rfl))
        (pss_cons (ps_set (i := 4) sc_law_keeps.nd rfl (.inl rfl) (pe_tup (pa_cons pe_int (pa_cons pe_int pa_nil))))
        (pss_cons (ps_for PassesOwn.never rfl (pi_range1 (by rfl) T.m_range (pa_cons (pe_callB call_len_seq (by rfl) T.m_len (by decide +kernel) (pa_cons (pv 0) pa_nil)) pa_nil)) (pg_name (i := 5) sc_law_keeps.nd rfl (.inl rfl))
          (pss_one (ps_set (i := 4) sc_law_keeps.nd rfl (.inl rfl) (pe_call (ok_law_add T) (hr.mono (by decide)) (by rfl) T.law_add.g T.law_add.F.kp T.law_add.b .nil pass0 (pa_cons (pv 4) (pa_cons (pe_call (ok_law_multiply T) (hr.mono (by decide)) (by rfl) T.law_multiply.g T.law_multiply.F.kp T.law_multiply.b .nil pass0 (pa_cons (pe_tup (pa_cons (pe_ix ix_list (pe_ix ix_list (pv 0) (pv 3) (fun _ _ => rfl)) (pv 5) (fun _ _ => rfl)) (pa_cons pe_int pa_nil))) (pa_cons (pe_ix ix_list (pv 2) (pv 5) (fun _ _ => rfl)) pa_nil))) pa_nil))))))
        (pss_one (ps_if (pt_cmpR (op_neD hr.units) (pv 4) (pe_ix ix_list (pv 1) (pv 3) (fun _ _ => rfl)) (nomark _))
          (pss_one (ps_ret pe_bl))
          pss_nil)))))
      (pss_one (ps_ret pe_bl))), ?_⟩
    have ln := so.dw.len
    obtain ⟨as, hp, hA⟩ := id hT
    have el := hA.len
    refine ⟨.ref p, rfl, p, _, rfl, .inl (.of hp), ?_⟩
    rw [List.length_map, el]
    refine ⟨(Tb.length : Nat), rfl, by omega, by omega, ?_⟩
    rw [Int.toNat_natCast]
    refine for_range (n := Tb.length) (lo := 0) (fun i σ G => Same H G ∧ ∃ (x3 x4 x5 : Option V), σ = [some (.ref p), some (.ref q), some (.ref D), x3, x4, x5]) ⟨.refl _, _, _, _, rfl⟩ (fun i σ G hi hP => ?_) (fun σ G hP => ?_)
    · obtain ⟨sm, x3, x4, x5, rfl⟩ := hP
      rw [show (0 : Int) + (i : Int) = ((i : Nat) : Int) by omega]
      obtain ⟨x, ex⟩ : ∃ x, Tb[i]? = some x := ⟨_, List.getElem?_eq_getElem hi⟩
      obtain ⟨r, er⟩ : ∃ r, rs[i]? = some r := ⟨_, List.getElem?_eq_getElem (by rw [so.fit.1]; exact hi)⟩
      have lx := so.fit.2 x (List.mem_of_getElem? ex)
      have lim := so.dw.lim x (List.mem_of_getElem? ex)
      have bsol := fn_sol so.sl
      have low0 : low (DT.dot 0 (DT.fn x) (DT.fn sols)) Dn = (0, 1) := by
        rw [← QF.low_one 0]
        exact QF.low_eq so.d0 (by decide) (by show (0 : Int) * 1 = 0 * Dn; rw [Int.zero_mul, Int.zero_mul])
      refine ⟨by show 2 ≤ sizeLine; decide, fun t nt => ?_⟩
      have st := sm.trans (same_upd nt (o := .tup [V.int 0, V.int 1]))
      have ht : PR (upd G t (.tup [V.int 0, V.int 1])) t (low (DT.dot 0 (DT.fn x) (DT.fn sols)) Dn) := by rw [low0]; exact upd_same
      generalize upd G t _ = G0 at st ht
      refine ⟨.ref p, rfl, p, _, rfl, .inl (.of (st _ _ hp)), ?_⟩
      rw [List.length_map, el]
      refine ⟨(Tb.length : Nat), rfl, by omega, by omega, ?_⟩
      rw [Int.toNat_natCast]
      refine for_range (n := Tb.length) (lo := 0) (fun j σ G => Same H G ∧ ∃ (t : Addr) (x5 : Option V), σ = [some (.ref p), some (.ref q), some (.ref D), some (.int (i : Nat)), some (.ref t), x5] ∧ PR G t (low (DT.dot j (DT.fn x) (DT.fn sols)) Dn)) ⟨st, t, _, rfl, ht⟩ (fun j σ G2 hj hP2 => ?_) (fun σ G2 hP2 => ?_)
      · obtain ⟨s2, t2, y5, rfl, ht2⟩ := hP2
        rw [show (0 : Int) + (j : Int) = ((j : Nat) : Int) by omega]
        obtain ⟨as2, a2, hp2, ha2, _, hx2⟩ := (hT.same s2).row ex
        have ev : (lows sols Dn)[j]? = some (low (DT.fn sols j) Dn) := by
          unfold lows
          rw [List.getElem?_map, at_getD (d := 0) (by rw [so.ls]; exact hj)]
          rfl
        obtain ⟨bs, b, hb, hb2, hv⟩ := (hD.same s2).row ev
        refine ⟨.ref t2, rfl, .ref p, rfl, _, rfl, p, _, _, _, rfl, rfl, .of hp2, ha2, _, rfl, a2, _, _, _, rfl, rfl, hx2.sq, il_at (by omega), by show 2 ≤ sizeLine; decide, fun u nu => ?_⟩
        have su := same_upd nu (o := .tup [V.int (DT.fn x j), V.int 1])
        have d1 := QF.low_abs (n := DT.fn sols j) so.d0
        have d2 := QF.low_abs (n := DT.dot j (DT.fn x) (DT.fn sols)) so.d0
        have dd : ∀ z : Int × Int, z.2.natAbs ≤ Dn.natAbs → z.2.natAbs < 2 ^ 801 := fun z h => Nat.lt_of_le_of_lt (Nat.le_trans h so.dl) (by decide +kernel)
        have one : (1 : Int).natAbs < 2 ^ 801 := by decide +kernel
        have xb : (DT.fn x j).natAbs < 2 ^ 8100 := Nat.lt_of_le_of_lt (lim j) (by decide +kernel)
        have sb : (DT.fn sols j).natAbs < 2 ^ 8100 := Nat.lt_trans (bsol j) (Nat.pow_lt_pow_right (by decide) (by decide))
        refine ⟨.ref D, rfl, _, rfl, D, _, _, _, rfl, rfl, .of (su _ _ hb), hb2, u, b, _, _, _, _, rfl, .of upd_same, (hv.same su).sq, ⟨by decide, QF.low_ne so.d0, xb, one, Nat.lt_of_le_of_lt d1.1 sb, dd _ d1.2⟩, fun m nm => ?_⟩
        have sm2 := su.trans (same_upd nm (o := .tup [.int (low (DT.fn x j * (low (DT.fn sols j) Dn).1) (1 * (low (DT.fn sols j) Dn).2)).1, .int (low (DT.fn x j * (low (DT.fn sols j) Dn).1) (1 * (low (DT.fn sols j) Dn).2)).2]))
        have e1 : low (DT.fn x j * (low (DT.fn sols j) Dn).1) (1 * (low (DT.fn sols j) Dn).2) = low (DT.fn x j * DT.fn sols j) Dn := by
          have := QF.low_mul (a := DT.fn x j) (D := 1) (b := DT.fn sols j) (E := Dn) (by decide) so.d0
          rw [QF.low_one] at this
          rw [this, Int.one_mul]
        have hm : PR (upd (upd G2 u (.tup [V.int (DT.fn x j), V.int 1])) m (.tup [.int (low (DT.fn x j * (low (DT.fn sols j) Dn).1) (1 * (low (DT.fn sols j) Dn).2)).1, .int (low (DT.fn x j * (low (DT.fn sols j) Dn).1) (1 * (low (DT.fn sols j) Dn).2)).2])) m (low (DT.fn x j * DT.fn sols j) Dn) := by
          rw [← e1]; exact upd_same
        have pb : (DT.fn x j * DT.fn sols j).natAbs < 2 ^ 8100 := by
          rw [Int.natAbs_mul]
          refine Nat.lt_of_le_of_lt (Nat.mul_le_mul (lim j) (Nat.le_of_lt (bsol j))) ?_
          decide +kernel
        have d3 := QF.low_abs (n := DT.fn x j * DT.fn sols j) so.d0
        generalize upd (upd G2 u _) m _ = G4 at sm2 hm
        refine ⟨t2, m, _, _, _, _, rfl, (ht2.same sm2).sq, hm.sq, ⟨QF.low_ne so.d0, QF.low_ne so.d0, Nat.lt_of_le_of_lt d2.1 (dot_lt lim bsol (by omega)), dd _ d2.2, Nat.lt_of_le_of_lt d3.1 pb, dd _ d3.2⟩, fun o no => ?_⟩
        refine ⟨s2.trans (sm2.trans (same_upd no)), o, _, rfl, ?_⟩
        rw [DT.dot_succ, ← QF.low_add1 so.d0]
        exact upd_same
      · obtain ⟨s2, t2, y5, rfl, ht2⟩ := hP2
        rw [so.rel i x r ex er, so.own r (List.mem_of_getElem? er)] at ht2
        obtain ⟨bs, b, hb, hb2, hv⟩ := (hq.same s2).row er
        refine ⟨.ref t2, rfl, .ref q, rfl, _, rfl, q, _, _, _, rfl, rfl, .of hb, hb2, dP r, dP r, ht2.dp, hv.dp, shaped_dP _, shaped_dP _, _, rfl, ?_⟩
        rw [eqv_dP]
        exact iteF ⟨s2, _, _, _, rfl⟩
    · obtain ⟨sm, x3, x4, x5, rfl⟩ := hP
      exact qq G sm
def sp_law_are_ratios : Sp := fun vs H Q _ => ∃ (D : Addr) (ls : List (Int × Int)), vs = [.ref D, .int (ls.length : Nat)] ∧ PL H D ls ∧ ls.length ≤ 1000 ∧ (∀ l ∈ ls, 0 < l.2 ∧ gc l.1 l.2 = 1 ∧ l.1.natAbs * l.2.natAbs < 2 ^ 19990) ∧ Q (.bl true) H
theorem ok_law_are_ratios (T : Txt K mg) : FnOk P w K mg base CX0 2 T.law_are_ratios.a T.law_are_ratios.fd ["values", "many"] sp_law_are_ratios := by
  refine T.law_are_ratios.F.ok sc_law_are_ratios (fun vs H Q E h => ?_) (fun cdv A outer s H vs Q E hr h => ?_)
  · obtain ⟨D, ls, rfl, _⟩ := h
    rfl
  · obtain ⟨D, ls, rfl, hD, hl, hg, q⟩ := h
    refine ⟨_, (pss_cons (ps_if (PW.pt (pw_or (pt_not (pt_val (pe_callB call_isi (by rfl) T.m_isinstance (by decide +kernel) (pa_cons (pv 0) (pa_cons (pe_bltn (v := .ty "list") (by rfl) T.m_list (by decide +kernel) rfl) pa_nil))))) (pw_or1 (pt_cmpR op_ne (pe_callB call_len_seq (by rfl) T.m_len (by decide +kernel) (pa_cons (pv 0) pa_nil)) (pv 1) (nomark _)))))
        (pss_one (ps_ret pe_bl))
        pss_nil)
      (pss_cons (ps_for PassesOwn.never rfl (pi_list (pv 0)) (pg_name (i := 2) sc_law_are_ratios.nd rfl (.inl rfl))
        (pss_cons (ps_if (PW.pt (pw_or (pt_not (pt_val (pe_callB call_isi (by rfl) T.m_isinstance (by decide +kernel) (pa_cons (pv 2) (pa_cons (pe_bltn (v := .ty "tuple") (by rfl) T.m_tuple (by decide +kernel) rfl) pa_nil))))) (pw_or (pt_cmpR op_ne (pe_callB call_len_seq (by rfl) T.m_len (by decide +kernel) (pa_cons (pv 2) pa_nil)) pe_int (nomark _)) (pw_or (pt_not (pt_val (pe_call (ok_law_is_integer T) (hr.mono (by decide)) (by rfl) T.law_is_integer.g T.law_is_integer.F.kp T.law_is_integer.b .nil pass0 (pa_cons (pe_ix ix_tup (pv 2) pe_int (fun _ _ => rfl)) pa_nil)))) (pw_or1 (pt_not (pt_val (pe_call (ok_law_is_integer T) (hr.mono (by decide)) (by rfl) T.law_is_integer.g T.law_is_integer.F.kp T.law_is_integer.b .nil pass0 (pa_cons (pe_ix ix_tup (pv 2) pe_int (fun _ _ => rfl)) pa_nil)))))))))
          (pss_one (ps_ret pe_bl))
          pss_nil)
        (pss_one (ps_if (PW.pt (pw_or (pt_cmpR op_lt (pe_ix ix_tup (pv 2) pe_int (fun _ _ => rfl)) pe_int (nomark _)) (pw_or1 (pt_cmpR op_ne (pe_call (ok_law_common T) (hr.mono (by decide)) (by rfl) T.law_common.g T.law_common.F.kp T.law_common.b .nil pass0 (pa_cons (pe_ix ix_tup (pv 2) pe_int (fun _ _ => rfl)) (pa_cons (pe_ix ix_tup (pv 2) pe_int (fun _ _ => rfl)) pa_nil))) pe_int (nomark _)))))
          (pss_one (ps_ret pe_bl))
          pss_nil))))
      (pss_one (ps_ret pe_bl)))), ?_⟩
    obtain ⟨as, ha, hA⟩ := id hD
    have el := hA.len
    refine ⟨.ref D, rfl, _, _, _, _, true, rfl, .ty "list", .base (.lst ha), rfl, _, rfl, iteF ?_⟩
    refine ⟨.ref D, rfl, D, _, rfl, .inl (.of ha), _, rfl, rfl, _, rfl, ?_⟩
    rw [List.length_map, el, decide_eq_true rfl]
    refine iteF ⟨.ref D, rfl, D, rfl, ⟨_, .of ha⟩, ?_⟩
    refine for_it (walk_list (xs := as.map V.ref)) (fun i σ G => G = H ∧ ∃ x2 : Option V, σ = [some (.ref D), some (.int (ls.length : Nat)), x2]) ⟨rfl, _, rfl⟩ (fun i σ G _ hP => by rw [hP.1]; exact .of ha) (fun i x σ G G' hi hP yy => ?_) (fun σ G hP => ?_)
    · obtain ⟨rfl, x2, rfl⟩ := hP
      obtain ⟨rfl, hx⟩ := yy
      rw [List.getElem?_map] at hx
      cases e : as[i]? with
      | none => rw [e] at hx; cases hx
      | some a =>
        rw [e] at hx
        cases hx
        obtain ⟨l, er, hra⟩ := hA.get e
        obtain ⟨g1, g2, g3⟩ := hg l (List.mem_of_getElem? er)
        refine ⟨.ref a, rfl, _, _, _, _, _, rfl, .ty "tuple", .base (.tup hra), kit_ty (by decide +kernel), true, rfl, ?_⟩
        refine iteF ⟨.ref a, rfl, a, _, rfl, .inr hra.sq, rfl, _, rfl, ?_⟩
        refine iteF ⟨.ref a, rfl, a, _, _, _, rfl, rfl, hra.sq, at0, _, rfl, true, rfl, ?_⟩
        refine iteF ⟨.ref a, rfl, a, _, _, _, rfl, rfl, hra.sq, at1, _, rfl, true, rfl, ?_⟩
        refine iteF ⟨.ref a, rfl, a, _, _, _, rfl, rfl, hra.sq, at1, _, _, rfl, rfl, _, rfl, ?_⟩
        rw [decide_eq_false (by omega)]
        refine iteF ⟨.ref a, rfl, a, _, _, _, rfl, rfl, hra.sq, at0, .ref a, rfl, a, _, _, _, rfl, rfl, hra.sq, at1, _, _, rfl, g3, rfl, _, rfl, ?_⟩
        rw [g2, decide_eq_true rfl]
        exact iteF ⟨rfl, _, rfl⟩
    · obtain ⟨rfl, x2, rfl⟩ := hP
      exact q
end
end K67
-- L7
set_option exponentiation.threshold 300

namespace K67
open PySem PySem.Spec PyProof.Rows L2
open QF (low sg gc)
/-! ### data and their texts -/
/-- may be shown and compared; a text of at most n signs -/
structure Gd (k n : Nat) (d : PyData) : Prop where
  sh : d.showable = true
  lay : d.canLay0 = true
  dep : d.depth ≤ k
  len : d.shown.length ≤ n
def tot (ts : List Str) : Nat := (ts.map fun t => t.length + 2).sum
theorem textFrom_tot : ∀ (ts : List Str) (k : Nat) (acc : Str), (textFrom k acc ts).length ≤ acc.length + tot ts
  | [], k, acc => Nat.le_add_right _ _
  | t :: r, k, acc => by
    have h := textFrom_tot r (k + 1) (acc ++ (if k > 0 then ", " else "" : String) ++ t)
    rw [Str.length_append, Str.length_append] at h
    have e : ((if k > 0 then ", " else "" : String) : Str).length ≤ 2 := by split <;> decide +kernel
    show (textFrom (k + 1) (acc ++ (if k > 0 then ", " else "" : String) ++ t) r).length ≤ _
    have e2 : tot (t :: r) = t.length + 2 + tot r := by unfold tot; rw [List.map_cons, List.sum_cons]
    omega
theorem join_tot : ∀ ts : List Str, (Str.join ", " ts).length ≤ tot ts
  | [] => Nat.zero_le _
  | [x] => by show x.length ≤ _; unfold tot; simp
  | x :: y :: r => by
    have h := join_tot (y :: r)
    show (x ++ ", " ++ Str.join ", " (y :: r)).length ≤ _
    rw [Str.length_append, Str.length_append]
    have e2 : tot (x :: y :: r) = x.length + 2 + tot (y :: r) := by unfold tot; rw [List.map_cons, List.sum_cons]
    have e3 : ((", " : String) : Str).length = 2 := rfl
    omega
/-- all of them, with all their texts together -/
inductive GdAll (k : Nat) : Nat → List PyData → Prop
  | nil : GdAll k 0 []
  | cons {n m : Nat} {d : PyData} {ds : List PyData} : Gd k n d → GdAll k m ds → GdAll k (n + 2 + m) (d :: ds)
theorem GdAll.facts {k : Nat} : ∀ {n : Nat} {ds : List PyData}, GdAll k n ds → PyData.showableAll ds = true ∧ PyData.canLayAll0 ds = true ∧ PyData.depthAll ds ≤ k ∧ tot (PyData.shownAll ds) ≤ n
  | _, _, .nil => ⟨rfl, rfl, Nat.zero_le _, Nat.le_refl _⟩
  | _, _, .cons (d := d) (ds := ds) h t => by
    obtain ⟨h1, h2, h3, h4⟩ := t.facts
    refine ⟨?_, ?_, ?_, ?_⟩
    · show (PyData.showable d && PyData.showableAll ds) = true
      rw [h.sh, h1]; rfl
    · show (PyData.canLay0 d && PyData.canLayAll0 ds) = true
      rw [h.lay, h2]; rfl
    · show max (PyData.depth d) (PyData.depthAll ds) ≤ k
      exact Nat.max_le.mpr ⟨h.dep, h3⟩
    · show tot (PyData.shown d :: PyData.shownAll ds) ≤ _
      unfold tot at h4 ⊢
      rw [List.map_cons, List.sum_cons]
      have := h.len
      omega
theorem GdAll.map {α : Type} {k n : Nat} {f : α → PyData} : ∀ {xs : List α}, (∀ x ∈ xs, Gd k n (f x)) → GdAll k (xs.length * (n + 2)) (xs.map f)
  | [], _ => by rw [List.length_nil, Nat.zero_mul]; exact .nil
  | x :: r, h => by
    rw [List.length_cons, Nat.succ_mul, Nat.add_comm]
    exact .cons (h x List.mem_cons_self) (GdAll.map fun y hy => h y (List.mem_cons_of_mem _ hy))
theorem Gd.list {k n : Nat} {ds : List PyData} (h : GdAll k n ds) : Gd (k + 1) (n + 2) (.list ds) := by
  obtain ⟨h1, h2, h3, h4⟩ := h.facts
  refine ⟨h1, h2, Nat.succ_le_succ h3, ?_⟩
  show (listText (PyData.shownAll ds)).length ≤ _
  unfold listText
  rw [Str.length_append]
  have := textFrom_tot (PyData.shownAll ds) 0 "["
  have e1 : (("[" : String) : Str).length = 1 := rfl
  have e2 : (("]" : String) : Str).length = 1 := rfl
  omega
theorem Gd.tup {k n : Nat} {ds : List PyData} (h : GdAll k n ds) : Gd (k + 1) (n + 3) (.tuple ds) := by
  obtain ⟨h1, h2, h3, h4⟩ := h.facts
  refine ⟨h1, h2, Nat.succ_le_succ h3, ?_⟩
  show (tupleText (PyData.shownAll ds)).length ≤ _
  unfold tupleText
  rw [Str.length_append, Str.length_append]
  have := join_tot (PyData.shownAll ds)
  have e1 : (("(" : String) : Str).length = 1 := rfl
  have e2 : ((if (PyData.shownAll ds).length == 1 then ",)" else ")" : String) : Str).length ≤ 2 := by split <;> decide +kernel
  omega
theorem Gd.mono {k l n m : Nat} {d : PyData} (h : Gd k n d) (a : k ≤ l) (b : n ≤ m) : Gd l m d := ⟨h.sh, h.lay, Nat.le_trans h.dep a, Nat.le_trans h.len b⟩
theorem Gd.int {i : Int} (h : i.natAbs < 10 ^ 8) : Gd 0 9 (.int i) := by
  refine ⟨decide_eq_true (log_small (by omega)), rfl, Nat.le_refl _, ?_⟩
  show (Str.ofString (toString i)).length ≤ 9
  rw [PySem.ofString_length]
  exact int_text_length_le10 (k := 8) (by decide) h
def dNT (Tb : List (List Int)) : PyData := .list (Tb.map dI)
def dPL (rs : List (Int × Int)) : PyData := .list (rs.map dP)
def dK (Tb : List (List Int)) (rs : List (Int × Int)) : PyData := .tuple [dNT Tb, dPL rs]
theorem dp_rows {K : PySem.W.Frag} {H : Hp} : ∀ {as : List Addr} {Tb : List (List Int)}, A2 (fun a x => IL H a x) as Tb → DpAll K H (as.map V.ref) (Tb.map dI)
  | _, _, .nil => .nil
  | _, _, .cons h t => .cons (dpI h.sq) (dp_rows t)
theorem dp_nt {K : PySem.W.Frag} {H : Hp} {p : Addr} {Tb : List (List Int)} (h : NT H p Tb) : Dp K H (.ref p) (dNT Tb) := let ⟨as, ha, hA⟩ := h; .lst (.of ha) (dp_rows hA)
theorem dp_prs {K : PySem.W.Frag} {H : Hp} : ∀ {as : List Addr} {rs : List (Int × Int)}, A2 (PR H) as rs → DpAll K H (as.map V.ref) (rs.map dP)
  | _, _, .nil => .nil
  | _, _, .cons h t => .cons h.dp (dp_prs t)
theorem dp_pl {K : PySem.W.Frag} {H : Hp} {p : Addr} {rs : List (Int × Int)} (h : PL H p rs) : Dp K H (.ref p) (dPL rs) := let ⟨as, ha, hA⟩ := h; .lst (.of ha) (dp_prs hA)
theorem layAll_map {α : Type} {f : α → PyData} (h : ∀ x, (f x).canLay0 = true) : ∀ xs : List α, PyData.canLayAll0 (xs.map f) = true
  | [] => rfl
  | x :: r => by
    show (PyData.canLay0 (f x) && PyData.canLayAll0 (r.map f)) = true
    rw [h, layAll_map h r]; rfl
theorem depAll_map {α : Type} {f : α → PyData} {k : Nat} (h : ∀ x, (f x).depth ≤ k) : ∀ xs : List α, PyData.depthAll (xs.map f) ≤ k
  | [] => Nat.zero_le _
  | x :: r => by
    show max (PyData.depth (f x)) (PyData.depthAll (r.map f)) ≤ k
    exact Nat.max_le.mpr ⟨h x, depAll_map h r⟩
theorem shaped_pl (rs : List (Int × Int)) : SeqAt.shaped (dPL rs) = true := by
  unfold SeqAt.shaped
  have l : (dPL rs).canLay0 = true := layAll_map (fun _ => rfl) rs
  have d : (dPL rs).depth ≤ 2 := Nat.succ_le_succ (depAll_map (k := 1) (fun x => Nat.le_refl _) rs)
  rw [l, decide_eq_true (Nat.le_trans d (by decide) : (dPL rs).depth ≤ 64)]; rfl
theorem eqv_pl (rs : List (Int × Int)) : PyData.eqv (dPL rs) (dPL rs) = true := SeqAt.eqv_refl _ (SeqAt.canLay_of_shaped (shaped_pl rs))
def dR (n : Int) : PyData := .tuple [.bool true, .int n]
theorem dR_dp {K : PySem.W.Frag} {H : Hp} {a : Addr} {n : Int} (h : SqT K H a [.bl true, .int n]) : Dp K H (.ref a) (dR n) := .tup h (.cons (.bl true) (.cons (.int n) .nil))
theorem shaped_dR (n : Int) : SeqAt.shaped (dR n) = true := rfl
theorem eqv_dR (n : Int) : PyData.eqv (dR n) (dR n) = true := SeqAt.eqv_refl _ (SeqAt.canLay_of_shaped (shaped_dR n))
/-- a drawn table -/
structure Dt (n : Nat) (Tb : List (List Int)) : Prop where
  len : Tb.length = n
  wid : ∀ x ∈ Tb, x.length = n
  num : ∀ x ∈ Tb, ∀ v ∈ x, v.natAbs ≤ 10 ^ 6
theorem lim_of {x : List Int} {B : Nat} (h : ∀ v ∈ x, v.natAbs ≤ B) : DT.Lim B (DT.fn x) := fun j => by
  unfold DT.fn
  rw [List.getD_eq_getElem?_getD]
  cases e : x[j]? with
  | none => exact Nat.zero_le _
  | some v => exact h v (List.mem_of_getElem? e)
theorem gd_k {n : Nat} {Tb : List (List Int)} {rs : List (Int × Int)} (h : Dt n Tb) (hn : n ≤ 16) (lr : rs.length ≤ 16) (hr : ∀ r ∈ rs, Rr r) : Gd 3 4000 (dK Tb rs) := by
  have h1 : ∀ x ∈ Tb, Gd 1 178 (dI x) := fun x hx =>
    (Gd.list (GdAll.map (n := 9) fun v hv => Gd.int (Nat.lt_of_le_of_lt (h.num x hx v hv) (by decide)))).mono (Nat.le_refl _) (by rw [h.wid x hx]; omega)
  have h2 : ∀ r ∈ rs, Gd 1 30 (dP r) := fun r hr2 => (Gd.tup (.cons (Gd.int (Nat.lt_of_le_of_lt (hr r hr2).1 (by decide))) (.cons (Gd.int (Nat.lt_of_le_of_lt (hr r hr2).2.2 (by decide))) .nil))).mono (Nat.le_refl _) (by decide)
  have h3 : Gd 2 2882 (dNT Tb) := (Gd.list (GdAll.map h1)).mono (Nat.le_refl _) (by rw [h.len]; omega)
  have h4 : Gd 2 514 (dPL rs) := (Gd.list (GdAll.map h2)).mono (Nat.le_refl _) (by omega)
  exact (Gd.tup (.cons h3 (.cons h4 .nil))).mono (Nat.le_refl _) (by decide)
theorem SameX.lst {D a : Addr} {H H' : Hp} {xs : List V} (s : SameX D H H') (n : a ≠ D) (h : H a = some (.lst xs)) : H' a = some (.lst xs) := s _ _ n h
/-- the law's if, whose two ends go on alike -/
def TSr (a : Addr) : TS := fun D σ H => ∃ (d R : Addr) (ds : List Int) (n : Nat) (top : Int) (Tb : List (List Int)) (as : List Addr), σ = [some (.ref a), some (.ref d), some (.int (n : Nat)), some (.int top), some (.ref R), none, none, none, none, none, none, none, none, none, none] ∧
  IL H d ds ∧ d ≠ R ∧ n ≤ 16 ∧ NX R H Tb as ∧ Dt n Tb ∧ ∀ G Tb' as' x6, SameX R H G → NX R G Tb' as' → Dt n Tb' → D.nx [some (.ref a), some (.ref d), some (.int (n : Nat)), some (.int top), some (.ref R), none, x6, none, none, none, none, none, none, none, none] G
theorem ps_via {X : Cx} {st : Stmt} {t t' : TS} (h : PS X st t) (f : ∀ D σ H, t' D σ H → t D σ H) : PS X st t' := ⟨fun pins s σ H D I z => h.run pins s σ H D I (f D σ H z)⟩
theorem A2.app {α β : Type} {R : α → β → Prop} {cs : List α} {ds : List β} (h2 : A2 R cs ds) : ∀ {as : List α} {bs : List β}, A2 R as bs → A2 R (as ++ cs) (bs ++ ds)
  | _, _, .nil => h2
  | _, _, .cons a r => .cons a (A2.app h2 r)
theorem A2.take {α β : Type} {R : α → β → Prop} : ∀ {as : List α} {bs : List β} (n : Nat), A2 R as bs → A2 R (as.take n) (bs.take n)
  | _, _, 0, _ => .nil
  | _, _, n + 1, .nil => .nil
  | _, _, n + 1, .cons a r => .cons a (A2.take n r)
theorem A2.drop {α β : Type} {R : α → β → Prop} : ∀ {as : List α} {bs : List β} (n : Nat), A2 R as bs → A2 R (as.drop n) (bs.drop n)
  | _, _, 0, h => h
  | _, _, n + 1, .nil => .nil
  | _, _, n + 1, .cons a r => A2.drop n r
theorem cut_to {xs : List V} {z : Int} {L : Nat} (e : z = (L : Int)) (h : L ≤ xs.length) : cutV xs none (some z) = xs.take L := by
  subst e
  unfold cutV
  rw [HT.sIx_none, HT.sIx_nat, List.drop_zero, Nat.min_eq_left h, Nat.sub_zero]
theorem rep_one (n : Nat) : (List.replicate n [V.int 1]).flatten = (List.replicate n (1 : Int)).map V.int := by
  induction n with
  | zero => rfl
  | succ n ih => rw [List.replicate_succ, List.flatten_cons, ih, List.replicate_succ, List.map_cons]; rfl
theorem lows_uniq {Tb : List (List Int)} {rs : List (Int × Int)} {s1 s2 : List Int} {d1 d2 : Int} (f : Fit Tb rs) (nz : dtm Tb ≠ 0) (l1 : s1.length = Tb.length) (l2 : s2.length = Tb.length) (h1 : d1 ≠ 0) (h2 : d2 ≠ 0)
    (r1 : ∀ (i : Nat) (x : List Int) (r : Int × Int), Tb[i]? = some x → rs[i]? = some r → low (DT.dot Tb.length (DT.fn x) (DT.fn s1)) d1 = low r.1 r.2)
    (r2 : ∀ (i : Nat) (x : List Int) (r : Int × Int), Tb[i]? = some x → rs[i]? = some r → low (DT.dot Tb.length (DT.fn x) (DT.fn s2)) d2 = low r.1 r.2) : lows s1 d1 = lows s2 d2 := by
  have ker : ∀ k, k < Tb.length → DT.fn s1 k * d2 - DT.fn s2 k * d1 = 0 := fun k hk =>
    DT.kernel (n := Tb.length) (R := Tb.map DT.fn) (S := fun j => DT.fn s1 j * d2 - DT.fn s2 j * d1) (by rw [List.length_map]) nz (fun x hx => by
      obtain ⟨y, hy, rfl⟩ := List.mem_map.mp hx
      obtain ⟨i, hi⟩ := List.mem_iff_getElem?.mp hy
      have hil : i < Tb.length := (List.getElem?_eq_some_iff.mp hi).1
      obtain ⟨r, hr⟩ : ∃ r, rs[i]? = some r := ⟨_, List.getElem?_eq_getElem (by rw [f.1]; exact hil)⟩
      have := QF.low_inv h1 h2 ((r1 i y r hi hr).trans (r2 i y r hi hr).symm)
      rw [DT.dot_sub]
      omega) hk
  unfold lows
  apply List.ext_getElem?
  intro k
  rw [List.getElem?_map, List.getElem?_map]
  rcases Nat.lt_or_ge k Tb.length with hk | hk
  · have e1 : s1[k]? = some (DT.fn s1 k) := at_getD (d := 0) (by rw [l1]; exact hk)
    have e2 : s2[k]? = some (DT.fn s2 k) := at_getD (d := 0) (by rw [l2]; exact hk)
    rw [e1, e2]
    show some (low (DT.fn s1 k) d1) = some (low (DT.fn s2 k) d2)
    exact congrArg some (QF.low_eq h1 h2 (by have := ker k hk; omega))
  · rw [List.getElem?_eq_none (by omega), List.getElem?_eq_none (by omega)]
    rfl
section
variable {P : Program} {w : World} {K : PySem.W.Frag} {mg : Str → Option Value} {base : Heap}
def sp_law (K : PySem.W.Frag) (P1 P2 : Addr) : Sp := fun vs H Q _ => ∃ (a : Addr) (ns : List Int), vs = [.ref a] ∧ SqL K H a (ns.map V.int) ∧ ns.length ≤ 63 ∧ GxR.TabG H P1 ∧ GxR.TabG H P2 ∧ ∀ H', Q (.bl true) H'
theorem ok_law (T : Txt K mg) (X : Errs K mg) {P1 P2 : Addr} (B1 : GxR.TabB base mg T.is_square.c P1) (B2 : GxR.TabB base mg T.solved.c P2) : LG.FnG P w K mg base CX0 7 T.law.a T.law.fd ["script"] (sp_law K P1 P2) := by
  let TB : Tbs base T [P1, P2] := ⟨P1, P2, B1, B2, by simp, by simp⟩
  refine LG.fun_okG T.law.F sc_law (fun vs H Q E h => ?_) (fun cdv A outer s H vs Q E hr gd h => ?_)
  · obtain ⟨a, ns, rfl, _⟩ := h
    rfl
  · obtain ⟨a, ns, rfl, ha, hl, t1, t2, fin⟩ := h
    have tg : TGs [P1, P2] H := fun P hP => by
      rcases List.mem_cons.mp hP with rfl | hP
      · exact t1
      · rw [List.mem_singleton.mp hP]; exact t2
    refine ⟨_, (pss_cons (ps_set (i := 1) sc_law.nd rfl (.inr rfl) (pe_call (ok_law_draws T) (hr.mono (by decide)) (by rfl) T.law_draws.g T.law_draws.F.kp T.law_draws.b .nil pass0 (pa_cons (pv 0) pa_nil)))
      (pss_cons (ps_set (i := 2) sc_law.nd rfl (.inr rfl) (pe_call (ok_law_mix T) (hr.mono (by decide)) (by rfl) T.law_mix.g T.law_mix.F.kp T.law_mix.b .nil pass0 (pa_cons (pv 1) (pa_cons pe_int (pa_cons (pe_ix ix_list (pe_lst (pa_cons pe_int (pa_cons pe_int pa_nil))) (pe_callTy call_int1 (by rfl) T.m_int (by decide +kernel) (pa_cons (pe_cmpR op_eq (pe_call (ok_law_mix T) (hr.mono (by decide)) (by rfl) T.law_mix.g T.law_mix.F.kp T.law_mix.b .nil pass0 (pa_cons (pv 1) (pa_cons pe_int (pa_cons pe_int pa_nil)))) pe_int (nomark _)) pa_nil)) (fun _ _ => rfl)) pa_nil)))))
      (pss_cons (ps_set (i := 3) sc_law.nd rfl (.inr rfl) (pe_ix ix_list (pe_lst (pa_cons pe_int (pa_cons pe_int (pa_cons pe_int pa_nil)))) (pe_call (ok_law_mix T) (hr.mono (by decide)) (by rfl) T.law_mix.g T.law_mix.F.kp T.law_mix.b .nil pass0 (pa_cons (pv 1) (pa_cons pe_int (pa_cons pe_int pa_nil)))) (fun _ _ => rfl)))
      (pss_cons (ps_set (i := 4) sc_law.nd rfl (.inr rfl) (pe_lc (own := [("i", 12)]) rfl sc_law.nd (pi_range1 (by rfl) T.m_range (pa_cons (pv 2) pa_nil)) (blkOk_by (N := ["script", "draws", "many", "top", "rows", "at", "places", "right", "kept", "told", "copy", "row", "i", "j", "number"]) (sc := defScope s_law) (by decide +kernel)) (fun _ _ _ _ _ => (pg_name (i := 12) sc_law.nd rfl (.inr rfl))) (fun _ _ _ _ _ => pts_nil) (fun _ _ _ _ _ => (pe_lc (own := [("j", 13)]) rfl sc_law.nd (pi_range1 (by rfl) T.m_range (pa_cons (pv 2) pa_nil)) (blkOk_by (N := ["script", "draws", "many", "top", "rows", "at", "places", "right", "kept", "told", "copy", "row", "i", "j", "number"]) (sc := { kind := .function, names := [(".0", .local), ("i", .cell), ("range", .globalImplicit), ("draws", .cell), ("many", .cell), ("top", .cell)], isGenerator := false, isCoroutine := false, more := [] }) (by decide +kernel)) (fun _ _ _ _ _ => (pg_name (i := 13) sc_law.nd rfl (.inl rfl))) (fun _ _ _ _ _ => pts_nil) (fun _ _ _ _ _ => (pe_op op_sub (pe_call (ok_law_mix T) (hr.mono (by decide)) (by rfl) T.law_mix.g T.law_mix.F.kp T.law_mix.b .nil pass0 (pa_cons (pv 1) (pa_cons (pe_op op_add (pe_op op_add pe_int (pe_op op_mul pe_int (pv 12))) (pv 13)) (pa_cons (pe_op op_add (pe_op op_mul pe_int (pv 3)) pe_int) pa_nil)))) (pv 3)))))))
      (pss_cons (ps_via (t' := TSr a) (ps_if (PW.pt (pw_and (pt_cmpR op_gt (pv 2) pe_int (nomark _)) (pw_and1 (pt_cmpR op_eq (pe_call (ok_law_mix T) (hr.mono (by decide)) (by rfl) T.law_mix.g T.law_mix.F.kp T.law_mix.b .nil pass0 (pa_cons (pv 1) (pa_cons pe_int (pa_cons pe_int pa_nil)))) pe_int (nomark _)))))
        (pss_cons (ps_set (i := 6) sc_law.nd rfl (.inr rfl) (pe_lc (own := [("at", 5)]) rfl sc_law.nd (pi_range1 (by rfl) T.m_range (pa_cons pe_int pa_nil)) (blkOk_by (N := ["script", "draws", "many", "top", "rows", "at", "places", "right", "kept", "told", "copy", "row", "i", "j", "number"]) (sc := defScope s_law) (by decide +kernel)) (fun _ _ _ _ _ => (pg_name (i := 5) sc_law.nd rfl (.inl rfl))) (fun _ _ _ _ _ => pts_nil) (fun _ _ _ _ _ => (pe_call (ok_law_mix T) (hr.mono (by decide)) (by rfl) T.law_mix.g T.law_mix.F.kp T.law_mix.b .nil pass0 (pa_cons (pv 1) (pa_cons (pe_op op_add pe_int (pv 5)) (pa_cons (pv 2) pa_nil)))))))
        (pss_one (ps_if (pt_cmpR op_notIn_seq (pe_ix ix_list (pv 6) pe_int (fun _ _ => rfl)) (pe_slice sl_list (pv 6) (po_some pe_int) po_none) rfl)
          (pss_cons (ps_asg (pe_lc (own := [("j", 13)]) rfl sc_law.nd (pi_range1 (by rfl) T.m_range (pa_cons (pv 2) pa_nil)) (blkOk_by (N := ["script", "draws", "many", "top", "rows", "at", "places", "right", "kept", "told", "copy", "row", "i", "j", "number"]) (sc := defScope s_law) (by decide +kernel)) (fun _ _ _ _ _ => (pg_name (i := 13) sc_law.nd rfl (.inl rfl))) (fun _ _ _ _ _ => pts_nil) (fun _ _ _ _ _ => (pe_op op_add (pe_ix (r := rIxL K) ix_list (pe_ix (r := rIxL K) ix_list (pv 4) (pe_ix (r := rIxL K) ix_list (pv 6) pe_int (fun _ _ => rfl)) (fun _ _ => rfl)) (pv 13) (fun _ _ => rfl)) (pe_ix (r := rIxL K) ix_list (pe_ix (r := rIxL K) ix_list (pv 4) (pe_ix (r := rIxL K) ix_list (pv 6) pe_int (fun _ _ => rfl)) (fun _ _ => rfl)) (pv 13) (fun _ _ => rfl))))) (pg_sub (pv 4) (pe_ix ix_list (pv 6) pe_int (fun _ _ => rfl)) set_list))
          (pss_one (ps_asg (pe_lc (own := [("number", 14)]) rfl sc_law.nd (pi_list (pe_ix ix_list (pv 4) (pe_ix ix_list (pv 6) pe_int (fun _ _ => rfl)) (fun _ _ => rfl))) (blkOk_by (N := ["script", "draws", "many", "top", "rows", "at", "places", "right", "kept", "told", "copy", "row", "i", "j", "number"]) (sc := defScope s_law) (by decide +kernel)) (fun _ _ _ _ _ => (pg_name (i := 14) sc_law.nd rfl (.inl rfl))) (fun _ _ _ _ _ => pts_nil) (fun _ _ _ _ _ => (pe_callB (call_max2 rfl) (by rfl) T.m_max (by decide +kernel) (pa_cons (pe_un un_neg pe_int) (pa_cons (pe_callB (call_min2 rfl) (by rfl) T.m_min (by decide +kernel) (pa_cons pe_int (pa_cons (pv 14) pa_nil))) pa_nil))))) (pg_sub (pv 4) (pe_ix ix_list (pv 6) pe_int (fun _ _ => rfl)) set_list))))
          pss_nil)))
        pss_nil) ?via)
      (pss_cons (ps_setLc (i := 7) (own := [("i", 12)]) rfl sc_law.nd rfl rfl (sw_true rfl rfl rfl (by decide +kernel)) (pi_range1 (by rfl) T.m_range (pa_cons (pv 2) pa_nil)) (blkOk_by (N := ["script", "draws", "many", "top", "rows", "at", "places", "right", "kept", "told", "copy", "row", "i", "j", "number"]) (sc := defScope s_law) (by decide +kernel)) (fun _ _ _ _ _ => (pg_name (i := 12) sc_law.nd rfl (.inl rfl))) (fun _ _ _ _ _ => pts_nil) (fun _ _ _ _ _ => (pe_call (ok_law_drawn_ratio T) (hr.mono (by decide)) (by rfl) T.law_drawn_ratio.g T.law_drawn_ratio.F.kp T.law_drawn_ratio.b .nil pass0 (pa_cons (pv 1) (pa_cons (pe_op op_add pe_int (pe_op op_mul pe_int (pv 12))) pa_nil)))))
      (pss_cons (ps_set (i := 8) sc_law.nd rfl (.inl rfl) (pe_callB (LG.call_reprD gd hr.units) (by rfl) T.m_repr (by decide +kernel) (pa_cons (pe_tup (pa_cons (pv 4) (pa_cons (pv 7) pa_nil))) pa_nil)))
      (pss_cons (ps_set (i := 9) sc_law.nd rfl (.inl rfl) (pe_call (ok_solved T X TB) (hr.mono (by decide)) (by rfl) T.solved.g T.solved.kp T.solved.b .nil (passes_call takes0 fun _ _ _ _ h => h) (pa_cons (pv 4) (pa_cons (pv 7) pa_nil))))
      (pss_cons (ps_if (pt_cmpR op_ne (pe_callB (LG.call_reprD gd hr.units) (by rfl) T.m_repr (by decide +kernel) (pa_cons (pe_tup (pa_cons (pv 4) (pa_cons (pv 7) pa_nil))) pa_nil)) (pv 8) (nomark _))
        (pss_one (ps_ret pe_bl))
        pss_nil)
      (pss_cons (ps_if (PW.pt (pw_or (pt_cmpR op_eq (pe_call (ok_law_determinant T) (hr.mono (by decide)) (by rfl) T.law_determinant.g T.law_determinant.F.kp T.law_determinant.b .nil pass0 (pa_cons (pv 4) pa_nil)) pe_int (nomark _)) (pw_or1 (pt_cmpR op_isN (pv 9) pe_non (nomark _)))))
        (pss_one (ps_ret (pe_and (pe_cmpR op_eq (pe_call (ok_law_determinant T) (hr.mono (by decide)) (by rfl) T.law_determinant.g T.law_determinant.F.kp T.law_determinant.b .nil pass0 (pa_cons (pv 4) pa_nil)) pe_int (nomark _)) (pe_one (pe_cmpR op_isN (pv 9) pe_non (nomark _))))))
        pss_nil)
      (pss_cons (ps_if (PW.pt (pw_or (pt_not (pt_val (pe_call (ok_law_are_ratios T) (hr.mono (by decide)) (by rfl) T.law_are_ratios.g T.law_are_ratios.F.kp T.law_are_ratios.b .nil pass0 (pa_cons (pv 9) (pa_cons (pv 2) pa_nil))))) (pw_or1 (pt_not (pt_val (pe_call (ok_law_keeps T) (hr.mono (by decide)) (by rfl) T.law_keeps.g T.law_keeps.F.kp T.law_keeps.b .nil pass0 (pa_cons (pv 4) (pa_cons (pv 7) (pa_cons (pv 9) pa_nil)))))))))
        (pss_one (ps_ret pe_bl))
        pss_nil)
      (pss_cons (ps_set (i := 10) sc_law.nd rfl (.inl rfl) (pe_callTy call_list_of (by rfl) T.m_list (by decide +kernel) (pa_cons (pv 9) pa_nil)))
      (pss_cons (ps_expr (pe_bm PySem.F.plainAttrs_list PySem.F.slot_list_append PySem.F.type_list_append mt_append (pv 9) (pa_cons (pe_tup (pa_cons pe_int (pa_cons pe_int pa_nil))) pa_nil)))
      (pss_cons (ps_if (PW.pt (pw_or (pt_cmpR (op_neD hr.units) (pe_call (ok_solved T X TB) (hr.mono (by decide)) (by rfl) T.solved.g T.solved.kp T.solved.b .nil (passes_call takes0 fun _ _ _ _ h => h) (pa_cons (pv 4) (pa_cons (pv 7) pa_nil))) (pv 10) (nomark _)) (pw_or1 (pt_cmpR (op_neD hr.units) (pe_call (ok_law_refused T X TB) (hr.mono (by decide)) (by rfl) T.law_refused.g T.law_refused.F.kp T.law_refused.b .nil pass0 (pa_cons (pe_op op_cat (pv 4) (pe_lst (pa_cons (pe_op op_rep (pe_lst (pa_cons pe_int pa_nil)) (pv 2)) pa_nil))) (pa_cons (pv 7) pa_nil))) (pe_tup (pa_cons pe_bl (pa_cons pe_int pa_nil))) (nomark _)))))
        (pss_one (ps_ret pe_bl))
        pss_nil)
      (pss_cons (ps_if (PW.pt (pw_or (pt_cmpR (op_neD hr.units) (pe_call (ok_law_refused T X TB) (hr.mono (by decide)) (by rfl) T.law_refused.g T.law_refused.F.kp T.law_refused.b .nil pass0 (pa_cons (pv 4) (pa_cons (pe_op op_cat (pv 7) (pe_lst (pa_cons (pe_tup (pa_cons pe_int (pa_cons pe_int pa_nil))) pa_nil))) pa_nil))) (pe_tup (pa_cons pe_bl (pa_cons pe_int pa_nil))) (nomark _)) (pw_or1 (PW.pt (pw_and (pt_cmpR op_gt (pv 2) pe_int (nomark _)) (pw_and1 (pt_cmpR (op_neD hr.units) (pe_call (ok_law_refused T X TB) (hr.mono (by decide)) (by rfl) T.law_refused.g T.law_refused.F.kp T.law_refused.b .nil pass0 (pa_cons (pv 4) (pa_cons (pe_slice sl_list (pv 7) (po_some pe_int) po_none) pa_nil))) (pe_tup (pa_cons pe_bl (pa_cons pe_int pa_nil))) (nomark _))))))))
        (pss_one (ps_ret pe_bl))
        pss_nil)
      (pss_cons (ps_if (pt_cmpR op_eq (pv 2) pe_int (nomark _))
        (pss_one (ps_ret (pe_cmpR (op_eqD hr.units) (pe_call (ok_solved T X TB) (hr.mono (by decide)) (by rfl) T.solved.g T.solved.kp T.solved.b .nil (passes_call takes0 fun _ _ _ _ h => h) (pa_cons (pe_lst pa_nil) (pa_cons (pe_lst pa_nil) pa_nil))) (pe_lst pa_nil) (nomark _))))
        pss_nil)
      (pss_cons (ps_set (i := 5) sc_law.nd rfl (.inl rfl) (pe_call (ok_law_mix T) (hr.mono (by decide)) (by rfl) T.law_mix.g T.law_mix.F.kp T.law_mix.b .nil pass0 (pa_cons (pv 1) (pa_cons pe_int (pa_cons (pv 2) pa_nil)))))
      (pss_cons (ps_for PassesOwn.never rfl (pi_list (pe_lst (pa_cons (pe_op op_cat (pe_ix ix_list (pv 4) (pv 5) (fun _ _ => rfl)) (pe_lst (pa_cons pe_int pa_nil))) (pa_cons (pe_slice sl_list (pe_ix ix_list (pv 4) (pv 5) (fun _ _ => rfl)) (po_some pe_int) po_none) pa_nil)))) (pg_name (i := 11) sc_law.nd rfl (.inl rfl))
        (pss_one (ps_if (pt_cmpR (op_neD hr.units) (pe_call (ok_law_refused T X TB) (hr.mono (by decide)) (by rfl) T.law_refused.g T.law_refused.F.kp T.law_refused.b .nil pass0 (pa_cons (pe_op op_cat (pe_op op_cat (pe_slice sl_list (pv 4) po_none (po_some (pv 5))) (pe_lst (pa_cons (pv 11) pa_nil))) (pe_slice sl_list (pv 4) (po_some (pe_op op_add (pv 5) pe_int)) po_none)) (pa_cons (pv 7) pa_nil))) (pe_tup (pa_cons pe_bl (pa_cons pe_int pa_nil))) (nomark _))
          (pss_one (ps_ret pe_bl))
          pss_nil)))
      (pss_one (ps_ret pe_bl)))))))))))))))))))), ?_⟩
    case via =>
      intro D σ H hh
      obtain ⟨d, R, ds, n, top, Tb, as, rfl, hd, dR, hn, nx, dt, go⟩ := hh
      have stay : ∀ x6, D.nx [some (.ref a), some (.ref d), some (.int (n : Nat)), some (.int top), some (.ref R), none, x6, none, none, none, none, none, none, none, none] H := fun x6 => go H Tb as x6 (fun _ _ _ h => h) nx dt
      refine ⟨_, rfl, _, _, rfl, rfl, _, rfl, ite2 (fun h => ?_) (fun h => stay _)⟩
      have n3 : 2 < n := by have := of_decide_eq_true h; omega
      refine ⟨.ref d, rfl, d, ds, 3, 2, rfl, hd, by decide, by decide, fun r hr0 hr1 => ⟨rfl, _, rfl, ite2 (fun _ => ?_) (fun _ => stay _)⟩⟩
      refine ⟨3, rfl, by decide, by decide, fun L nL => ?_⟩
      refine lc_inv (walk_range (lo := 0) (n := 3)) (fun i G ys => ∃ ps : List Nat, ys = ps.map (fun k => V.int (k : Nat)) ∧ ps.length = i ∧ ∀ k ∈ ps, k < n) nL (fun _ _ => trivial) (small' (by decide)) ⟨[], rfl, rfl, fun _ z => by cases z⟩ (fun i y G Hx ys hi sm hL hR yy Qt Qf qt qf => ?_) (fun G ys sm hL hR => ?_)
      · obtain ⟨rfl, rfl⟩ := yy
        obtain ⟨ps, rfl, lp, hp⟩ := hR
        refine ⟨rfl, .ref d, rfl, _, rfl, _, _, rfl, rfl, _, rfl, d, ds, _, _, rfl, hd.same sm, by omega, by omega, fun k hk0 hk1 => ?_⟩
        obtain ⟨m, rfl⟩ : ∃ m : Nat, k = (m : Nat) := ⟨k.toNat, by omega⟩
        refine qt _ _ (Same.refl _) ⟨ps ++ [m], by rw [List.map_append]; rfl, by rw [List.length_append, lp]; rfl, fun z hz => ?_⟩
        rcases List.mem_append.mp hz with z1 | z1
        · exact hp z z1
        · rw [List.mem_singleton.mp z1]; omega
      obtain ⟨ps, rfl, lp, hp⟩ := hR
      obtain ⟨p0, p1, p2, rfl⟩ : ∃ p0 p1 p2, ps = [p0, p1, p2] := by
        match ps, lp with
        | [p0, p1, p2], _ => exact ⟨p0, p1, p2, rfl⟩
      have h0 := hp p0 (by simp)
      have h1 := hp p1 (by simp)
      have h2 := hp p2 (by simp)
      have hL : G L = some (.lst [V.int (p0 : Nat), V.int (p1 : Nat), V.int (p2 : Nat)]) := hL
      have i0 : atI [V.int (p0 : Nat), V.int (p1 : Nat), V.int (p2 : Nat)] 0 = some (.int (p0 : Nat)) := rfl
      have i1 : atI [V.int (p0 : Nat), V.int (p1 : Nat), V.int (p2 : Nat)] 1 = some (.int (p1 : Nat)) := rfl
      have i2 : atI [V.int (p0 : Nat), V.int (p1 : Nat), V.int (p2 : Nat)] 2 = some (.int (p2 : Nat)) := rfl
      have nx1 := nx.same sm
      have LR : L ≠ R := fun z => by rw [z, nx.1] at nL; cases nL
      refine ⟨.ref L, rfl, L, _, _, _, rfl, rfl, .of hL, i0, .ref L, rfl, _, rfl, L, _, rfl, .of hL, fun u nu => ?_⟩
      have ec : cutV [V.int (p0 : Nat), V.int (p1 : Nat), V.int (p2 : Nat)] (some 1) none = [V.int (p1 : Nat), V.int (p2 : Nat)] := cut_from (L := 1) rfl (by show 1 ≤ 3; decide)
      rw [ec] at *
      have su := same_upd nu (o := .lst [V.int (p1 : Nat), V.int (p2 : Nat)])
      refine ⟨u, _, rfl, .inl (.of upd_same), rfl, rfl, _, rfl, ?_⟩
      have s02 := sm.trans su
      have nx2 := nx1.same su
      have hL2 := su _ _ hL
      generalize upd G u _ = G2 at su s02 nx2 hL2
      refine ite2 (fun _ => ?_) (fun _ => go G2 Tb as _ (sx s02) nx2 dt)
      have nR : ∀ b, G2 b = none → b ≠ R := fun b hb z => by rw [z, nx2.1] at hb; cases hb
      obtain ⟨x1, ex1⟩ : ∃ x, Tb[p1]? = some x := ⟨_, List.getElem?_eq_getElem (by rw [dt.len]; exact h1)⟩
      obtain ⟨x2, ex2⟩ : ∃ x, Tb[p2]? = some x := ⟨_, List.getElem?_eq_getElem (by rw [dt.len]; exact h2)⟩
      have w1 := dt.wid x1 (List.mem_of_getElem? ex1)
      have w2 := dt.wid x2 (List.mem_of_getElem? ex2)
      refine ⟨_, rfl, (n : Nat), rfl, by omega, by omega, fun F nF => ?_⟩
      rw [Int.toNat_natCast]
      refine lc_inv (walk_range (lo := 0) (n := n)) (fun i G ys => ∃ ns : List Int, ys = ns.map V.int ∧ ns.length = i ∧ ∀ v ∈ ns, v.natAbs ≤ 10 ^ 7) nF (fun _ _ => trivial) (small' (by omega)) ⟨[], rfl, rfl, fun _ z => by cases z⟩ (fun i y G3 Hx ys hi sm3 hF hR yy Qt Qf qt qf => ?_) (fun G3 ys sm3 hF hR => ?_)
      · obtain ⟨rfl, rfl⟩ := yy
        rw [show (fun m : Nat => V.int ((0 : Int) + (m : Int))) i = V.int ((i : Nat) : Int) from congrArg V.int (Int.zero_add _)]
        obtain ⟨ns, rfl, ln, hns⟩ := hR
        have nx3 := nx2.same sm3
        have hL3 := sm3 _ _ hL2
        obtain ⟨a1, ha1, _, _, hx1⟩ := nx3.row ex1
        obtain ⟨a2, ha2, _, _, hx2⟩ := nx3.row ex2
        refine ⟨rfl, .ref R, rfl, .ref L, rfl, L, _, _, _, rfl, rfl, .of hL3, i1, R, _, _, _, rfl, rfl, .of nx3.1, ha1, _, rfl, a1, _, _, _, rfl, rfl, hx1.sq, il_at (by omega), .ref R, rfl, .ref L, rfl, L, _, _, _, rfl, rfl, .of hL3, i2, R, _, _, _, rfl, rfl, .of nx3.1, ha2, _, rfl, a2, _, _, _, rfl, rfl, hx2.sq, il_at (by omega), _, _, rfl, rfl, ?_⟩
        refine qt _ _ (Same.refl _) ⟨ns ++ [DT.fn x1 i + DT.fn x2 i], app_ints, by rw [List.length_append, ln]; rfl, fun v hv => ?_⟩
        rcases List.mem_append.mp hv with z | z
        · exact hns v z
        · rw [List.mem_singleton.mp z]
          have b1 := lim_of (dt.num x1 (List.mem_of_getElem? ex1)) i
          have b2 := lim_of (dt.num x2 (List.mem_of_getElem? ex2)) i
          omega
      obtain ⟨ns, rfl, ln, hns⟩ := hR
      have nx3 := nx2.same sm3
      have hL3 := sm3 _ _ hL2
      have FR := nR F nF
      have las := nx3.2.len
      refine ⟨.ref R, rfl, .ref L, rfl, L, _, _, _, rfl, rfl, .of hL3, i0, R, _, _, _, rfl, rfl, nx3.1, ix_ok rfl (by rw [List.length_map, las, dt.len]; exact h0), ?_⟩
      have nx4 := nx3.put (k := p0) FR hF
      have hL4 : upd G3 R (.lst ((as.map V.ref).set p0 (.ref F))) L = _ := (upd_ne LR).trans hL3
      have s4 : SameX R H (upd G3 R (.lst ((as.map V.ref).set p0 (.ref F)))) := (sx (s02.trans sm3)).trans SameX.put
      generalize upd G3 R _ = G4 at nx4 hL4 s4
      have e0 : (Tb.set p0 ns)[p0]? = some ns := by rw [List.getElem?_set, if_pos rfl, if_pos (by rw [dt.len]; exact h0)]
      obtain ⟨a3, ha3, _, _, hx3⟩ := nx4.row e0
      refine ⟨.ref R, rfl, .ref L, rfl, L, _, _, _, rfl, rfl, .of hL4, i0, R, _, _, _, rfl, rfl, .of nx4.1, ha3, a3, rfl, ⟨_, hx3.sq⟩, fun E5 nE5 => ?_⟩
      refine lc_inv (walk_list (xs := ns.map V.int)) (fun i G ys => ∃ ms : List Int, ys = ms.map V.int ∧ ms.length = i ∧ ∀ v ∈ ms, v.natAbs ≤ 10 ^ 6) nE5 (fun G s => (hx3.same s).sq) (small' (by rw [List.length_map]; omega)) ⟨[], rfl, rfl, fun _ z => by cases z⟩ (fun i y G5 Hx ys hi sm5 hE5 hR yy Qt Qf qt qf => ?_) (fun G5 ys sm5 hE5 hR => ?_)
      · obtain ⟨rfl, hy⟩ := yy
        obtain ⟨v, ev, rfl⟩ := mapI_at hy
        obtain ⟨ms, rfl, lm, hms⟩ := hR
        refine ⟨rfl, _, rfl, _, rfl, _, _, rfl, _, _, rfl, ?_⟩
        have bc : ∀ m : Int, m = (if v < 1000000 then v else 1000000) → (if m > -1000000 then m else -1000000).natAbs ≤ 10 ^ 6 := fun m hm => by
          split <;> (split at hm <;> omega)
        refine qt _ _ (Same.refl _) ⟨ms ++ [_], app_ints, by rw [List.length_append, lm]; rfl, fun z hz => ?_⟩
        rcases List.mem_append.mp hz with z1 | z1
        · exact hms z z1
        · rw [List.mem_singleton.mp z1]
          exact bc _ rfl
      obtain ⟨ms, rfl, lm, hms⟩ := hR
      have nx5 := nx4.same sm5
      have hL5 := sm5 _ _ hL4
      have ER : E5 ≠ R := fun z => by rw [z, nx4.1] at nE5; cases nE5
      have las5 := nx5.2.len
      refine ⟨.ref R, rfl, .ref L, rfl, L, _, _, _, rfl, rfl, .of hL5, i0, R, _, _, _, rfl, rfl, nx5.1, ix_ok rfl (by rw [List.length_map, las5, List.length_set, dt.len]; exact h0), ?_⟩
      refine go _ ((Tb.set p0 ns).set p0 ms) _ _ ((s4.trans (sx sm5)).trans SameX.put) (nx5.put (k := p0) ER hE5) ⟨by rw [List.length_set, List.length_set, dt.len], fun x hx => ?_, fun x hx => ?_⟩
      · rw [List.set_set] at hx
        rcases List.mem_or_eq_of_mem_set hx with z | rfl
        · exact dt.wid x z
        · rw [lm, List.length_map, ln]
      · rw [List.set_set] at hx
        rcases List.mem_or_eq_of_mem_set hx with z | rfl
        · exact dt.num x z
        · exact hms
    refine ⟨.ref a, rfl, a, ns, rfl, ha, hl, fun H1 d ds s1 nd hd _ => ?_⟩
    refine ⟨.ref d, rfl, by show 2 ≤ sizeLine; decide, fun l1 nl1 => ?_⟩
    have s2 := same_upd nl1 (o := .lst [V.int 9, V.int 17])
    refine ⟨.ref d, rfl, d, ds, 1, 8, rfl, hd.same s2, by decide, by decide, fun r1 r10 r11 => ?_⟩
    refine ⟨rfl, .inr ⟨_, rfl, ?_⟩⟩
    obtain ⟨mm, hmm, emm⟩ : ∃ mm : Nat, mm ≤ 17 ∧ 0 < mm ∧ atI [V.int 9, V.int 17] (if decide (V.int r1 = V.int 5) = true then (1 : Int) else 0) = some (.int (mm : Nat)) := by
      split
      · exact ⟨17, by decide, by decide, rfl⟩
      · exact ⟨9, by decide, by decide, rfl⟩
    refine ⟨l1, _, _, _, rfl, rfl, .of upd_same, emm.2, d, ds, 0, _, rfl, hd.same s2, by decide, by omega, fun n0 n00 n01 => ?_⟩
    obtain ⟨n, rfl, hn⟩ : ∃ n : Nat, n0 = (n : Nat) ∧ n ≤ 16 := ⟨n0.toNat, by omega, by omega⟩
    have s02 := s1.trans s2
    have hd2 := hd.same s2
    have dfr : ∀ b, upd H1 l1 (.lst [V.int 9, V.int 17]) b = none → b ≠ d := fun b hb z => by rw [z, hd2] at hb; cases hb
    generalize upd H1 l1 _ = H2 at s2 s02 hd2 dfr
    refine ⟨by show 3 ≤ sizeLine; decide, fun l2 nl2 => ?_⟩
    have s3 := same_upd nl2 (o := .lst [V.int 2, V.int 9, V.int 1000000])
    refine ⟨.ref d, rfl, d, ds, 2, 3, rfl, hd2.same s3, by decide, by decide, fun r2 r20 r21 => ?_⟩
    obtain ⟨top, htop, btop⟩ := menu3 (x := 2) (y := 9) (z := 1000000) r20 r21
    have bt : 0 < top ∧ top ≤ 1000000 := by rcases btop with z | z | z <;> omega
    refine ⟨l2, _, _, _, rfl, rfl, .of upd_same, htop, ?_⟩
    have s03 := s02.trans s3
    have hd3 := hd2.same s3
    have dfr3 : ∀ b, upd H2 l2 (.lst [V.int 2, V.int 9, V.int 1000000]) b = none → b ≠ d := fun b hb z => by rw [z, hd3] at hb; cases hb
    generalize upd H2 l2 _ = H3 at s3 s03 hd3 dfr3
    clear dfr emm hmm btop htop
    refine ⟨_, rfl, (n : Nat), rfl, by omega, by omega, fun R nR => ?_⟩
    rw [Int.toNat_natCast]
    refine lc_inv (walk_range (lo := 0) (n := n)) (fun i G ys => ∃ (as : List Addr) (Tb : List (List Int)), ys = as.map V.ref ∧ A2 (fun a x => a ≠ R ∧ IL G a x) as Tb ∧ Tb.length = i ∧ ∀ x ∈ Tb, x.length = n ∧ ∀ v ∈ x, v.natAbs ≤ 10 ^ 6) nR (fun _ _ => trivial) (small' (by omega)) ⟨[], [], rfl, .nil, rfl, fun _ z => by cases z⟩ (fun i y G Hx ys hi sm hD hR yy Qt Qf qt qf => ?_) (fun G4 ys sm hD hR => ?_)
    · obtain ⟨rfl, rfl⟩ := yy
      obtain ⟨as, Tb, rfl, hA, lT, hb⟩ := hR
      refine ⟨rfl, _, rfl, (n : Nat), rfl, by omega, by omega, fun D2 nD2 => ?_⟩
      rw [Int.toNat_natCast]
      refine lc_inv (walk_range (lo := 0) (n := n)) (fun j G ys => ∃ ns : List Int, ys = ns.map V.int ∧ ns.length = j ∧ ∀ v ∈ ns, v.natAbs ≤ 10 ^ 6) nD2 (fun _ _ => trivial) (small' (by omega)) ⟨[], rfl, rfl, fun _ z => by cases z⟩ (fun j y G2 Hx2 ys2 hj sm2 hD2 hR2 yy2 Qt2 Qf2 qt2 qf2 => ?_) (fun G2 ys2 sm2 hD2 hR2 => ?_)
      · obtain ⟨rfl, rfl⟩ := yy2
        obtain ⟨ms, rfl, lm, hms⟩ := hR2
        refine ⟨rfl, .ref d, rfl, _, rfl, _, _, rfl, rfl, .inl ⟨by decide, by decide⟩, _, _, rfl, rfl, _, rfl, _, _, rfl, rfl, _, rfl, _, _, rfl, rfl, .inl ⟨by decide, by decide⟩, _, _, rfl, rfl, d, ds, _, _, rfl, (hd3.same sm).same sm2, by omega, by omega, fun x hx0 hx1 => ?_⟩
        refine ⟨_, rfl, _, _, rfl, rfl, ?_⟩
        refine qt2 _ _ (Same.refl _) ⟨ms ++ [x - top], app_ints, by rw [List.length_append, lm]; rfl, fun v hv => ?_⟩
        rcases List.mem_append.mp hv with z | z
        · exact hms v z
        · rw [List.mem_singleton.mp z]; omega
      · obtain ⟨ms, rfl, lm, hms⟩ := hR2
        have dD : D2 ≠ R := fun z => by rw [z, hD] at nD2; cases nD2
        refine qt _ _ sm2 ⟨as ++ [D2], Tb ++ [ms], by rw [List.map_append]; rfl, A2.snoc ⟨dD, (upd_ne dD).trans hD2⟩ (hA.mono fun b y z => ⟨z.1, (upd_ne z.1).trans (z.2.same sm2)⟩), by rw [List.length_append, lT]; rfl, fun x hx => ?_⟩
        rcases List.mem_append.mp hx with z | z
        · exact hb x z
        · rw [List.mem_singleton.mp z]; exact ⟨lm, hms⟩
    obtain ⟨as, Tb, rfl, hA, lT, hb⟩ := hR
    have hd4 := hd3.same sm
    refine ⟨d, R, ds, n, top, Tb, as, rfl, hd4, fun z => dfr3 R nR z.symm, hn, ⟨hD, hA⟩, ⟨lT, fun x hx => (hb x hx).1, fun x hx => (hb x hx).2⟩, fun H5 Tb as x6 s5 nx dt => ?_⟩
    have tg4 := (tg.same s03).same sm
    have tg5 : TGs [P1, P2] H5 := fun P hP => by
      obtain ⟨ps, e, t⟩ := tg4 P hP
      exact ⟨ps, s5 _ _ (fun z => by rw [z, hD] at e; cases e) e, t⟩
    have hd5 : IL H5 d ds := s5 _ _ (fun z => dfr3 R nR z.symm) hd4
    have nt5 := nx.nt
    clear s5 hA hD hb tg4 hd4 sm s03 s3 s02 s2 hd3 hd2 dfr3 nR nl2 nl1 t1 t2 tg ha hd
    refine ⟨_, rfl, (n : Nat), rfl, by omega, by omega, fun q nq => ?_⟩
    rw [Int.toNat_natCast]
    refine lc_inv (walk_range (lo := 0) (n := n)) (fun i G ys => ∃ (as : List Addr) (rs : List (Int × Int)), ys = as.map V.ref ∧ A2 (fun a x => a ≠ q ∧ PR G a x) as rs ∧ rs.length = i ∧ ∀ r ∈ rs, Rr r ∧ low r.1 r.2 = r) nq (fun _ _ => trivial) (small' (by omega)) ⟨[], [], rfl, .nil, rfl, fun _ z => by cases z⟩ (fun i y G Hx ys hi sm hD hR yy Qt Qf qt qf => ?_) (fun H6 ys sm hD hR => ?_)
    · obtain ⟨rfl, rfl⟩ := yy
      obtain ⟨bs, rs, rfl, hB, lr, hr2⟩ := hR
      refine ⟨rfl, .ref d, rfl, _, rfl, _, _, rfl, rfl, .inl ⟨by decide, by decide⟩, _, _, rfl, rfl, d, ds, _, rfl, hd5.same sm, by omega, fun H' o n' d' s' no b1 b2 b3 => ?_⟩
      have oq : o ≠ q := fun z => by rw [z, s' _ _ hD] at no; cases no
      have so := s'.trans (same_upd no (o := .tup [.int (low n' d').1, .int (low n' d').2]))
      have d0 : d' ≠ 0 := by omega
      have la := QF.low_abs (n := n') d0
      obtain ⟨g, g0, a1, a2, a3, a4⟩ := QF.low_is (n := n') d0
      refine qt _ _ so ⟨bs ++ [o], rs ++ [low n' d'], by rw [List.map_append]; rfl, A2.snoc ⟨oq, (upd_ne oq).trans upd_same⟩ (hB.mono fun b y z => ⟨z.1, (upd_ne z.1).trans (z.2.same so)⟩), by rw [List.length_append, lr]; rfl, fun r hr3 => ?_⟩
      rcases List.mem_append.mp hr3 with z | z
      · exact hr2 r z
      · rw [List.mem_singleton.mp z]
        exact ⟨⟨Nat.le_trans la.1 b1, a3, by omega⟩, QF.low_low d0⟩
    obtain ⟨bs, rs, rfl, hB, lr, hr2⟩ := hR
    have pl6 : PL H6 q rs := ⟨bs, hD, hB.mono fun _ _ z => z.2⟩
    have nt6 := nt5.same sm
    have tg6 := tg5.same sm
    have hd6 := hd5.same sm
    have rr : ∀ r ∈ rs, Rr r := fun r h => (hr2 r h).1
    have own : ∀ r ∈ rs, low r.1 r.2 = r := fun r h => (hr2 r h).2
    have fit : Fit Tb rs := ⟨by rw [lr, dt.len], fun x hx => by rw [dt.wid x hx, dt.len]⟩
    have dw : Drw Tb rs := ⟨by rw [dt.len]; exact hn, fun x hx => lim_of (dt.num x hx), rr⟩
    have gK := gd_k dt hn (by omega) rr
    have gK0 := PyData.hasDict_of_canLay _ gK.lay
    have kd : ∀ {G : Hp} {t : Addr}, Lk H6 G → SqT K G t [V.ref R, V.ref q] → Dp K G (.ref t) (dK Tb rs) := fun l h => .tup h (.cons (dp_nt (nt6.lk l)) (.cons (dp_pl (pl6.lk l)) .nil))
    clear hB hD hr2 nt5 tg5 hd5 sm nq nx
    refine ⟨_, rfl, _, rfl, by show 2 ≤ sizeLine; decide, fun u nu => ?_⟩
    have su := same_upd nu (o := .tup [V.ref R, V.ref q])
    refine ⟨u, _, rfl, kd (lk_of su) (.of upd_same), gK.sh, gK0, Nat.le_trans gK.dep (by decide), Nat.le_trans gK.len (by decide), ?_⟩
    generalize hkept : (dK Tb rs).shown = kept
    have lk7 := lk_of su
    have tg7 := tg6.same su
    have nt7 := nt6.same su
    have pl7 := pl6.same su
    generalize upd H6 u _ = H7 at lk7 tg7 su nt7 pl7
    refine ⟨.ref R, rfl, .ref q, rfl, R, q, Tb, rs, rfl, nt7, pl7, tg7, by have := dw.len; omega, fun f => absurd fit f, fun _ => ⟨dw, fun z H8 l8 t8 => ?_, fun nz H8 D sols Dn l8 t8 nw d0 dl ls sl rel plD => ?_⟩⟩
    · have lk8 := lk7.trans l8
      refine ⟨_, rfl, _, rfl, by show 2 ≤ sizeLine; decide, fun u2 nu2 => ?_⟩
      have su2 := same_upd nu2 (o := .tup [V.ref R, V.ref q])
      refine ⟨u2, _, rfl, kd (lk8.trans (lk_of su2)) (.of upd_same), gK.sh, gK0, Nat.le_trans gK.dep (by decide), Nat.le_trans gK.len (by decide), _, rfl, rfl, _, rfl, ?_⟩
      rw [hkept, decide_eq_true rfl]
      have lk9 := lk8.trans (lk_of su2)
      generalize upd H8 u2 _ = H9 at lk9
      refine iteF ⟨.ref R, rfl, R, Tb, 10 ^ 6, 16, rfl, nt6.lk lk9, fit.2, dw.len, by decide, dw.lim, by decide, by decide +kernel, fun H10 s10 => ⟨rfl, _, rfl, ?_⟩⟩
      rw [z, decide_eq_true rfl]
      have lk10 := lk9.trans (lk_of s10)
      refine iteT ⟨.ref R, rfl, R, Tb, 10 ^ 6, 16, rfl, nt6.lk lk10, fit.2, dw.len, by decide, dw.lim, by decide, by decide +kernel, fun H11 s11 => ⟨rfl, ?_⟩⟩
      rw [z, decide_eq_true rfl]
      refine ⟨_, rfl, iteT ⟨_, rfl, rfl, ?_⟩⟩
      rw [decide_eq_true rfl]
      exact fin _
    · have lk8 := lk7.trans l8
      have sol : Sol Tb rs sols Dn := ⟨fit, dw, ls, d0, dl, sl, rel, own⟩
      refine ⟨_, rfl, _, rfl, by show 2 ≤ sizeLine; decide, fun u2 nu2 => ?_⟩
      have su2 := same_upd nu2 (o := .tup [V.ref R, V.ref q])
      refine ⟨u2, _, rfl, kd (lk8.trans (lk_of su2)) (.of upd_same), gK.sh, gK0, Nat.le_trans gK.dep (by decide), Nat.le_trans gK.len (by decide), _, rfl, rfl, _, rfl, ?_⟩
      rw [hkept, decide_eq_true rfl]
      have lk9 := lk8.trans (lk_of su2)
      have plD9 := plD.same su2
      have t9 := t8.same su2
      generalize upd H8 u2 _ = H9 at lk9 plD9 t9
      refine iteF ⟨.ref R, rfl, R, Tb, 10 ^ 6, 16, rfl, nt6.lk lk9, fit.2, dw.len, by decide, dw.lim, by decide, by decide +kernel, fun H10 s10 => ⟨rfl, _, rfl, ?_⟩⟩
      rw [decide_eq_false (fun z => nz (V.int.inj z))]
      have lk10 := lk9.trans (lk_of s10)
      have plD10 := plD9.same s10
      refine iteF ⟨_, rfl, rfl, _, rfl, ?_⟩
      rw [decide_eq_false (fun z => nomatch z)]
      have ll : (lows sols Dn).length = n := by unfold lows; rw [List.length_map, ls, dt.len]
      refine iteF ⟨.ref D, rfl, _, rfl, D, lows sols Dn, by rw [ll]; rfl, plD10, by omega, fun l hl2 => ?_, true, rfl, ?_⟩
      · obtain ⟨v, hv, rfl⟩ := List.mem_map.mp hl2
        obtain ⟨g, g0, a1, a2, a3, a4⟩ := QF.low_is (n := v) d0
        have la := QF.low_abs (n := v) d0
        refine ⟨a3, QF.gc_low d0, ?_⟩
        refine Nat.lt_of_le_of_lt (Nat.mul_le_mul (Nat.le_trans la.1 (Nat.le_of_lt (sl v hv))) (Nat.le_trans la.2 dl)) ?_
        rw [← Nat.pow_add]
        exact Nat.pow_lt_pow_right (by decide) (by decide)
      refine iteF ⟨.ref R, rfl, .ref q, rfl, .ref D, rfl, R, q, D, Tb, rs, sols, Dn, rfl, nt6.lk lk10, pl6.lk lk10, plD10, sol, fun H11 s11 => ⟨true, rfl, iteF ?_⟩⟩
      have lk11 := lk10.trans (lk_of s11)
      obtain ⟨cs, hDc, hC⟩ := plD10.same s11
      have tg11 : TGs [P1, P2] H11 := (t9.same s10).same s11
      clear plD10 plD9 plD lk10 lk9 s10 s11 su2
      refine ⟨.ref D, rfl, D, _, rfl, .inl (.of hDc), fun C nC => ?_⟩
      have sC := same_upd nC (o := .lst (cs.map V.ref))
      have CD : C ≠ D := fun z => by rw [z, hDc] at nC; cases nC
      refine ⟨.ref D, rfl, .inl ⟨rfl, _, .of (sC _ _ hDc)⟩, by show 2 ≤ sizeLine; decide, fun u3 nu3 => ?_⟩
      have su3 := same_upd nu3 (o := .tup [V.int 1, V.int 1])
      have s13 := sC.trans su3
      have lcs : cs.length = n := hC.len.trans ll
      refine ⟨D, _, _, rfl, rfl, s13 _ _ hDc, by rw [List.length_map]; exact small' (by omega), ?_⟩
      have nw6 := nw.lk lk7
      have lk13 := nw6.put (lk11.trans (lk_of s13)) (o := .lst (cs.map V.ref ++ [V.ref u3]))
      have hC13 : PL (upd (upd (upd H11 C (.lst (cs.map V.ref))) u3 (.tup [V.int 1, V.int 1])) D (.lst (cs.map V.ref ++ [V.ref u3]))) C (lows sols Dn) := by
        refine ⟨cs, (upd_ne CD).trans (su3 _ _ upd_same), hC.mono fun b r z => ?_⟩
        have bD : b ≠ D := fun y => by rw [y] at z; exact absurd (hDc.symm.trans z) (by intro y; cases y)
        exact (upd_ne bD).trans (s13 _ _ z)
      have tg13 : TGs [P1, P2] (upd (upd (upd H11 C (.lst (cs.map V.ref))) u3 (.tup [V.int 1, V.int 1])) D (.lst (cs.map V.ref ++ [V.ref u3]))) := fun P hP => by
        obtain ⟨ps, e, t⟩ := tg11 P hP
        have e2 := s13 _ _ e
        exact ⟨ps, (upd_ne fun z => by rw [z, s13 _ _ hDc] at e2; cases e2).trans e2, t⟩
      generalize upd (upd (upd H11 C _) u3 _) D _ = H13 at lk13 hC13 tg13
      clear s13 su3 sC hC hDc nC nu3 tg11 lk11
      have nt13 := nt6.lk lk13
      have pl13 := pl6.lk lk13
      refine ⟨.ref R, rfl, .ref q, rfl, R, q, Tb, rs, rfl, nt13, pl13, tg13, by have := dw.len; omega, fun f => absurd fit f, fun _ => ⟨dw, fun z => absurd z nz, fun _ H14 D2 sols2 Dn2 l14 t14 _ d02 _ ls2 _ rel2 plD2 => ?_⟩⟩
      have same : lows sols2 Dn2 = lows sols Dn := lows_uniq fit nz ls2 ls d02 d0 rel2 rel
      refine ⟨_, rfl, dPL (lows sols2 Dn2), dPL (lows sols Dn), dp_pl plD2, dp_pl (hC13.lk l14), shaped_pl _, shaped_pl _, _, rfl, ?_⟩
      rw [same, eqv_pl]
      refine iteF ?_
      have lk14 := lk13.trans l14
      clear plD2 rel2 ls2 hC13 l14 lk13 tg13 nt13 pl13
      have small3 : ∀ {m : Nat}, m ≤ 100 → m ≤ sizeLine := fun h => Nat.le_trans h (by decide)
      have lTb := dt.len
      -- a row more
      have nt14 := nt6.lk lk14
      have pl14 := pl6.lk lk14
      obtain ⟨rsA, hRA, hAA⟩ := id nt14
      have lRA := hAA.len
      refine ⟨.ref R, rfl, by show 1 ≤ sizeLine; decide, fun e1 ne1 => ?_⟩
      have se1 := same_upd ne1 (o := .lst [V.int 1])
      refine ⟨_, rfl, e1, _, _, rfl, rfl, upd_same, by omega, by omega, by show 1 * _ ≤ _; rw [Int.toNat_natCast]; exact small3 (by omega), fun e2 ne2 => ?_⟩
      rw [Int.toNat_natCast, rep_one]
      have se2 := se1.trans (same_upd ne2 (o := .lst ((List.replicate n (1 : Int)).map V.int)))
      have he2 : IL (upd (upd H14 e1 (.lst [V.int 1])) e2 (.lst ((List.replicate n (1 : Int)).map V.int))) e2 (List.replicate n 1) := upd_same
      generalize upd (upd H14 e1 _) e2 _ = H15 at se2 he2
      refine ⟨by show 1 ≤ sizeLine; decide, fun e3 ne3 => ?_⟩
      have se3 := se2.trans (same_upd ne3 (o := .lst [V.ref e2]))
      have he3 := he2.same (same_upd ne3 (o := .lst [V.ref e2]))
      refine ⟨R, e3, _, _, rfl, rfl, se3 _ _ hRA, upd_same, by rw [List.length_map, lRA]; exact small3 (by show _ + 1 ≤ _; omega), fun e4 ne4 => ?_⟩
      have se4 := se3.trans (same_upd ne4 (o := .lst (rsA.map V.ref ++ [V.ref e2])))
      have nte4 : NT (upd (upd H15 e3 (.lst [V.ref e2])) e4 (.lst (rsA.map V.ref ++ [V.ref e2]))) e4 (Tb ++ [List.replicate n 1]) := ⟨rsA ++ [e2], by rw [upd_same, List.map_append]; rfl, A2.snoc (he3.same (same_upd ne4)) (hAA.mono fun _ _ z => z.same se4)⟩
      generalize upd (upd H15 e3 _) e4 _ = H16 at se4 nte4
      refine ⟨.ref q, rfl, e4, q, _, rs, rfl, nte4, pl14.same se4, t14.same se4, by rw [List.length_append]; show _ + 1 ≤ _; omega, fun f => ?_, fun H17 t17 l17 tg17 ht17 => ?_⟩
      · have := f.1
        rw [List.length_append] at this
        have : rs.length = Tb.length + 1 := this
        omega
      refine ⟨by show 2 ≤ sizeLine; decide, fun t18 nt18 => ?_⟩
      have s18 := same_upd nt18 (o := .tup [V.bl true, V.int 0])
      refine ⟨dR 0, dR 0, dR_dp (Same.seqT s18 ht17), dR_dp (.of upd_same), shaped_dR _, shaped_dR _, _, rfl, ?_⟩
      rw [eqv_dR]
      refine iteF ?_
      have lk18 := ((lk14.trans (lk_of se4)).trans l17).trans (lk_of s18)
      have tg18 := tg17.same s18
      generalize upd H17 t18 _ = H18 at lk18 tg18
      clear s18 ht17 tg17 l17 nte4 se4 ne4 he3 se3 ne3 he2 se2 ne2 se1 ne1 hAA hRA nt14 pl14 lk14 t14
      -- a side more
      have nt18 := nt6.lk lk18
      have pl18 := pl6.lk lk18
      obtain ⟨qsA, hQA, hBA⟩ := id pl18
      have lQA := hBA.len
      refine ⟨.ref R, rfl, .ref q, rfl, by show 2 ≤ sizeLine; decide, fun e1 ne1 => ⟨by show 1 ≤ sizeLine; decide, fun e2 ne2 => ?_⟩⟩
      have se1 := same_upd ne1 (o := .tup [V.int 1, V.int 2])
      have se2 := se1.trans (same_upd ne2 (o := .lst [V.ref e1]))
      have he1 := (same_upd ne2 (o := .lst [V.ref e1])) _ _ (upd_same (H := H18) (a := e1) (o := .tup [V.int 1, V.int 2]))
      refine ⟨q, e2, _, _, rfl, rfl, se2 _ _ hQA, upd_same, by rw [List.length_map, lQA]; exact small3 (by show _ + 1 ≤ _; omega), fun e3 ne3 => ?_⟩
      have se3 := se2.trans (same_upd ne3 (o := .lst (qsA.map V.ref ++ [V.ref e1])))
      have ple3 : PL (upd (upd (upd H18 e1 (.tup [V.int 1, V.int 2])) e2 (.lst [V.ref e1])) e3 (.lst (qsA.map V.ref ++ [V.ref e1]))) e3 (rs ++ [(1, 2)]) := ⟨qsA ++ [e1], by rw [upd_same, List.map_append]; rfl, A2.snoc (show PR _ e1 ((1 : Int), (2 : Int)) from (same_upd ne3) _ _ he1) (hBA.mono fun _ _ z => z.same se3)⟩
      generalize upd (upd (upd H18 e1 _) e2 _) e3 _ = H19 at se3 ple3
      refine ⟨R, e3, Tb, _, rfl, nt18.same se3, ple3, tg18.same se3, by omega, fun f => ?_, fun H20 t20 l20 tg20 ht20 => ?_⟩
      · have := f.1
        rw [List.length_append] at this
        have : rs.length + 1 = Tb.length := this
        omega
      refine ⟨by show 2 ≤ sizeLine; decide, fun t21 nt21 => ?_⟩
      have s21 := same_upd nt21 (o := .tup [V.bl true, V.int 0])
      refine ⟨dR 0, dR 0, dR_dp (Same.seqT s21 ht20), dR_dp (.of upd_same), shaped_dR _, shaped_dR _, _, rfl, ?_⟩
      rw [eqv_dR]
      refine iteF ?_
      have lk21 := ((lk18.trans (lk_of se3)).trans l20).trans (lk_of s21)
      have tg21 := tg20.same s21
      generalize upd H20 t21 _ = H21 at lk21 tg21
      clear s21 ht20 tg20 l20 ple3 se3 ne3 he1 se2 ne2 se1 ne1 hBA hQA nt18 pl18 lk18 tg18
      -- a side fewer
      have nt21 := nt6.lk lk21
      have pl21 := pl6.lk lk21
      obtain ⟨qsA, hQA, hBA⟩ := id pl21
      have lQA := hBA.len
      refine ⟨_, rfl, _, _, rfl, rfl, _, rfl, ite2 (fun h => ?_) (fun h => ?_)⟩
      · have np : 0 < n := by have := of_decide_eq_true h; omega
        refine ⟨.ref R, rfl, .ref q, rfl, _, rfl, q, _, rfl, .of hQA, fun e1 ne1 => ?_⟩
        have ec : cutV (qsA.map V.ref) (some 1) none = (qsA.drop 1).map V.ref := by rw [cut_from (z := 1) (L := 1) rfl (by rw [List.length_map]; omega), List.map_drop]
        rw [ec] at *
        have se1 := same_upd ne1 (o := .lst ((qsA.drop 1).map V.ref))
        have ple1 : PL (upd H21 e1 (.lst ((qsA.drop 1).map V.ref))) e1 (rs.drop 1) := ⟨_, upd_same, A2.drop 1 (hBA.mono fun _ _ z => z.same se1)⟩
        generalize upd H21 e1 _ = H22 at se1 ple1
        refine ⟨R, e1, Tb, _, rfl, nt21.same se1, ple1, tg21.same se1, by omega, fun f => ?_, fun H23 t23 l23 tg23 ht23 => ?_⟩
        · have := f.1
          rw [List.length_drop] at this
          omega
        refine ⟨by show 2 ≤ sizeLine; decide, fun t24 nt24 => ?_⟩
        have s24 := same_upd nt24 (o := .tup [V.bl true, V.int 0])
        refine ⟨dR 0, dR 0, dR_dp (Same.seqT s24 ht23), dR_dp (.of upd_same), shaped_dR _, shaped_dR _, _, rfl, ?_⟩
        rw [eqv_dR]
        refine iteF ?_
        have lk24 := ((lk21.trans (lk_of se1)).trans l23).trans (lk_of s24)
        have tg24 := tg23.same s24
        generalize upd H23 t24 _ = H24 at lk24 tg24
        clear s24 ht23 tg23 l23 ple1 se1 ne1 ec hBA hQA nt21 pl21 lk21 tg21
        refine ⟨_, rfl, rfl, _, rfl, ?_⟩
        rw [decide_eq_false (fun z => by have := V.int.inj z; omega)]
        have hd24 : IL H24 d ds := lk24.lst hd6
        refine iteF ⟨.ref d, rfl, _, rfl, d, ds, 5, _, rfl, hd24, by decide, by omega, fun k0 k00 k01 => ?_⟩
        obtain ⟨k, rfl⟩ : ∃ k : Nat, k0 = (k : Nat) := ⟨k0.toNat, by omega⟩
        have nt24' := nt6.lk lk24
        obtain ⟨rsA, hRA, hAA⟩ := id nt24'
        have lRA := hAA.len
        obtain ⟨x, ex⟩ : ∃ x, Tb[k]? = some x := ⟨_, List.getElem?_eq_getElem (by omega)⟩
        have lx := dt.wid x (List.mem_of_getElem? ex)
        obtain ⟨ka, eka, hka⟩ := hAA.get' ex
        have ika : atI (rsA.map V.ref) ((k : Nat) : Int) = some (.ref ka) := atI_nat (by rw [List.getElem?_map, eka]; rfl)
        refine ⟨.ref R, rfl, _, rfl, R, _, _, _, rfl, rfl, .of hRA, ika, by show 1 ≤ sizeLine; decide, fun e1 ne1 => ?_⟩
        have se1 := same_upd ne1 (o := .lst [V.int 0])
        refine ⟨ka, e1, _, _, rfl, rfl, se1 _ _ hka, upd_same, by rw [List.length_map, lx]; exact small3 (by show _ + 1 ≤ _; omega), fun e2 ne2 => ?_⟩
        have se2 := se1.trans (same_upd ne2 (o := .lst (x.map V.int ++ [V.int 0])))
        have he2 : IL (upd (upd H24 e1 (.lst [V.int 0])) e2 (.lst (x.map V.int ++ [V.int 0]))) e2 (x ++ [0]) := by
          show _ = _
          rw [upd_same, ← app_ints]
        generalize upd (upd H24 e1 _) e2 _ = H25 at se2 he2
        have hka2 : IL H25 ka x := se2 _ _ hka
        refine ⟨.ref R, rfl, _, rfl, R, _, _, _, rfl, rfl, .of (se2 _ _ hRA), ika, _, rfl, ka, _, rfl, hka2.sq, fun e3 ne3 => ?_⟩
        have ec : cutV (x.map V.int) (some 1) none = (x.drop 1).map V.int := by rw [cut_from (z := 1) (L := 1) rfl (by rw [List.length_map]; omega), List.map_drop]
        rw [ec]
        have se3 := se2.trans (same_upd ne3 (o := .lst ((x.drop 1).map V.int)))
        have he3 : IL (upd H25 e3 (.lst ((x.drop 1).map V.int))) e3 (x.drop 1) := upd_same
        have he2' := he2.same (same_upd ne3 (o := .lst ((x.drop 1).map V.int)))
        generalize upd H25 e3 _ = H26 at se3 he3 he2'
        refine ⟨by show 2 ≤ sizeLine; decide, fun e4 ne4 => ?_⟩
        have se4 := se3.trans (same_upd ne4 (o := .lst [V.ref e2, V.ref e3]))
        have he4 : upd H26 e4 (.lst [V.ref e2, V.ref e3]) e4 = some (.lst [V.ref e2, V.ref e3]) := upd_same
        have he3' := he3.same (same_upd ne4 (o := .lst [V.ref e2, V.ref e3]))
        have he2'' := he2'.same (same_upd ne4 (o := .lst [V.ref e2, V.ref e3]))
        generalize upd H26 e4 _ = H27 at se4 he4 he3' he2''
        have lk27 := lk24.trans (lk_of se4)
        have tg27 := tg24.same se4
        refine ⟨e4, rfl, ⟨_, .of he4⟩, ?_⟩
        clear se4 se3 se2 se1 ne4 ne3 ne2 ne1 he2 he3 he2' hka2 hka eka ika lRA hAA hRA nt24' hd24
        have two : ∀ {i : Nat} {y : V}, [V.ref e2, V.ref e3][i]? = some y → ∃ (e : Addr) (z : List Int), y = .ref e ∧ IL H27 e z ∧ z.length ≠ n := fun {i y} h => by
          match i, h with
          | 0, h => exact ⟨e2, x ++ [0], (Option.some.inj h).symm, he2'', by rw [List.length_append, lx]; show n + 1 ≠ n; omega⟩
          | 1, h => exact ⟨e3, x.drop 1, (Option.some.inj h).symm, he3', by rw [List.length_drop, lx]; omega⟩
        refine for_it (walk_list (xs := [V.ref e2, V.ref e3])) (fun i σ G => Lk H27 G ∧ TGs [P1, P2] G ∧ ∃ x11 : Option V, σ = [some (.ref a), some (.ref d), some (.int (n : Nat)), some (.int top), some (.ref R), some (.int (k : Nat)), x6, some (.ref q), some (.str kept), some (.ref D), some (.ref C), x11, none, none, none]) ⟨.refl, tg27, _, rfl⟩ (fun i σ G _ hP => .of (hP.1.lst he4)) (fun i y σ G G' hi hP yy => ?_) (fun σ G hP => fin _)
        obtain ⟨lkG, tgG, x11, rfl⟩ := hP
        obtain ⟨rfl, hy⟩ := yy
        obtain ⟨e, z, rfl, hz, lz⟩ := two hy
        have lkG6 := lk27.trans lkG
        have hzG : IL G' e z := lkG.lst hz
        have ntG := nt6.lk lkG6
        have plG := pl6.lk lkG6
        obtain ⟨rsA, hRA, hAA⟩ := id ntG
        have lRA := hAA.len
        have e1c : cutV (rsA.map V.ref) none (some ((k : Nat) : Int)) = (rsA.take k).map V.ref := by rw [cut_to (L := k) rfl (by rw [List.length_map]; omega), List.map_take]
        have e2c : cutV (rsA.map V.ref) (some (((k : Nat) : Int) + 1)) none = (rsA.drop (k + 1)).map V.ref := by rw [cut_from (L := k + 1) (by omega) (by rw [List.length_map]; omega), List.map_drop]
        refine ⟨.ref R, rfl, _, rfl, _, rfl, R, _, rfl, .of hRA, fun f1 nf1 => ?_⟩
        rw [e1c]
        have sf1 := same_upd nf1 (o := .lst ((rsA.take k).map V.ref))
        refine ⟨.ref e, rfl, by show 1 ≤ sizeLine; decide, fun f2 nf2 => ?_⟩
        have sf2 := same_upd nf2 (o := .lst [V.ref e])
        refine ⟨f1, f2, _, _, rfl, rfl, sf2 _ _ upd_same, upd_same, by rw [List.length_map, List.length_take]; exact small3 (by show _ + 1 ≤ _; omega), fun f3 nf3 => ?_⟩
        have sf3 := (sf1.trans sf2).trans (same_upd nf3 (o := .lst ((rsA.take k).map V.ref ++ [V.ref e])))
        have hf3 : upd (upd (upd G' f1 (.lst ((rsA.take k).map V.ref))) f2 (.lst [V.ref e])) f3 (.lst ((rsA.take k).map V.ref ++ [V.ref e])) f3 = some (.lst ((rsA.take k).map V.ref ++ [V.ref e])) := upd_same
        generalize upd (upd (upd G' f1 _) f2 _) f3 _ = G3 at sf3 hf3
        refine ⟨.ref R, rfl, _, rfl, _, _, rfl, rfl, _, rfl, R, _, rfl, .of (sf3 _ _ hRA), fun f4 nf4 => ?_⟩
        rw [e2c]
        have sf4 := same_upd nf4 (o := .lst ((rsA.drop (k + 1)).map V.ref))
        refine ⟨f3, f4, _, _, rfl, rfl, sf4 _ _ hf3, upd_same, by rw [List.length_append, List.length_map, List.length_map, List.length_take, List.length_drop]; exact small3 (by show _ + 1 + _ ≤ _; omega), fun f5 nf5 => ?_⟩
        have sf5 := (sf3.trans sf4).trans (same_upd nf5 (o := .lst ((rsA.take k).map V.ref ++ [V.ref e] ++ (rsA.drop (k + 1)).map V.ref)))
        have ntf : NT (upd (upd G3 f4 (.lst ((rsA.drop (k + 1)).map V.ref))) f5 (.lst ((rsA.take k).map V.ref ++ [V.ref e] ++ (rsA.drop (k + 1)).map V.ref))) f5 (Tb.take k ++ [z] ++ Tb.drop (k + 1)) :=
          ⟨rsA.take k ++ [e] ++ rsA.drop (k + 1), by rw [upd_same, List.map_append, List.map_append]; rfl, A2.app ((A2.drop (k + 1) hAA).mono fun _ _ w => w.same sf5) (A2.snoc (hzG.same sf5) ((A2.take k hAA).mono fun _ _ w => w.same sf5))⟩
        generalize upd (upd G3 f4 _) f5 _ = G5 at sf5 ntf
        refine ⟨.ref q, rfl, f5, q, _, rs, rfl, ntf, plG.same sf5, tgG.same sf5, by rw [List.length_append, List.length_append, List.length_take, List.length_drop]; show _ + 1 + _ ≤ _; omega, fun f => ?_, fun H28 t28 l28 tg28 ht28 => ?_⟩
        · have := f.2 z (List.mem_append_left _ (List.mem_append_right _ (List.mem_singleton.mpr rfl)))
          rw [← f.1] at this
          have := fit.1
          omega
        refine ⟨by show 2 ≤ sizeLine; decide, fun t29 nt29 => ?_⟩
        have s29 := same_upd nt29 (o := .tup [V.bl true, V.int 0])
        refine ⟨dR 0, dR 0, dR_dp (Same.seqT s29 ht28), dR_dp (.of upd_same), shaped_dR _, shaped_dR _, _, rfl, ?_⟩
        rw [eqv_dR]
        exact iteF ⟨((lkG.trans (lk_of sf5)).trans l28).trans (lk_of s29), tg28.same s29, _, rfl⟩
      · have n0 : n = 0 := by
          rcases Nat.eq_zero_or_pos n with z | z
          · exact z
          · exact absurd (decide_eq_true (by omega)) h
        subst n0
        refine iteF ⟨_, rfl, rfl, _, rfl, ?_⟩
        rw [decide_eq_true (show V.int ((0 : Nat) : Int) = V.int 0 from rfl)]
        refine iteT ⟨Nat.zero_le _, fun e1 ne1 => ⟨Nat.zero_le _, fun e2 ne2 => ?_⟩⟩
        have se1 := same_upd ne1 (o := .lst [])
        have se2 := se1.trans (same_upd ne2 (o := .lst []))
        have fit0 : Fit [] [] := ⟨rfl, fun _ z => by cases z⟩
        have dw0 : Drw [] [] := ⟨by decide, fun _ z => (by cases z), fun _ z => (by cases z)⟩
        refine ⟨e1, e2, [], [], rfl, ⟨[], (same_upd ne2) _ _ upd_same, .nil⟩, ⟨[], upd_same, .nil⟩, tg21.same se2, by decide, fun f => absurd fit0 f, fun _ => ⟨dw0, fun z => absurd z (by decide), fun _ H30 D3 sols3 Dn3 _ _ _ _ _ ls3 _ _ plD3 => ?_⟩⟩
        obtain rfl := List.length_eq_zero_iff.mp ls3
        refine ⟨Nat.zero_le _, fun e5 ne5 => ?_⟩
        refine ⟨dPL [], .list [], dp_pl (plD3.same (same_upd ne5)), .lst (.of upd_same) .nil, shaped_pl _, rfl, ?_⟩
        rw [show PyData.eqv (dPL []) (.list []) = true from eqv_pl []]
        exact fin _
end

section
/-- the facts of the text, from what stands behind the top -/
theorem all_mk {l : PySem.W.OpenLaw} {w : World} {K : PySem.W.Frag} {h : Heap} {mg : Str → Option Value} {fa : Addr} (X : K.In h) (G : h.Ns mainGlobals mg) (hfa : mg "law" = some (.ref fa))
    {f0 : Addr} {od0 an0 : Option Addr} {sl0 : Array (Option Value)} {oc0 kV0 dc0 pm0 cd0 ct0 : Value}
    {f1 : Addr} {od1 an1 : Option Addr} {sl1 : Array (Option Value)} {oc1 kV1 dc1 pm1 cd1 ct1 : Value}
    {f2 : Addr} {od2 an2 : Option Addr} {sl2 : Array (Option Value)} {oc2 kV2 dc2 pm2 cd2 ct2 : Value}
    {f3 : Addr} {od3 an3 : Option Addr} {sl3 : Array (Option Value)} {oc3 kV3 dc3 pm3 cd3 ct3 : Value}
    {f4 : Addr} {od4 an4 : Option Addr} {sl4 : Array (Option Value)} {oc4 kV4 dc4 pm4 cd4 ct4 : Value}
    {f5 : Addr} {od5 an5 : Option Addr} {sl5 : Array (Option Value)} {oc5 kV5 dc5 pm5 cd5 ct5 : Value}
    {f6 C6 P6 : Addr} {od6 an6 td6 : Option Addr} {sl6 tl6 : Array (Option Value)} {tv6 : Array Value} {oc6 kV6 dc6 pm6 ct6 te6 : Value}
    {f7 : Addr} {od7 an7 : Option Addr} {sl7 : Array (Option Value)} {oc7 kV7 dc7 pm7 cd7 ct7 : Value}
    {f8 : Addr} {od8 an8 : Option Addr} {sl8 : Array (Option Value)} {oc8 kV8 dc8 pm8 cd8 ct8 : Value}
    {f9 : Addr} {od9 an9 : Option Addr} {sl9 : Array (Option Value)} {oc9 kV9 dc9 pm9 cd9 ct9 : Value}
    {f10 : Addr} {od10 an10 : Option Addr} {sl10 : Array (Option Value)} {oc10 kV10 dc10 pm10 cd10 ct10 : Value}
    {f11 C11 P11 : Addr} {od11 an11 td11 : Option Addr} {sl11 tl11 : Array (Option Value)} {tv11 : Array Value} {oc11 kV11 dc11 pm11 ct11 te11 : Value}
    {f12 : Addr} {od12 an12 : Option Addr} {sl12 : Array (Option Value)} {oc12 kV12 dc12 pm12 cd12 ct12 : Value}
    {f13 : Addr} {od13 an13 : Option Addr} {sl13 : Array (Option Value)} {oc13 kV13 dc13 pm13 cd13 ct13 : Value}
    {f14 : Addr} {od14 an14 : Option Addr} {sl14 : Array (Option Value)} {oc14 kV14 dc14 pm14 cd14 ct14 : Value}
    {f15 : Addr} {od15 an15 : Option Addr} {sl15 : Array (Option Value)} {oc15 kV15 dc15 pm15 cd15 ct15 : Value}
    {f16 : Addr} {od16 an16 : Option Addr} {sl16 : Array (Option Value)} {oc16 kV16 dc16 pm16 cd16 ct16 : Value}
    {f17 : Addr} {od17 an17 : Option Addr} {sl17 : Array (Option Value)} {oc17 kV17 dc17 pm17 cd17 ct17 : Value}
    {f18 : Addr} {od18 an18 : Option Addr} {sl18 : Array (Option Value)} {oc18 kV18 dc18 pm18 cd18 ct18 : Value}
    {f19 : Addr} {od19 an19 : Option Addr} {sl19 : Array (Option Value)} {oc19 kV19 dc19 pm19 cd19 ct19 : Value}
    {f20 : Addr} {od20 an20 : Option Addr} {sl20 : Array (Option Value)} {oc20 kV20 dc20 pm20 cd20 ct20 : Value}
    {f21 : Addr} {od21 an21 : Option Addr} {sl21 : Array (Option Value)} {oc21 kV21 dc21 pm21 cd21 ct21 : Value}
    {f22 : Addr} {od22 an22 : Option Addr} {sl22 : Array (Option Value)} {oc22 kV22 dc22 pm22 cd22 ct22 : Value}
    {f23 : Addr} {od23 an23 : Option Addr} {sl23 : Array (Option Value)} {oc23 kV23 dc23 pm23 cd23 ct23 : Value}
    {f24 : Addr} {od24 an24 : Option Addr} {sl24 : Array (Option Value)} {oc24 kV24 dc24 pm24 cd24 ct24 : Value}
    {CM fI : Addr} {odI anI : Option Addr} {slI : Array (Option Value)} {ocI kVI dcI pmI cdI ctI : Value}
    {e0_C e0_N : Addr} {e0_nm e0_q e0_nk : Str} {e0_tk : Tok} {e0_bs : List Value} {e0_sn : List Str} {e0_sub : List Value} {e0_ab : Bool} {e0_col : Option Bool} {e0_dd : Option Addr} {e0_m0 e0_m1 e0_m3 e0_m5 : Option Value}
    (a0 : PySem.W.nsIn K mainGlobals "_first_row" = some (some (.ref f0))) (l0 : K.lookup f0 = some ⟨oc0, od0, .func (PySem.W.fnOf "_first_row" "_first_row" (defArgs s_first_row) (defBody s_first_row) (defScope s_first_row) .none kV0 dc0 pm0 an0 cd0 ct0), sl0⟩) (c0 : PySem.W.codeIn K cd0 "_first_row" = true) (k0 : PySem.W.keepIn K (.ref f0) = true)
    (a1 : PySem.W.nsIn K mainGlobals "_lowered" = some (some (.ref f1))) (l1 : K.lookup f1 = some ⟨oc1, od1, .func (PySem.W.fnOf "_lowered" "_lowered" (defArgs s_lowered) (defBody s_lowered) (defScope s_lowered) .none kV1 dc1 pm1 an1 cd1 ct1), sl1⟩) (c1 : PySem.W.codeIn K cd1 "_lowered" = true) (k1 : PySem.W.keepIn K (.ref f1) = true)
    (a2 : PySem.W.nsIn K mainGlobals "triangle" = some (some (.ref f2))) (l2 : K.lookup f2 = some ⟨oc2, od2, .func (PySem.W.fnOf "triangle" "triangle" (defArgs s_triangle) (defBody s_triangle) (defScope s_triangle) .none kV2 dc2 pm2 an2 cd2 ct2), sl2⟩) (c2 : PySem.W.codeIn K cd2 "triangle" = true) (k2 : PySem.W.keepIn K (.ref f2) = true)
    (a3 : PySem.W.nsIn K mainGlobals "solved_sides" = some (some (.ref f3))) (l3 : K.lookup f3 = some ⟨oc3, od3, .func (PySem.W.fnOf "solved_sides" "solved_sides" (defArgs s_solved_sides) (defBody s_solved_sides) (defScope s_solved_sides) .none kV3 dc3 pm3 an3 cd3 ct3), sl3⟩) (c3 : PySem.W.codeIn K cd3 "solved_sides" = true) (k3 : PySem.W.keepIn K (.ref f3) = true)
    (a4 : PySem.W.nsIn K mainGlobals "solved_whole" = some (some (.ref f4))) (l4 : K.lookup f4 = some ⟨oc4, od4, .func (PySem.W.fnOf "solved_whole" "solved_whole" (defArgs s_solved_whole) (defBody s_solved_whole) (defScope s_solved_whole) .none kV4 dc4 pm4 an4 cd4 ct4), sl4⟩) (c4 : PySem.W.codeIn K cd4 "solved_whole" = true) (k4 : PySem.W.keepIn K (.ref f4) = true)
    (a5 : PySem.W.nsIn K mainGlobals "_wording" = some (some (.ref f5))) (l5 : K.lookup f5 = some ⟨oc5, od5, .func (PySem.W.fnOf "_wording" "_wording" (defArgs s_wording) (defBody s_wording) (defScope s_wording) .none kV5 dc5 pm5 an5 cd5 ct5), sl5⟩) (c5 : PySem.W.codeIn K cd5 "_wording" = true) (k5 : PySem.W.keepIn K (.ref f5) = true)
    (a6 : PySem.W.nsIn K mainGlobals "_is_square" = some (some (.ref f6))) (l6 : K.lookup f6 = some ⟨oc6, od6, .func (PySem.W.fnOf "_is_square" "_is_square" (defArgs s_is_square) (defBody s_is_square) (defScope s_is_square) .none kV6 dc6 pm6 an6 (.ref C6) ct6), sl6⟩) (c6 : PySem.W.codeIn K (.ref C6) "_is_square" = true) (k6 : PySem.W.keepIn K (.ref f6) = true)
    (t6 : K.lookup C6 = some ⟨te6, td6, .fields tv6, tl6⟩) (p6 : tv6[11]? = some (.ref P6)) (n6 : K.lookup P6 = none)
    (a7 : PySem.W.nsIn K mainGlobals "determinant" = some (some (.ref f7))) (l7 : K.lookup f7 = some ⟨oc7, od7, .func (PySem.W.fnOf "determinant" "determinant" (defArgs s_determinant) (defBody s_determinant) (defScope s_determinant) .none kV7 dc7 pm7 an7 cd7 ct7), sl7⟩) (c7 : PySem.W.codeIn K cd7 "determinant" = true) (k7 : PySem.W.keepIn K (.ref f7) = true)
    (a8 : PySem.W.nsIn K mainGlobals "_lowest" = some (some (.ref f8))) (l8 : K.lookup f8 = some ⟨oc8, od8, .func (PySem.W.fnOf "_lowest" "_lowest" (defArgs s_lowest) (defBody s_lowest) (defScope s_lowest) .none kV8 dc8 pm8 an8 cd8 ct8), sl8⟩) (c8 : PySem.W.codeIn K cd8 "_lowest" = true) (k8 : PySem.W.keepIn K (.ref f8) = true)
    (a9 : PySem.W.nsIn K mainGlobals "common_below" = some (some (.ref f9))) (l9 : K.lookup f9 = some ⟨oc9, od9, .func (PySem.W.fnOf "common_below" "common_below" (defArgs s_common_below) (defBody s_common_below) (defScope s_common_below) .none kV9 dc9 pm9 an9 cd9 ct9), sl9⟩) (c9 : PySem.W.codeIn K cd9 "common_below" = true) (k9 : PySem.W.keepIn K (.ref f9) = true)
    (a10 : PySem.W.nsIn K mainGlobals "whole" = some (some (.ref f10))) (l10 : K.lookup f10 = some ⟨oc10, od10, .func (PySem.W.fnOf "whole" "whole" (defArgs s_whole) (defBody s_whole) (defScope s_whole) .none kV10 dc10 pm10 an10 cd10 ct10), sl10⟩) (c10 : PySem.W.codeIn K cd10 "whole" = true) (k10 : PySem.W.keepIn K (.ref f10) = true)
    (a11 : PySem.W.nsIn K mainGlobals "solved" = some (some (.ref f11))) (l11 : K.lookup f11 = some ⟨oc11, od11, .func (PySem.W.fnOf "solved" "solved" (defArgs s_solved) (defBody s_solved) (defScope s_solved) .none kV11 dc11 pm11 an11 (.ref C11) ct11), sl11⟩) (c11 : PySem.W.codeIn K (.ref C11) "solved" = true) (k11 : PySem.W.keepIn K (.ref f11) = true)
    (t11 : K.lookup C11 = some ⟨te11, td11, .fields tv11, tl11⟩) (p11 : tv11[11]? = some (.ref P11)) (n11 : K.lookup P11 = none)
    (a12 : PySem.W.nsIn K mainGlobals "_law_draws" = some (some (.ref f12))) (l12 : K.lookup f12 = some ⟨oc12, od12, .func (PySem.W.fnOf "_law_draws" "_law_draws" (defArgs s_law_draws) (defBody s_law_draws) (defScope s_law_draws) .none kV12 dc12 pm12 an12 cd12 ct12), sl12⟩) (c12 : PySem.W.codeIn K cd12 "_law_draws" = true) (k12 : PySem.W.keepIn K (.ref f12) = true)
    (a13 : PySem.W.nsIn K mainGlobals "_law_mix" = some (some (.ref f13))) (l13 : K.lookup f13 = some ⟨oc13, od13, .func (PySem.W.fnOf "_law_mix" "_law_mix" (defArgs s_law_mix) (defBody s_law_mix) (defScope s_law_mix) .none kV13 dc13 pm13 an13 cd13 ct13), sl13⟩) (c13 : PySem.W.codeIn K cd13 "_law_mix" = true) (k13 : PySem.W.keepIn K (.ref f13) = true)
    (a14 : PySem.W.nsIn K mainGlobals "_law_determinant" = some (some (.ref f14))) (l14 : K.lookup f14 = some ⟨oc14, od14, .func (PySem.W.fnOf "_law_determinant" "_law_determinant" (defArgs s_law_determinant) (defBody s_law_determinant) (defScope s_law_determinant) .none kV14 dc14 pm14 an14 cd14 ct14), sl14⟩) (c14 : PySem.W.codeIn K cd14 "_law_determinant" = true) (k14 : PySem.W.keepIn K (.ref f14) = true)
    (a15 : PySem.W.nsIn K mainGlobals "_law_common" = some (some (.ref f15))) (l15 : K.lookup f15 = some ⟨oc15, od15, .func (PySem.W.fnOf "_law_common" "_law_common" (defArgs s_law_common) (defBody s_law_common) (defScope s_law_common) .none kV15 dc15 pm15 an15 cd15 ct15), sl15⟩) (c15 : PySem.W.codeIn K cd15 "_law_common" = true) (k15 : PySem.W.keepIn K (.ref f15) = true)
    (a16 : PySem.W.nsIn K mainGlobals "_law_ratio" = some (some (.ref f16))) (l16 : K.lookup f16 = some ⟨oc16, od16, .func (PySem.W.fnOf "_law_ratio" "_law_ratio" (defArgs s_law_ratio) (defBody s_law_ratio) (defScope s_law_ratio) .none kV16 dc16 pm16 an16 cd16 ct16), sl16⟩) (c16 : PySem.W.codeIn K cd16 "_law_ratio" = true) (k16 : PySem.W.keepIn K (.ref f16) = true)
    (a17 : PySem.W.nsIn K mainGlobals "_law_add" = some (some (.ref f17))) (l17 : K.lookup f17 = some ⟨oc17, od17, .func (PySem.W.fnOf "_law_add" "_law_add" (defArgs s_law_add) (defBody s_law_add) (defScope s_law_add) .none kV17 dc17 pm17 an17 cd17 ct17), sl17⟩) (c17 : PySem.W.codeIn K cd17 "_law_add" = true) (k17 : PySem.W.keepIn K (.ref f17) = true)
    (a18 : PySem.W.nsIn K mainGlobals "_law_multiply" = some (some (.ref f18))) (l18 : K.lookup f18 = some ⟨oc18, od18, .func (PySem.W.fnOf "_law_multiply" "_law_multiply" (defArgs s_law_multiply) (defBody s_law_multiply) (defScope s_law_multiply) .none kV18 dc18 pm18 an18 cd18 ct18), sl18⟩) (c18 : PySem.W.codeIn K cd18 "_law_multiply" = true) (k18 : PySem.W.keepIn K (.ref f18) = true)
    (a19 : PySem.W.nsIn K mainGlobals "_law_drawn_ratio" = some (some (.ref f19))) (l19 : K.lookup f19 = some ⟨oc19, od19, .func (PySem.W.fnOf "_law_drawn_ratio" "_law_drawn_ratio" (defArgs s_law_drawn_ratio) (defBody s_law_drawn_ratio) (defScope s_law_drawn_ratio) .none kV19 dc19 pm19 an19 cd19 ct19), sl19⟩) (c19 : PySem.W.codeIn K cd19 "_law_drawn_ratio" = true) (k19 : PySem.W.keepIn K (.ref f19) = true)
    (a20 : PySem.W.nsIn K mainGlobals "_law_is_integer" = some (some (.ref f20))) (l20 : K.lookup f20 = some ⟨oc20, od20, .func (PySem.W.fnOf "_law_is_integer" "_law_is_integer" (defArgs s_law_is_integer) (defBody s_law_is_integer) (defScope s_law_is_integer) .none kV20 dc20 pm20 an20 cd20 ct20), sl20⟩) (c20 : PySem.W.codeIn K cd20 "_law_is_integer" = true) (k20 : PySem.W.keepIn K (.ref f20) = true)
    (a21 : PySem.W.nsIn K mainGlobals "_law_refused" = some (some (.ref f21))) (l21 : K.lookup f21 = some ⟨oc21, od21, .func (PySem.W.fnOf "_law_refused" "_law_refused" (defArgs s_law_refused) (defBody s_law_refused) (defScope s_law_refused) .none kV21 dc21 pm21 an21 cd21 ct21), sl21⟩) (c21 : PySem.W.codeIn K cd21 "_law_refused" = true) (k21 : PySem.W.keepIn K (.ref f21) = true)
    (a22 : PySem.W.nsIn K mainGlobals "_law_keeps" = some (some (.ref f22))) (l22 : K.lookup f22 = some ⟨oc22, od22, .func (PySem.W.fnOf "_law_keeps" "_law_keeps" (defArgs s_law_keeps) (defBody s_law_keeps) (defScope s_law_keeps) .none kV22 dc22 pm22 an22 cd22 ct22), sl22⟩) (c22 : PySem.W.codeIn K cd22 "_law_keeps" = true) (k22 : PySem.W.keepIn K (.ref f22) = true)
    (a23 : PySem.W.nsIn K mainGlobals "_law_are_ratios" = some (some (.ref f23))) (l23 : K.lookup f23 = some ⟨oc23, od23, .func (PySem.W.fnOf "_law_are_ratios" "_law_are_ratios" (defArgs s_law_are_ratios) (defBody s_law_are_ratios) (defScope s_law_are_ratios) .none kV23 dc23 pm23 an23 cd23 ct23), sl23⟩) (c23 : PySem.W.codeIn K cd23 "_law_are_ratios" = true) (k23 : PySem.W.keepIn K (.ref f23) = true)
    (a24 : PySem.W.nsIn K mainGlobals "law" = some (some (.ref f24))) (l24 : K.lookup f24 = some ⟨oc24, od24, .func (PySem.W.fnOf "law" "law" (defArgs s_law) (defBody s_law) (defScope s_law) .none kV24 dc24 pm24 an24 cd24 ct24), sl24⟩) (c24 : PySem.W.codeIn K cd24 "law" = true) (k24 : PySem.W.keepIn K (.ref f24) = true)
    (z_abs : PySem.W.nsIn K mainGlobals "abs" = some none)
    (z_all : PySem.W.nsIn K mainGlobals "all" = some none)
    (z_bool : PySem.W.nsIn K mainGlobals "bool" = some none)
    (z_int : PySem.W.nsIn K mainGlobals "int" = some none)
    (z_isinstance : PySem.W.nsIn K mainGlobals "isinstance" = some none)
    (z_len : PySem.W.nsIn K mainGlobals "len" = some none)
    (z_list : PySem.W.nsIn K mainGlobals "list" = some none)
    (z_max : PySem.W.nsIn K mainGlobals "max" = some none)
    (z_min : PySem.W.nsIn K mainGlobals "min" = some none)
    (z_range : PySem.W.nsIn K mainGlobals "range" = some none)
    (z_repr : PySem.W.nsIn K mainGlobals "repr" = some none)
    (z_reversed : PySem.W.nsIn K mainGlobals "reversed" = some none)
    (z_tuple : PySem.W.nsIn K mainGlobals "tuple" = some none)
    (z_zip : PySem.W.nsIn K mainGlobals "zip" = some none)
    (y_gcd : PySem.W.nsIn K mainGlobals "gcd" = some (some (.builtin "math.gcd")))
    (y_lcm : PySem.W.nsIn K mainGlobals "lcm" = some (some (.builtin "math.lcm")))
    (aM : PySem.W.nsIn K mainGlobals "ModelError" = some (some (.ref CM)))
    (zV : PySem.W.nsIn K mainGlobals "ValueError" = some none)
    (vV : PySem.W.findCls K (.type "ValueError") (.type "type") "__init__" = some (.val (.builtin "ValueError.__init__")))
    (iM : PySem.W.isClsIn K CM = true)
    (tM : PySem.W.typeIn K (.ref CM) = some (.type "type"))
    (bM : PySem.W.subIn K (.ref CM) (.type "BaseException") = some true)
    (iI : PySem.W.findIn K (.ref CM) "__init__" = some (some (.ref fI)))
    (lI : K.lookup fI = some ⟨ocI, odI, .func (PySem.W.fnOf "__init__" "ModelError.__init__" (defArgs s_init) (defBody s_init) (defScope s_init) .none kVI dcI pmI anI cdI ctI), slI⟩)
    (cI : PySem.W.codeIn K cdI "ModelError.__init__" = true)
    (kI : PySem.W.keepIn K (.ref fI) = true)
    (tI : PySem.W.typeIn K (.ref fI) = some (.type "function"))
    (xsp : PySem.W.specialIn K (.builtin "object.__class__") "__get__" = some (some (.builtin "getset_descriptor.__get__")))
    (xtk : PySem.W.takesIn K (.builtin "object.__class__") = some true)
    (e0_a : PySem.W.nsIn K mainGlobals "WrongSize" = some (some (.ref e0_C)))
    (e0_x : K.lookup e0_C = some (excClassObj e0_nm e0_q e0_C e0_N e0_bs [.ref CM, .type "ValueError", .type "Exception", .type "BaseException", .type "object"] true e0_sn e0_sub e0_ab e0_col e0_dd e0_m0 e0_m1 (some (.str e0_nk e0_tk)) e0_m3 e0_m5 "ValueError.__new__"))
    (e0_sz : e0_nk.length ≤ 1000)
    (e0_sa : PySem.W.findIn K (.ref e0_C) "__setattr__" = some (some (.builtin "object.__setattr__")))
    (e0_ga : PySem.W.findIn K (.ref e0_C) "__getattribute__" = some (some (.builtin "BaseException.__getattribute__")))
    (e0_gg : PySem.W.findIn K (.ref e0_C) "__getattr__" = some none)
    (e0_no : PySem.W.findIn K (.ref e0_C) "at" = some none)
    (e0_in : PySem.W.findIn K (.ref e0_C) "__init__" = some (some (.ref fI)))
    (e0_be : PySem.W.subIn K (.ref e0_C) (.type "BaseException") = some true)
    (e0_ty : PySem.W.typeIn K (.ref e0_C) = some (.type "type"))
    (e0_ke : PySem.W.keepIn K (.ref e0_C) = true)
    (e0_hd : PySem.W.hasDictIn K e0_C = true)
    (e0_cl : PySem.W.isClsIn K e0_C = true)
    (e0_at : PySem.W.findIn K (.ref e0_C) "__class__" = some (some (.builtin "object.__class__")))
    (e0_mr : PySem.W.mroIn K e0_C (.type "object") = some true)
    (e0_rd : PySem.W.readsIn K e0_C (.type "type") = true)
    (e0_fc : PySem.W.findCls K (.ref e0_C) (.type "type") "__name__" = some (.get (.builtin "getset_descriptor.__get__") (.builtin "type.__name__") (.ref e0_C) (.type "type")))
    (e0_sM : PySem.W.subIn K (.ref e0_C) (.ref CM) = some true)
    (bare : ∀ nm ∈ (["_is_square", "solved"] : List Str), LG.Bare mg h nm)
    : ∃ (fd : FuncData) (cs : List (Addr × Addr)) (sp : Sp), (∀ p ∈ cs, h.get? p.2 = some { cls := .none, data := .fields #[] }) ∧ (∀ p ∈ cs, K.lookup p.2 = none) ∧ (∀ p ∈ cs, PySem.W.CodeHd h p.1 p.2) ∧ (∀ (s : Shared) (u : Value), BindsTo s fd ⟨[u], []⟩ [("script", u)]) ∧
        (∀ (H : Hp) (a : Addr) (ns : List Int), ns.length ≤ 63 → (∀ p ∈ cs, H p.2 = some (.tbl #[])) → SqL K H a (ns.map V.int) → sp [.ref a] H (fun v _ => v = .bl true) fun _ _ _ => False) ∧
        ∀ base : Heap, K.In base → base.Ns mainGlobals mg → (∀ p ∈ cs, GxR.TabB base mg p.1 p.2) → LG.FnG l.prog w K mg base CX0 7 fa fd ["script"] sp := by
  have b6 : h.get? P6 = some { cls := .none, data := .fields #[] } ∧ PySem.W.CodeHd h C6 P6 := by
    obtain ⟨b, c, Q, o, fd, m1, m2, m3, m4, m5, m6⟩ := bare "_is_square" (by simp)
    cases m1.symm.trans (PySem.W.mg_of X G a6)
    cases m2.symm.trans (X _ _ l6)
    cases m3
    cases m4
    have m5c := m5
    obtain ⟨o2, vs, _, _, _, _, _, _, _, e1, _, e3, e4, _⟩ := m5c
    cases e1.symm.trans (X _ _ t6)
    cases e3
    cases e4.symm.trans p6
    exact ⟨m6, m5⟩
  have b11 : h.get? P11 = some { cls := .none, data := .fields #[] } ∧ PySem.W.CodeHd h C11 P11 := by
    obtain ⟨b, c, Q, o, fd, m1, m2, m3, m4, m5, m6⟩ := bare "solved" (by simp)
    cases m1.symm.trans (PySem.W.mg_of X G a11)
    cases m2.symm.trans (X _ _ l11)
    cases m3
    cases m4
    have m5c := m5
    obtain ⟨o2, vs, _, _, _, _, _, _, _, e1, _, e3, e4, _⟩ := m5c
    cases e1.symm.trans (X _ _ t11)
    cases e3
    cases e4.symm.trans p11
    exact ⟨m6, m5⟩
  have e := hfa.symm.trans (PySem.W.mg_of X G a24)
  cases e
  let T : Txt K mg := {
    first_row := ⟨_, _, fun_mk (st := s_first_row) l0 c0 k0, (fun_mk (st := s_first_row) l0 c0 k0).binds (ps := ["rows", "start", "column"]) (fun _ _ _ _ _ _ us hl => match us, hl with | [_, _, _], _ => rfl), PySem.W.mg_of X G a0⟩
    lowered := ⟨_, _, fun_mk (st := s_lowered) l1 c1 k1, (fun_mk (st := s_lowered) l1 c1 k1).binds (ps := ["row", "pivot", "column", "last"]) (fun _ _ _ _ _ _ us hl => match us, hl with | [_, _, _, _], _ => rfl), PySem.W.mg_of X G a1⟩
    triangle := ⟨_, _, fun_mk (st := s_triangle) l2 c2 k2, (fun_mk (st := s_triangle) l2 c2 k2).binds (ps := ["numbers", "width"]) (fun _ _ _ _ _ _ us hl => match us, hl with | [_, _], _ => rfl), PySem.W.mg_of X G a2⟩
    solved_sides := ⟨_, _, fun_mk (st := s_solved_sides) l3 c3 k3, (fun_mk (st := s_solved_sides) l3 c3 k3).binds (ps := ["numbers", "sides"]) (fun _ _ _ _ _ _ us hl => match us, hl with | [_, _], _ => rfl), PySem.W.mg_of X G a3⟩
    solved_whole := ⟨_, _, fun_mk (st := s_solved_whole) l4 c4 k4, (fun_mk (st := s_solved_whole) l4 c4 k4).binds (ps := ["numbers", "right"]) (fun _ _ _ _ _ _ us hl => match us, hl with | [_, _], _ => rfl), PySem.W.mg_of X G a4⟩
    wording := ⟨_, _, fun_mk (st := s_wording) l5 c5 k5, (fun_mk (st := s_wording) l5 c5 k5).binds (ps := ["name", "at"]) (fun _ _ _ _ _ _ us hl => match us, hl with | [_, _], _ => rfl), PySem.W.mg_of X G a5⟩
    is_square := ⟨_, C6, _, ⟨_, _, _, _, _, _, _, _, _, rfl, l6, c6⟩, k6, (fun_mk (st := s_is_square) l6 c6 k6).binds (ps := ["table"]) (fun _ _ _ _ _ _ us hl => match us, hl with | [_], _ => rfl), PySem.W.mg_of X G a6⟩
    determinant := ⟨_, _, fun_mk (st := s_determinant) l7 c7 k7, (fun_mk (st := s_determinant) l7 c7 k7).binds (ps := ["numbers"]) (fun _ _ _ _ _ _ us hl => match us, hl with | [_], _ => rfl), PySem.W.mg_of X G a7⟩
    lowest := ⟨_, _, fun_mk (st := s_lowest) l8 c8 k8, (fun_mk (st := s_lowest) l8 c8 k8).binds (ps := ["n", "d"]) (fun _ _ _ _ _ _ us hl => match us, hl with | [_, _], _ => rfl), PySem.W.mg_of X G a8⟩
    common_below := ⟨_, _, fun_mk (st := s_common_below) l9 c9 k9, (fun_mk (st := s_common_below) l9 c9 k9).binds (ps := ["many"]) (fun _ _ _ _ _ _ us hl => match us, hl with | [_], _ => rfl), PySem.W.mg_of X G a9⟩
    whole := ⟨_, _, fun_mk (st := s_whole) l10 c10 k10, (fun_mk (st := s_whole) l10 c10 k10).binds (ps := ["many", "below"]) (fun _ _ _ _ _ _ us hl => match us, hl with | [_, _], _ => rfl), PySem.W.mg_of X G a10⟩
    solved := ⟨_, C11, _, ⟨_, _, _, _, _, _, _, _, _, rfl, l11, c11⟩, k11, (fun_mk (st := s_solved) l11 c11 k11).binds (ps := ["rows", "right"]) (fun _ _ _ _ _ _ us hl => match us, hl with | [_, _], _ => rfl), PySem.W.mg_of X G a11⟩
    law_draws := ⟨_, _, fun_mk (st := s_law_draws) l12 c12 k12, (fun_mk (st := s_law_draws) l12 c12 k12).binds (ps := ["script"]) (fun _ _ _ _ _ _ us hl => match us, hl with | [_], _ => rfl), PySem.W.mg_of X G a12⟩
    law_mix := ⟨_, _, fun_mk (st := s_law_mix) l13 c13 k13, (fun_mk (st := s_law_mix) l13 c13 k13).binds (ps := ["draws", "k", "many"]) (fun _ _ _ _ _ _ us hl => match us, hl with | [_, _, _], _ => rfl), PySem.W.mg_of X G a13⟩
    law_determinant := ⟨_, _, fun_mk (st := s_law_determinant) l14 c14 k14, (fun_mk (st := s_law_determinant) l14 c14 k14).binds (ps := ["numbers"]) (fun _ _ _ _ _ _ us hl => match us, hl with | [_], _ => rfl), PySem.W.mg_of X G a14⟩
    law_common := ⟨_, _, fun_mk (st := s_law_common) l15 c15 k15, (fun_mk (st := s_law_common) l15 c15 k15).binds (ps := ["one", "two"]) (fun _ _ _ _ _ _ us hl => match us, hl with | [_, _], _ => rfl), PySem.W.mg_of X G a15⟩
    law_ratio := ⟨_, _, fun_mk (st := s_law_ratio) l16 c16 k16, (fun_mk (st := s_law_ratio) l16 c16 k16).binds (ps := ["n", "d"]) (fun _ _ _ _ _ _ us hl => match us, hl with | [_, _], _ => rfl), PySem.W.mg_of X G a16⟩
    law_add := ⟨_, _, fun_mk (st := s_law_add) l17 c17 k17, (fun_mk (st := s_law_add) l17 c17 k17).binds (ps := ["one", "two"]) (fun _ _ _ _ _ _ us hl => match us, hl with | [_, _], _ => rfl), PySem.W.mg_of X G a17⟩
    law_multiply := ⟨_, _, fun_mk (st := s_law_multiply) l18 c18 k18, (fun_mk (st := s_law_multiply) l18 c18 k18).binds (ps := ["one", "two"]) (fun _ _ _ _ _ _ us hl => match us, hl with | [_, _], _ => rfl), PySem.W.mg_of X G a18⟩
    law_drawn_ratio := ⟨_, _, fun_mk (st := s_law_drawn_ratio) l19 c19 k19, (fun_mk (st := s_law_drawn_ratio) l19 c19 k19).binds (ps := ["draws", "k"]) (fun _ _ _ _ _ _ us hl => match us, hl with | [_, _], _ => rfl), PySem.W.mg_of X G a19⟩
    law_is_integer := ⟨_, _, fun_mk (st := s_law_is_integer) l20 c20 k20, (fun_mk (st := s_law_is_integer) l20 c20 k20).binds (ps := ["actual"]) (fun _ _ _ _ _ _ us hl => match us, hl with | [_], _ => rfl), PySem.W.mg_of X G a20⟩
    law_refused := ⟨_, _, fun_mk (st := s_law_refused) l21 c21 k21, (fun_mk (st := s_law_refused) l21 c21 k21).binds (ps := ["rows", "right"]) (fun _ _ _ _ _ _ us hl => match us, hl with | [_, _], _ => rfl), PySem.W.mg_of X G a21⟩
    law_keeps := ⟨_, _, fun_mk (st := s_law_keeps) l22 c22 k22, (fun_mk (st := s_law_keeps) l22 c22 k22).binds (ps := ["rows", "right", "values"]) (fun _ _ _ _ _ _ us hl => match us, hl with | [_, _, _], _ => rfl), PySem.W.mg_of X G a22⟩
    law_are_ratios := ⟨_, _, fun_mk (st := s_law_are_ratios) l23 c23 k23, (fun_mk (st := s_law_are_ratios) l23 c23 k23).binds (ps := ["values", "many"]) (fun _ _ _ _ _ _ us hl => match us, hl with | [_, _], _ => rfl), PySem.W.mg_of X G a23⟩
    law := ⟨_, _, fun_mk (st := s_law) l24 c24 k24, (fun_mk (st := s_law) l24 c24 k24).binds (ps := ["script"]) (fun _ _ _ _ _ _ us hl => match us, hl with | [_], _ => rfl), PySem.W.mg_of X G a24⟩
    m_abs := PySem.W.mg_none_of X G z_abs
    m_all := PySem.W.mg_none_of X G z_all
    m_bool := PySem.W.mg_none_of X G z_bool
    m_int := PySem.W.mg_none_of X G z_int
    m_isinstance := PySem.W.mg_none_of X G z_isinstance
    m_len := PySem.W.mg_none_of X G z_len
    m_list := PySem.W.mg_none_of X G z_list
    m_max := PySem.W.mg_none_of X G z_max
    m_min := PySem.W.mg_none_of X G z_min
    m_range := PySem.W.mg_none_of X G z_range
    m_repr := PySem.W.mg_none_of X G z_repr
    m_reversed := PySem.W.mg_none_of X G z_reversed
    m_tuple := PySem.W.mg_none_of X G z_tuple
    m_zip := PySem.W.mg_none_of X G z_zip
    x_gcd := PySem.W.mg_of X G y_gcd
    x_lcm := PySem.W.mg_of X G y_lcm
  }
  let E : Errs K mg := {
    e0 := ⟨CM, fI, _, fun_mk (st := s_init) lI cI kI, (fun_mk (st := s_init) lI cI kI).binds (ps := ["self", "at"]) (fun _ _ _ _ _ _ us hl => match us, hl with | [_, _], _ => rfl), tI, PySem.W.mg_of X G aM, PySem.W.mg_none_of X G zV, vV⟩
    WrongSize := { C := e0_C, nm := e0_nk, named := ⟨⟨e0_cl, e0_ga, e0_gg, e0_be, e0_at, xsp, xtk, e0_mr⟩, e0_rd, e0_fc, e0_ty, ⟨_, _, e0_x, rfl⟩, e0_sz⟩, oex := ⟨⟨_, _, _, _, _, _, _, _, _, _, _, _, _, _, _, e0_x, LX.refs_one _⟩, e0_sa, e0_be, e0_ty, e0_ke⟩, noAt := e0_no, iC := e0_in, g := PySem.W.mg_of X G e0_a, exm := LX.exm_is bM iM tM e0_sM, kit := LX.kit_self _ _, xf := ⟨e0_ga, e0_gg, e0_be, e0_hd⟩ }
  }
  refine ⟨PySem.W.fnOf "law" "law" (defArgs s_law) (defBody s_law) (defScope s_law) .none kV24 dc24 pm24 an24 cd24 ct24, [(C6, P6), (C11, P11)], sp_law K P6 P11, ?_, ?_, ?_, fun s v => .of_eq rfl, fun H a ns hl ht hS => ?_, fun base _ _ tb => ok_law T E (tb (C6, P6) (by simp)) (tb (C11, P11) (by simp))⟩
  · intro p hp; simp only [List.mem_cons, List.not_mem_nil, or_false] at hp; rcases hp with rfl | rfl
    · exact b6.1
    · exact b11.1
  · intro p hp; simp only [List.mem_cons, List.not_mem_nil, or_false] at hp; rcases hp with rfl | rfl
    · exact n6
    · exact n11
  · intro p hp; simp only [List.mem_cons, List.not_mem_nil, or_false] at hp; rcases hp with rfl | rfl
    · exact b6.2
    · exact b11.2
  · exact ⟨a, ns, rfl, hS, hl, ⟨#[], ht (C6, P6) (by simp), trivial⟩, ⟨#[], ht (C11, P11) (by simp), trivial⟩, fun _ => rfl⟩
end
end K67

open PySem PySem.W PyProof.Rows in
set_option maxRecDepth 100000 in
set_option maxHeartbeats 0 in
theorem PySem.Challenge.cw_unsaidsizes_k67_equations_solved_holds : PySem.Challenge.rw_unsaidsizes_k67_equations_solved.Holds := by
  w_on; o_law; k_head; (case hw => w_witness2)
  k_fill
  refine LG.walkGT (l := PySem.Challenge.rw_unsaidsizes_k67_equations_solved) (n := 63) (k := 7) (x := "script") ["_is_square", "solved"] rfl (by decide) rfl ⟨rfl, by decide, by decide⟩ (by kernel_rfl) (fun w h Y => PySem.W.kIn_of Y) ?F
  case F =>
    intro w mg fa h KX G hmg bare
    refine' K67.all_mk KX G hmg ?a0 ?l0 ?c0 ?k0 ?a1 ?l1 ?c1 ?k1 ?a2 ?l2 ?c2 ?k2 ?a3 ?l3 ?c3 ?k3 ?a4 ?l4 ?c4 ?k4 ?a5 ?l5 ?c5 ?k5 ?a6 ?l6 ?c6 ?k6 ?t6 ?p6 ?n6 ?a7 ?l7 ?c7 ?k7 ?a8 ?l8 ?c8 ?k8 ?a9 ?l9 ?c9 ?k9 ?a10 ?l10 ?c10 ?k10 ?a11 ?l11 ?c11 ?k11 ?t11 ?p11 ?n11 ?a12 ?l12 ?c12 ?k12 ?a13 ?l13 ?c13 ?k13 ?a14 ?l14 ?c14 ?k14 ?a15 ?l15 ?c15 ?k15 ?a16 ?l16 ?c16 ?k16 ?a17 ?l17 ?c17 ?k17 ?a18 ?l18 ?c18 ?k18 ?a19 ?l19 ?c19 ?k19 ?a20 ?l20 ?c20 ?k20 ?a21 ?l21 ?c21 ?k21 ?a22 ?l22 ?c22 ?k22 ?a23 ?l23 ?c23 ?k23 ?a24 ?l24 ?c24 ?k24 ?z_abs ?z_all ?z_bool ?z_int ?z_isinstance ?z_len ?z_list ?z_max ?z_min ?z_range ?z_repr ?z_reversed ?z_tuple ?z_zip ?y_gcd ?y_lcm ?aM ?zV ?vV ?iM ?tM ?bM ?iI ?lI ?cI ?kI ?tI ?xsp ?xtk ?e0_a ?e0_x ?e0_sz ?e0_sa ?e0_ga ?e0_gg ?e0_no ?e0_in ?e0_be ?e0_ty ?e0_ke ?e0_hd ?e0_cl ?e0_at ?e0_mr ?e0_rd ?e0_fc ?e0_sM bare
    (case a0 => k_is)
    (case l0 => k_is)
    (case c0 => k_is)
    (case k0 => k_is)
    (case a1 => k_is)
    (case l1 => k_is)
    (case c1 => k_is)
    (case k1 => k_is)
    (case a2 => k_is)
    (case l2 => k_is)
    (case c2 => k_is)
    (case k2 => k_is)
    (case a3 => k_is)
    (case l3 => k_is)
    (case c3 => k_is)
    (case k3 => k_is)
    (case a4 => k_is)
    (case l4 => k_is)
    (case c4 => k_is)
    (case k4 => k_is)
    (case a5 => k_is)
    (case l5 => k_is)
    (case c5 => k_is)
    (case k5 => k_is)
    (case a6 => k_is)
    (case l6 => k_is)
    (case c6 => k_is)
    (case k6 => k_is)
    (case t6 => k_is)
    (case p6 => rfl)
    (case n6 => first | kernel_rfl | rfl)
    (case a7 => k_is)
    (case l7 => k_is)
    (case c7 => k_is)
    (case k7 => k_is)
    (case a8 => k_is)
    (case l8 => k_is)
    (case c8 => k_is)
    (case k8 => k_is)
    (case a9 => k_is)
    (case l9 => k_is)
    (case c9 => k_is)
    (case k9 => k_is)
    (case a10 => k_is)
    (case l10 => k_is)
    (case c10 => k_is)
    (case k10 => k_is)
    (case a11 => k_is)
    (case l11 => k_is)
    (case c11 => k_is)
    (case k11 => k_is)
    (case t11 => k_is)
    (case p11 => rfl)
    (case n11 => first | kernel_rfl | rfl)
    (case a12 => k_is)
    (case l12 => k_is)
    (case c12 => k_is)
    (case k12 => k_is)
    (case a13 => k_is)
    (case l13 => k_is)
    (case c13 => k_is)
    (case k13 => k_is)
    (case a14 => k_is)
    (case l14 => k_is)
    (case c14 => k_is)
    (case k14 => k_is)
    (case a15 => k_is)
    (case l15 => k_is)
    (case c15 => k_is)
    (case k15 => k_is)
    (case a16 => k_is)
    (case l16 => k_is)
    (case c16 => k_is)
    (case k16 => k_is)
    (case a17 => k_is)
    (case l17 => k_is)
    (case c17 => k_is)
    (case k17 => k_is)
    (case a18 => k_is)
    (case l18 => k_is)
    (case c18 => k_is)
    (case k18 => k_is)
    (case a19 => k_is)
    (case l19 => k_is)
    (case c19 => k_is)
    (case k19 => k_is)
    (case a20 => k_is)
    (case l20 => k_is)
    (case c20 => k_is)
    (case k20 => k_is)
    (case a21 => k_is)
    (case l21 => k_is)
    (case c21 => k_is)
    (case k21 => k_is)
    (case a22 => k_is)
    (case l22 => k_is)
    (case c22 => k_is)
    (case k22 => k_is)
    (case a23 => k_is)
    (case l23 => k_is)
    (case c23 => k_is)
    (case k23 => k_is)
    (case a24 => k_is)
    (case l24 => k_is)
    (case c24 => k_is)
    (case k24 => k_is)
    (case z_abs => k_is)
    (case z_all => k_is)
    (case z_bool => k_is)
    (case z_int => k_is)
    (case z_isinstance => k_is)
    (case z_len => k_is)
    (case z_list => k_is)
    (case z_max => k_is)
    (case z_min => k_is)
    (case z_range => k_is)
    (case z_repr => k_is)
    (case z_reversed => k_is)
    (case z_tuple => k_is)
    (case z_zip => k_is)
    (case y_gcd => k_is)
    (case y_lcm => k_is)
    (case aM => k_is)
    (case zV => k_is)
    (case vV => k_is)
    (case iM => k_is)
    (case tM => k_is)
    (case bM => k_is)
    (case iI => k_is)
    (case lI => k_is)
    (case cI => k_is)
    (case kI => k_is)
    (case tI => k_is)
    (case xsp => k_is)
    (case xtk => k_is)
    (case e0_a => k_is)
    (case e0_x => k_is)
    (case e0_sz => decide +kernel)
    (case e0_sa => k_is)
    (case e0_ga => k_is)
    (case e0_gg => k_is)
    (case e0_no => k_is)
    (case e0_in => k_is)
    (case e0_be => k_is)
    (case e0_ty => k_is)
    (case e0_ke => k_is)
    (case e0_hd => k_is)
    (case e0_cl => k_is)
    (case e0_at => k_is)
    (case e0_mr => k_is)
    (case e0_rd => k_is)
    (case e0_fc => k_is)
    (case e0_sM => k_is)
